/- What is proved here: what Parse of package dec does, walked; conditions: the text has at most 100000 bytes. -/
import Derived.Test.YtmlmplmghlbdmaaGreatDoorAp
namespace Go.Proofs.YtmlmplmghlbdmaaGreatDoor
open Go.RowKit
set_option linter.unusedVariables false
set_option linter.unusedSimpArgs false

/-- What Parse hands back. -/
def pV (r : Option (Option Dm.D)) : Value := match r with
  | none => .tuple #[zV, .int .i64 4]
  | some r => rV r

theorem cut_b (s p u : ByteArray) (ng : Bool) (w : World) (h1 : Lib.trimPrefix s.data.toList p.data.toList = u.data.toList) (h2 : Lib.hasPrefix s.data.toList p.data.toList = ng) :
    Calls Tryz.prog 72 #[.string s, .string p] w fun e w' => e = .returned (.tuple #[.string u, .bool ng]) ∧ w' = w := by
  have := Tryz.strings_CutPrefix s p w
  rw [h1, h2, Go.Lib.mk_data] at this
  exact this
theorem cutDigits_b (s wh re : ByteArray) (w : World) (hs : s.size ≤ maxLen) (h1 : s.data.toList.takeWhile Dm.isD = wh.data.toList) (h2 : s.data.toList.dropWhile Dm.isD = re.data.toList) :
    Calls Tryz.prog 97 #[.string s] w fun e w' => e = .returned (.tuple #[.string wh, .string re]) ∧ Below w.heap.size w w' := by
  have := cutDigits_any s w hs
  rw [h1, h2, Go.Lib.mk_data, Go.Lib.mk_data] at this
  exact this
theorem exponent_b (s : ByteArray) (t : Int) (b : Bool) (w : World) (hs : s.size ≤ maxLen) (h1 : (Dm.expL s.data.toList).getD 0 = t) (h2 : (Dm.expL s.data.toList).isSome = b) :
    Calls Tryz.prog 98 #[.string s] w fun e w' => e = .returned (.tuple #[.int .i64 t, .bool b]) ∧ Below w.heap.size w w' := by
  have := exponent_any s w hs
  rw [h1, h2] at this
  exact this
def Zb : Obj := .cells #[.bool false, .string ⟨#[]⟩, .int .i64 0] 23
set_option maxRecDepth 100000 in
set_option maxHeartbeats 1000000 in
theorem parse_p1 (s u wh re : ByteArray) (ng : Bool) (w : World) (hu : Lib.trimPrefix s.data.toList [45] = u.data.toList) (hng : Lib.hasPrefix s.data.toList [45] = ng) (hus : u.size ≤ maxLen)
    (hwh : u.data.toList.takeWhile Dm.isD = wh.data.toList) (hre : u.data.toList.dropWhile Dm.isD = re.data.toList) (hbad : wh.toList.isEmpty = true ∨ (wh.toList.isEmpty = false ∧ ∃ h : 1 < wh.size, (wh[0].toNat : Int) = 48)) :
    Calls Tryz.prog 70 #[.string s] w fun e w' => e = .returned (pV none) ∧ Below w.heap.size w w' := by
  have HU := hide hu
  have HN := hide hng
  have H1 := hide hwh
  have H2 := hide hre
  clear hu hng hwh hre
  have hb1 : ∀ O, Below w.heap.size w (w.alloc O) := fun O => (Below.refl _ _).alloc (Nat.le_refl _) _
  rcases hbad with hbad | ⟨hb0, hb2, hb3⟩
  · go_enter Tryz.func70, Tryz.ntmps70
    go_wp2_with (first | (go_at_call 72; refine (cut_b s ⟨#[45]⟩ u ng _ (unhide HU) (unhide HN)).mono ?_; rintro e w' ⟨rfl, rfl⟩) | (go_at_call 97; refine (cutDigits_b u wh re _ hus (unhide H1) (unhide H2)).mono ?_; rintro e w' ⟨rfl, hbw⟩; have ho := (Own.start w).step hbw; clear hbw; obtain ⟨k0, k1, k2, f0, f1, f2⟩ := ho.facts))
    exact bodyPost_ret (v := pV none) (by simp [results, Tryz.results70, go_sem, pV, zV, k0, k1, k2]) rfl ⟨rfl, ho.end _ _ _⟩
  · go_enter Tryz.func70, Tryz.ntmps70
    go_wp2_with (first | (go_at_call 72; refine (cut_b s ⟨#[45]⟩ u ng _ (unhide HU) (unhide HN)).mono ?_; rintro e w' ⟨rfl, rfl⟩) | (go_at_call 97; refine (cutDigits_b u wh re _ hus (unhide H1) (unhide H2)).mono ?_; rintro e w' ⟨rfl, hbw⟩; have ho := (Own.start w).step hbw; clear hbw; obtain ⟨k0, k1, k2, f0, f1, f2⟩ := ho.facts))
    exact bodyPost_ret (v := pV none) (by simp [results, Tryz.results70, go_sem, pV, zV, k0, k1, k2]) rfl ⟨rfl, ho.end _ _ _⟩

set_option maxRecDepth 100000 in
set_option maxHeartbeats 1000000 in
theorem parse_p3n (s u wh re : ByteArray) (ng : Bool) (w : World) (hu : Lib.trimPrefix s.data.toList [45] = u.data.toList) (hng : Lib.hasPrefix s.data.toList [45] = ng) (hus : u.size ≤ maxLen)
    (hwh : u.data.toList.takeWhile Dm.isD = wh.data.toList) (hre : u.data.toList.dropWhile Dm.isD = re.data.toList) (hw0 : wh.toList.isEmpty = false) (hw1 : ¬ 1 < wh.size ∨ ∃ h : 1 < wh.size, ¬ (wh[0].toNat : Int) = 48)
    (hrs : re.size ≤ maxLen) (hp1 : Lib.trimPrefix re.data.toList [46] = re.data.toList) (hp2 : Lib.hasPrefix re.data.toList [46] = false) (he : Dm.expL re.data.toList = none) :
    Calls Tryz.prog 70 #[.string s] w fun e w' => e = .returned (pV none) ∧ Below w.heap.size w w' := by
  have HU := hide hu
  have HN := hide hng
  have H1 := hide hwh
  have H2 := hide hre
  have HP1 := hide hp1
  have HP2 := hide hp2
  clear hu hng hwh hre hp1 hp2
  have HE1 : Hid ((Dm.expL re.data.toList).getD 0 = 0) := by rw [he]; rfl
  have HE2 : Hid ((Dm.expL re.data.toList).isSome = false) := by rw [he]; rfl
  clear he
  have tok1 : True := trivial
  have tok2 : True := trivial
  rcases hw1 with hw1 | ⟨hw1, hw2⟩
  all_goals
    go_enter Tryz.func70, Tryz.ntmps70
    go_wp2_with (first | (go_at_call 72; have _t := tok1; refine (cut_b s ⟨#[45]⟩ u ng _ (unhide HU) (unhide HN)).mono ?_; rintro e w' ⟨rfl, rfl⟩; clear tok1 _t) | (go_at_call 97; have _t := tok2; refine (cutDigits_b u wh re _ hus (unhide H1) (unhide H2)).mono ?_; rintro e w' ⟨rfl, hbw⟩; have ho := (Own.start w).step hbw; clear tok2 _t hbw; obtain ⟨k0, k1, k2, f0, f1, f2⟩ := ho.facts) | (go_at_call 72; refine (cut_b re ⟨#[46]⟩ re false _ (unhide HP1) (unhide HP2)).mono ?_; rintro e w' ⟨rfl, rfl⟩) | (go_at_call 98; refine (exponent_b re 0 false _ hrs (unhide HE1) (unhide HE2)).mono ?_; rintro e w' ⟨rfl, hbw⟩; have ho1 := ho.step hbw; clear hbw ho k0 k1 k2 f0 f1 f2; have ho := ho1; clear ho1; obtain ⟨k0, k1, k2, f0, f1, f2⟩ := ho.facts))
    exact bodyPost_ret (v := pV none) (by simp [results, Tryz.results70, go_sem, pV, zV, k0, k1, k2]) rfl ⟨rfl, ho.end _ _ _⟩

theorem fit_n (ng : Bool) (b n c : Nat) (ds : List UInt8) (sc : Int) (w : World) (hn : ds.length = n) (h0 : 0 < n) (hnc : n ≤ c) (hc : c ≤ 9223372036854775807) (hn1 : n ≤ 1000000) (hs0 : -1000000 ≤ sc) (hs1 : sc ≤ 1000000) (hr : Row w b 0 ds) (hf : Dm.fitL ng ds sc = none) :
    Calls Tryz.prog 74 #[.bool ng, .slice (some ⟨b, 0, none⟩) n c, .int .i64 sc] w fun e w' => e = .returned (.tuple #[.agg #[.bool false, .string ⟨#[]⟩, .int .i64 0], .int .i64 3]) ∧ Below w.heap.size w w' := by
  have := fit_any ng b 0 n c ds sc w hn h0 hnc hc hn1 hs0 hs1 hr
  rw [hf] at this; exact this
theorem fit_s (ng : Bool) (b n c : Nat) (ds : List UInt8) (sc : Int) (w : World) (hn : ds.length = n) (h0 : 0 < n) (hnc : n ≤ c) (hc : c ≤ 9223372036854775807) (hn1 : n ≤ 1000000) (hs0 : -1000000 ≤ sc) (hs1 : sc ≤ 1000000) (hr : Row w b 0 ds) (x : Bool) (y : List UInt8) (z : Nat) (hf : Dm.fitL ng ds sc = some ⟨x, y, z⟩) :
    Calls Tryz.prog 74 #[.bool ng, .slice (some ⟨b, 0, none⟩) n c, .int .i64 sc] w fun e w' => e = .returned (.tuple #[.agg #[.bool x, .string ⟨y.toArray⟩, .int .i64 (z : Int)], .int .i64 0]) ∧ Below w.heap.size w w' := by
  have := fit_any ng b 0 n c ds sc w hn h0 hnc hc hn1 hs0 hs1 hr
  rw [hf] at this; exact this
theorem Own.row {w0 w w' : World} (h : Own w0 w) (hb : Below w.heap.size w w') : Own w0 w' := h.step hb

set_option maxRecDepth 100000 in
set_option maxHeartbeats 1000000 in
theorem parse_p3s (s u wh re : ByteArray) (ng : Bool) (w : World) (hu : Lib.trimPrefix s.data.toList [45] = u.data.toList) (hng : Lib.hasPrefix s.data.toList [45] = ng) (hus : u.size ≤ maxLen)
    (hwh : u.data.toList.takeWhile Dm.isD = wh.data.toList) (hre : u.data.toList.dropWhile Dm.isD = re.data.toList) (hw0 : wh.toList.isEmpty = false) (hw1 : ¬ 1 < wh.size ∨ ∃ h : 1 < wh.size, ¬ (wh[0].toNat : Int) = 48)
    (hrs : re.size ≤ maxLen) (hp1 : Lib.trimPrefix re.data.toList [46] = re.data.toList) (hp2 : Lib.hasPrefix re.data.toList [46] = false) (t : Int) (he : Dm.expL re.data.toList = some t) (ht1 : -1000 ≤ t) (ht2 : t ≤ 1000) (hws : wh.size ≤ 100000) :
    Calls Tryz.prog 70 #[.string s] w fun e w' => e = .returned (pV (some (Dm.fitL ng wh.data.toList (0 - t)))) ∧ Below w.heap.size w w' := by
  have HU := hide hu
  have HN := hide hng
  have H1 := hide hwh
  have H2 := hide hre
  have HP1 := hide hp1
  have HP2 := hide hp2
  clear hu hng hwh hre hp1 hp2
  have HE1 : Hid ((Dm.expL re.data.toList).getD 0 = t) := by rw [he]; rfl
  have HE2 : Hid ((Dm.expL re.data.toList).isSome = true) := by rw [he]; rfl
  clear he
  have tok1 : True := trivial
  have tok2 : True := trivial
  have h0 : 0 < wh.size := by
    have : wh.data.toList.isEmpty = false := by rw [← toList_eq]; exact hw0
    rw [size_len]
    cases hd : wh.data.toList with
    | nil => rw [hd] at this; cases this
    | cons => simp
  have hwl : wh.data.toList.length = wh.size := (size_len wh).symm
  have HWL := hide hwl
  clear hwl
  cases hf : Dm.fitL ng wh.data.toList (-t) with
  | none =>
    have HF := hide hf
    have hfin : pV (some (Dm.fitL ng wh.data.toList (0 - t))) = .tuple #[.agg #[.bool false, .string ⟨#[]⟩, .int .i64 0], .int .i64 3] := by rw [show 0 - t = -t by omega, hf]; rfl
    rw [hfin]
    clear hf hfin
    rcases hw1 with hw1 | ⟨hw1, hw2⟩
    all_goals
      go_enter Tryz.func70, Tryz.ntmps70
      go_wp2_with (first | (go_at_call 72; have _t := tok1; refine (cut_b s ⟨#[45]⟩ u ng _ (unhide HU) (unhide HN)).mono ?_; rintro e w' ⟨rfl, rfl⟩; clear tok1 _t) | (go_at_call 97; have _t := tok2; refine (cutDigits_b u wh re _ hus (unhide H1) (unhide H2)).mono ?_; rintro e w' ⟨rfl, hbw⟩; have ho := (Own.start w).step hbw; clear tok2 _t hbw; obtain ⟨k0, k1, k2, f0, f1, f2⟩ := ho.facts) | (go_at_call 72; refine (cut_b re ⟨#[46]⟩ re false _ (unhide HP1) (unhide HP2)).mono ?_; rintro e w' ⟨rfl, rfl⟩) | (go_at_call 98; refine (exponent_b re t true _ hrs (unhide HE1) (unhide HE2)).mono ?_; rintro e w' ⟨rfl, hbw⟩; have ho1 := ho.step hbw; clear hbw ho k0 k1 k2 f0 f1 f2; have ho := ho1; clear ho1; obtain ⟨k0, k1, k2, f0, f1, f2⟩ := ho.facts))
      have cv := Lib.run_convert_string_bytes (P := Tryz.prog) w' 9 38 5 wh Tryz.underlying9 Tryz.underlying38 Tryz.underlying5
      obtain ⟨g, c, w2, hr, hrow, hbel, hc1, hc2⟩ := appendText w' wh ⟨#[]⟩ hws (by decide)
      have HR := hide hr
      have HRow := hide hrow
      have ho2 := ho.step hbel
      clear hr hrow hbel
      go_wp2_with (at_builtin; refine wpList_append_runT _ rfl _ _ 38 9 rfl _ _ rfl rfl (unhide HR) ?_)
      refine (fit_n ng g wh.size c wh.data.toList (-t) w2 (unhide HWL) h0 hc1 hc2 (by omega) (by omega) (by omega) (by have := unhide HRow; rw [List.append_nil] at this; exact this) (unhide HF)).mono ?_
      rintro e w3 ⟨rfl, hb3⟩
      have ho3 := ho2.step hb3
      obtain ⟨j0, j1, j2, i0, i1, i2⟩ := ho3.facts
      clear k0 k1 k2 f0 f1 f2 ho ho2 hb3 cv HR HRow
      go_wp2
      exact bodyPost_ret (v := .tuple #[.agg #[.bool false, .string ⟨#[]⟩, .int .i64 0], .int .i64 3]) (by simp [results, Tryz.results70, go_sem, j0, j1, j2]) rfl ⟨rfl, ho3.end _ _ _⟩
  | some d =>
    obtain ⟨x, y, z⟩ := d
    have HF := hide hf
    have hfin : pV (some (Dm.fitL ng wh.data.toList (0 - t))) = .tuple #[.agg #[.bool x, .string ⟨y.toArray⟩, .int .i64 (z : Int)], .int .i64 0] := by rw [show 0 - t = -t by omega, hf]; rfl
    rw [hfin]
    clear hf hfin
    rcases hw1 with hw1 | ⟨hw1, hw2⟩
    all_goals
      go_enter Tryz.func70, Tryz.ntmps70
      go_wp2_with (first | (go_at_call 72; have _t := tok1; refine (cut_b s ⟨#[45]⟩ u ng _ (unhide HU) (unhide HN)).mono ?_; rintro e w' ⟨rfl, rfl⟩; clear tok1 _t) | (go_at_call 97; have _t := tok2; refine (cutDigits_b u wh re _ hus (unhide H1) (unhide H2)).mono ?_; rintro e w' ⟨rfl, hbw⟩; have ho := (Own.start w).step hbw; clear tok2 _t hbw; obtain ⟨k0, k1, k2, f0, f1, f2⟩ := ho.facts) | (go_at_call 72; refine (cut_b re ⟨#[46]⟩ re false _ (unhide HP1) (unhide HP2)).mono ?_; rintro e w' ⟨rfl, rfl⟩) | (go_at_call 98; refine (exponent_b re t true _ hrs (unhide HE1) (unhide HE2)).mono ?_; rintro e w' ⟨rfl, hbw⟩; have ho1 := ho.step hbw; clear hbw ho k0 k1 k2 f0 f1 f2; have ho := ho1; clear ho1; obtain ⟨k0, k1, k2, f0, f1, f2⟩ := ho.facts))
      have cv := Lib.run_convert_string_bytes (P := Tryz.prog) w' 9 38 5 wh Tryz.underlying9 Tryz.underlying38 Tryz.underlying5
      obtain ⟨g, c, w2, hr, hrow, hbel, hc1, hc2⟩ := appendText w' wh ⟨#[]⟩ hws (by decide)
      have HR := hide hr
      have HRow := hide hrow
      have ho2 := ho.step hbel
      clear hr hrow hbel
      go_wp2_with (at_builtin; refine wpList_append_runT _ rfl _ _ 38 9 rfl _ _ rfl rfl (unhide HR) ?_)
      refine (fit_s ng g wh.size c wh.data.toList (-t) w2 (unhide HWL) h0 hc1 hc2 (by omega) (by omega) (by omega) (by have := unhide HRow; rw [List.append_nil] at this; exact this) x y z (unhide HF)).mono ?_
      rintro e w3 ⟨rfl, hb3⟩
      have ho3 := ho2.step hb3
      obtain ⟨j0, j1, j2, i0, i1, i2⟩ := ho3.facts
      clear k0 k1 k2 f0 f1 f2 ho ho2 hb3 cv HR HRow
      go_wp2
      exact bodyPost_ret (v := .tuple #[.agg #[.bool x, .string ⟨y.toArray⟩, .int .i64 (z : Int)], .int .i64 0]) (by simp [results, Tryz.results70, go_sem, j0, j1, j2]) rfl ⟨rfl, ho3.end _ _ _⟩
end Go.Proofs.YtmlmplmghlbdmaaGreatDoor
