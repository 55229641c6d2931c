/- What is proved here: what Parse of package dec does where there is a point, walked; conditions: as each theorem states. -/
import Derived.Test.YtmlmplmghlbdmaaGreatDoorWf
namespace Go.Proofs.YtmlmplmghlbdmaaGreatDoor
open Go.RowKit
set_option linter.unusedVariables false
set_option linter.unusedSimpArgs false

set_option maxRecDepth 100000 in
set_option maxHeartbeats 1000000 in
theorem parse_p3e (s u wh re be pa r2 : ByteArray) (ng : Bool) (w : World) (hu : Lib.trimPrefix s.data.toList [45] = u.data.toList) (hng : Lib.hasPrefix s.data.toList [45] = ng) (hus : u.size ≤ maxLen)
    (hwh : u.data.toList.takeWhile Dm.isD = wh.data.toList) (hre : u.data.toList.dropWhile Dm.isD = re.data.toList) (hw0 : wh.toList.isEmpty = false) (hw1 : ¬ 1 < wh.size ∨ ∃ h : 1 < wh.size, ¬ (wh[0].toNat : Int) = 48)
    (hbs : be.size ≤ maxLen) (hp1 : Lib.trimPrefix re.data.toList [46] = be.data.toList) (hp2 : Lib.hasPrefix re.data.toList [46] = true)
    (hpa : be.data.toList.takeWhile Dm.isD = pa.data.toList) (hr2 : be.data.toList.dropWhile Dm.isD = r2.data.toList)
    (hp0 : pa.toList.isEmpty = true) :
    Calls Tryz.prog 70 #[.string s] w fun e w' => e = .returned (pV none) ∧ Below w.heap.size w w' := by
  have HU := hide hu
  have HN := hide hng
  have H1 := hide hwh
  have H2 := hide hre
  have HP1 := hide hp1
  have HP2 := hide hp2
  have H3 := hide hpa
  have H4 := hide hr2
  clear hu hng hwh hre hp1 hp2 hpa hr2
  have tok1 : True := trivial
  have tok2 : True := trivial
  rcases hw1 with hw1 | ⟨hw1, hw2⟩
  all_goals
    go_enter Tryz.func70, Tryz.ntmps70
    go_wp2_with (first | (go_at_call 72; have _t := tok1; refine (cut_b s ⟨#[45]⟩ u ng _ (unhide HU) (unhide HN)).mono ?_; rintro e w' ⟨rfl, rfl⟩; clear tok1 _t) | (go_at_call 97; have _t := tok2; refine (cutDigits_b u wh re _ hus (unhide H1) (unhide H2)).mono ?_; rintro e w' ⟨rfl, hbw⟩; have ho := (Own.start w).step hbw; clear tok2 _t hbw; obtain ⟨k0, k1, k2, f0, f1, f2⟩ := ho.facts) | (go_at_call 72; refine (cut_b re ⟨#[46]⟩ be true _ (unhide HP1) (unhide HP2)).mono ?_; rintro e w' ⟨rfl, rfl⟩) | (go_at_call 97; refine (cutDigits_b be pa r2 _ hbs (unhide H3) (unhide H4)).mono ?_; rintro e w' ⟨rfl, hbw⟩; have ho1 := ho.step hbw; clear hbw ho k0 k1 k2 f0 f1 f2; have ho := ho1; clear ho1; obtain ⟨k0, k1, k2, f0, f1, f2⟩ := ho.facts))
    exact bodyPost_ret (v := pV none) (by simp [results, Tryz.results70, go_sem, pV, zV, k0, k1, k2]) rfl ⟨rfl, ho.end _ _ _⟩

set_option maxRecDepth 100000 in
set_option maxHeartbeats 1000000 in
theorem parse_p4n (s u wh re be pa r2 : ByteArray) (ng : Bool) (w : World) (hu : Lib.trimPrefix s.data.toList [45] = u.data.toList) (hng : Lib.hasPrefix s.data.toList [45] = ng) (hus : u.size ≤ maxLen)
    (hwh : u.data.toList.takeWhile Dm.isD = wh.data.toList) (hre : u.data.toList.dropWhile Dm.isD = re.data.toList) (hw0 : wh.toList.isEmpty = false) (hw1 : ¬ 1 < wh.size ∨ ∃ h : 1 < wh.size, ¬ (wh[0].toNat : Int) = 48)
    (hbs : be.size ≤ maxLen) (hp1 : Lib.trimPrefix re.data.toList [46] = be.data.toList) (hp2 : Lib.hasPrefix re.data.toList [46] = true)
    (hpa : be.data.toList.takeWhile Dm.isD = pa.data.toList) (hr2 : be.data.toList.dropWhile Dm.isD = r2.data.toList)
    (hp0 : pa.toList.isEmpty = false) (hrs : r2.size ≤ maxLen) (he : Dm.expL r2.data.toList = none) :
    Calls Tryz.prog 70 #[.string s] w fun e w' => e = .returned (pV none) ∧ Below w.heap.size w w' := by
  have HU := hide hu
  have HN := hide hng
  have H1 := hide hwh
  have H2 := hide hre
  have HP1 := hide hp1
  have HP2 := hide hp2
  have H3 := hide hpa
  have H4 := hide hr2
  clear hu hng hwh hre hp1 hp2 hpa hr2
  have tok1 : True := trivial
  have tok2 : True := trivial
  have HE1 : Hid ((Dm.expL r2.data.toList).getD 0 = 0) := by rw [he]; rfl
  have HE2 : Hid ((Dm.expL r2.data.toList).isSome = false) := by rw [he]; rfl
  clear he
  rcases hw1 with hw1 | ⟨hw1, hw2⟩
  all_goals
    go_enter Tryz.func70, Tryz.ntmps70
    go_wp2_with (first | (go_at_call 72; have _t := tok1; refine (cut_b s ⟨#[45]⟩ u ng _ (unhide HU) (unhide HN)).mono ?_; rintro e w' ⟨rfl, rfl⟩; clear tok1 _t) | (go_at_call 97; have _t := tok2; refine (cutDigits_b u wh re _ hus (unhide H1) (unhide H2)).mono ?_; rintro e w' ⟨rfl, hbw⟩; have ho := (Own.start w).step hbw; clear tok2 _t hbw; obtain ⟨k0, k1, k2, f0, f1, f2⟩ := ho.facts) | (go_at_call 72; refine (cut_b re ⟨#[46]⟩ be true _ (unhide HP1) (unhide HP2)).mono ?_; rintro e w' ⟨rfl, rfl⟩) | (go_at_call 97; refine (cutDigits_b be pa r2 _ hbs (unhide H3) (unhide H4)).mono ?_; rintro e w' ⟨rfl, hbw⟩; have ho1 := ho.step hbw; clear hbw ho k0 k1 k2 f0 f1 f2; have ho := ho1; clear ho1; obtain ⟨k0, k1, k2, f0, f1, f2⟩ := ho.facts) | (go_at_call 98; refine (exponent_b r2 0 false _ hrs (unhide HE1) (unhide HE2)).mono ?_; rintro e w' ⟨rfl, hbw⟩; have ho1 := ho.step hbw; clear hbw ho k0 k1 k2 f0 f1 f2; have ho := ho1; clear ho1; obtain ⟨k0, k1, k2, f0, f1, f2⟩ := ho.facts))
    exact bodyPost_ret (v := pV none) (by simp [results, Tryz.results70, go_sem, pV, zV, k0, k1, k2]) rfl ⟨rfl, ho.end _ _ _⟩

set_option maxRecDepth 100000 in
set_option maxHeartbeats 1000000 in
theorem parse_p4s (s u wh re be pa r2 : ByteArray) (ng : Bool) (w : World) (hu : Lib.trimPrefix s.data.toList [45] = u.data.toList) (hng : Lib.hasPrefix s.data.toList [45] = ng) (hus : u.size ≤ maxLen)
    (hwh : u.data.toList.takeWhile Dm.isD = wh.data.toList) (hre : u.data.toList.dropWhile Dm.isD = re.data.toList) (hw0 : wh.toList.isEmpty = false) (hw1 : ¬ 1 < wh.size ∨ ∃ h : 1 < wh.size, ¬ (wh[0].toNat : Int) = 48)
    (hbs : be.size ≤ maxLen) (hp1 : Lib.trimPrefix re.data.toList [46] = be.data.toList) (hp2 : Lib.hasPrefix re.data.toList [46] = true)
    (hpa : be.data.toList.takeWhile Dm.isD = pa.data.toList) (hr2 : be.data.toList.dropWhile Dm.isD = r2.data.toList)
    (hp0 : pa.toList.isEmpty = false) (hrs : r2.size ≤ maxLen) (t : Int) (he : Dm.expL r2.data.toList = some t) (ht1 : -1000 ≤ t) (ht2 : t ≤ 1000) (hws : wh.size ≤ 100000) (hps : pa.size ≤ 100000) :
    Calls Tryz.prog 70 #[.string s] w fun e w' => e = .returned (pV (some (Dm.fitL ng (wh.data.toList ++ pa.data.toList) ((pa.size : Int) - t)))) ∧ Below w.heap.size w w' := by
  have HU := hide hu
  have HN := hide hng
  have H1 := hide hwh
  have H2 := hide hre
  have HP1 := hide hp1
  have HP2 := hide hp2
  have H3 := hide hpa
  have H4 := hide hr2
  clear hu hng hwh hre hp1 hp2 hpa hr2
  have tok1 : True := trivial
  have tok2 : True := trivial
  have HE1 : Hid ((Dm.expL r2.data.toList).getD 0 = t) := by rw [he]; rfl
  have HE2 : Hid ((Dm.expL r2.data.toList).isSome = true) := by rw [he]; rfl
  clear he
  have h0 : 0 < wh.size := by
    have : wh.data.toList.isEmpty = false := by rw [← toList_eq]; exact hw0
    rw [size_len]
    cases hd : wh.data.toList with
    | nil => rw [hd] at this; cases this
    | cons => simp
  have hwl : (wh.data.toList ++ pa.data.toList).length = wh.size + pa.size := by rw [List.length_append, ← size_len, ← size_len]
  have HWL := hide hwl
  clear hwl
  cases hf : Dm.fitL ng (wh.data.toList ++ pa.data.toList) ((pa.size : Int) - t) with
  | none =>
    have HF := hide hf
    clear hf
    rcases hw1 with hw1 | ⟨hw1, hw2⟩
    all_goals
      go_enter Tryz.func70, Tryz.ntmps70
      go_wp2_with (first | (go_at_call 72; have _t := tok1; refine (cut_b s ⟨#[45]⟩ u ng _ (unhide HU) (unhide HN)).mono ?_; rintro e w' ⟨rfl, rfl⟩; clear tok1 _t) | (go_at_call 97; have _t := tok2; refine (cutDigits_b u wh re _ hus (unhide H1) (unhide H2)).mono ?_; rintro e w' ⟨rfl, hbw⟩; have ho := (Own.start w).step hbw; clear tok2 _t hbw; obtain ⟨k0, k1, k2, f0, f1, f2⟩ := ho.facts) | (go_at_call 72; refine (cut_b re ⟨#[46]⟩ be true _ (unhide HP1) (unhide HP2)).mono ?_; rintro e w' ⟨rfl, rfl⟩) | (go_at_call 97; refine (cutDigits_b be pa r2 _ hbs (unhide H3) (unhide H4)).mono ?_; rintro e w' ⟨rfl, hbw⟩; have ho1 := ho.step hbw; clear hbw ho k0 k1 k2 f0 f1 f2; have ho := ho1; clear ho1; obtain ⟨k0, k1, k2, f0, f1, f2⟩ := ho.facts) | (go_at_call 98; refine (exponent_b r2 t true _ hrs (unhide HE1) (unhide HE2)).mono ?_; rintro e w' ⟨rfl, hbw⟩; have ho1 := ho.step hbw; clear hbw ho k0 k1 k2 f0 f1 f2; have ho := ho1; clear ho1; obtain ⟨k0, k1, k2, f0, f1, f2⟩ := ho.facts))
      have cv := Lib.run_convert_string_bytes (P := Tryz.prog) w' 9 38 5 wh Tryz.underlying9 Tryz.underlying38 Tryz.underlying5
      obtain ⟨g, c, w2, hr, hrow, hbel, hc1, hc2⟩ := appendText w' wh pa hws hps
      have HR := hide hr
      have HRow := hide hrow
      have ho2 := ho.step hbel
      clear hr hrow hbel
      rw [cv]
      go_wp2_with (at_builtin; refine wpList_append_runT _ rfl _ _ 38 9 rfl _ _ rfl rfl (unhide HR) ?_)
      refine (fit_n ng g (wh.size + pa.size) c (wh.data.toList ++ pa.data.toList) ((pa.size : Int) - t) w2 (unhide HWL) (by omega) hc1 hc2 (by omega) (by omega) (by omega) (unhide HRow) (unhide HF)).mono ?_
      rintro e w3 ⟨rfl, hb3⟩
      have ho3 := ho2.step hb3
      obtain ⟨j0, j1, j2, i0, i1, i2⟩ := ho3.facts
      clear k0 k1 k2 f0 f1 f2 ho ho2 hb3 cv HR HRow
      go_wp2
      exact bodyPost_ret (v := .tuple #[.agg #[.bool false, .string ⟨#[]⟩, .int .i64 0], .int .i64 3]) (by simp [results, Tryz.results70, go_sem, j0, j1, j2]) rfl ⟨rfl, ho3.end _ _ _⟩
  | some d =>
    obtain ⟨x, y, z⟩ := d
    have HF := hide hf
    clear hf
    rcases hw1 with hw1 | ⟨hw1, hw2⟩
    all_goals
      go_enter Tryz.func70, Tryz.ntmps70
      go_wp2_with (first | (go_at_call 72; have _t := tok1; refine (cut_b s ⟨#[45]⟩ u ng _ (unhide HU) (unhide HN)).mono ?_; rintro e w' ⟨rfl, rfl⟩; clear tok1 _t) | (go_at_call 97; have _t := tok2; refine (cutDigits_b u wh re _ hus (unhide H1) (unhide H2)).mono ?_; rintro e w' ⟨rfl, hbw⟩; have ho := (Own.start w).step hbw; clear tok2 _t hbw; obtain ⟨k0, k1, k2, f0, f1, f2⟩ := ho.facts) | (go_at_call 72; refine (cut_b re ⟨#[46]⟩ be true _ (unhide HP1) (unhide HP2)).mono ?_; rintro e w' ⟨rfl, rfl⟩) | (go_at_call 97; refine (cutDigits_b be pa r2 _ hbs (unhide H3) (unhide H4)).mono ?_; rintro e w' ⟨rfl, hbw⟩; have ho1 := ho.step hbw; clear hbw ho k0 k1 k2 f0 f1 f2; have ho := ho1; clear ho1; obtain ⟨k0, k1, k2, f0, f1, f2⟩ := ho.facts) | (go_at_call 98; refine (exponent_b r2 t true _ hrs (unhide HE1) (unhide HE2)).mono ?_; rintro e w' ⟨rfl, hbw⟩; have ho1 := ho.step hbw; clear hbw ho k0 k1 k2 f0 f1 f2; have ho := ho1; clear ho1; obtain ⟨k0, k1, k2, f0, f1, f2⟩ := ho.facts))
      have cv := Lib.run_convert_string_bytes (P := Tryz.prog) w' 9 38 5 wh Tryz.underlying9 Tryz.underlying38 Tryz.underlying5
      obtain ⟨g, c, w2, hr, hrow, hbel, hc1, hc2⟩ := appendText w' wh pa hws hps
      have HR := hide hr
      have HRow := hide hrow
      have ho2 := ho.step hbel
      clear hr hrow hbel
      rw [cv]
      go_wp2_with (at_builtin; refine wpList_append_runT _ rfl _ _ 38 9 rfl _ _ rfl rfl (unhide HR) ?_)
      refine (fit_s ng g (wh.size + pa.size) c (wh.data.toList ++ pa.data.toList) ((pa.size : Int) - t) w2 (unhide HWL) (by omega) hc1 hc2 (by omega) (by omega) (by omega) (unhide HRow) x y z (unhide HF)).mono ?_
      rintro e w3 ⟨rfl, hb3⟩
      have ho3 := ho2.step hb3
      obtain ⟨j0, j1, j2, i0, i1, i2⟩ := ho3.facts
      clear k0 k1 k2 f0 f1 f2 ho ho2 hb3 cv HR HRow
      go_wp2
      exact bodyPost_ret (v := .tuple #[.agg #[.bool x, .string ⟨y.toArray⟩, .int .i64 (z : Int)], .int .i64 0]) (by simp [results, Tryz.results70, go_sem, j0, j1, j2]) rfl ⟨rfl, ho3.end _ _ _⟩
end Go.Proofs.YtmlmplmghlbdmaaGreatDoor
