/- What is proved here: what size and signOf of package dec and cmp.Or of Go's library do, walked; conditions: as each theorem states. -/
import Derived.Test.YtigpfbfkdccdaaaDoorWn
import Derived.Test.YtigpfbfkdccdaaaDoorM
namespace Go.Proofs.YtigpfbfkdccdaaaDoor
open Go.RowKit
set_option linter.unusedVariables false
set_option linter.unusedSimpArgs false

theorem tl_48 {l : List UInt8} (h : l = [48]) : Lib.trimLeftB l 48 = [] := by rw [h]; rfl
theorem tl_lead' {l : List UInt8} (h : Dm.noLead l) : Lib.trimLeftB l 48 = l := by
  obtain ⟨c, t, e, hc⟩ := h
  rw [e]; simp [Lib.trimLeftB, List.dropWhile_cons, hc]
theorem trimLeft_b (s s' : ByteArray) (w : World) (h : Lib.trimLeftB s.data.toList 48 = s'.data.toList) :
    Calls Tryd.prog 103 #[.string s, .string ⟨#[48]⟩] w fun e w' => e = .returned (.string s') ∧ w' = w := by
  have := Tryd.strings_TrimLeft_one s 48 (by decide) w
  rw [h, Go.Lib.mk_data] at this
  exact this
theorem trimRight_b (s s' : ByteArray) (w : World) (hs : s.size ≤ 100000) (h : Dm.tr s.data.toList = s'.data.toList) :
    Calls Tryd.prog 104 #[.string s, .string ⟨#[48]⟩] w fun e w' => e = .returned (.string s') ∧ w' = w := by
  have := Tryd.strings_TrimRight_one s 48 (by decide) w (by omega)
  have e : Lib.trimRightB s.data.toList 48 = s'.data.toList := h
  rw [e, Go.Lib.mk_data] at this
  exact this

set_option maxRecDepth 100000 in
set_option maxHeartbeats 1000000 in
theorem size_zero (ng : Bool) (s : ByteArray) (n : Nat) (w : World) (h : s.data.toList = [48]) :
    Calls Tryd.prog 89 #[.agg #[.bool ng, .string s, .int .i64 n]] w fun e w' => e = .returned (.tuple #[.int .i64 (-9223372036854775808), .string ⟨#[]⟩]) ∧ Below w.heap.size w w' := by
  have hx := Box3.start w (.bool ng) (.string s) (.int .i64 (n : Int)) 24
  have e : Lib.trimLeftB s.data.toList 48 = (⟨#[]⟩ : ByteArray).data.toList := tl_48 h
  have E := hide e
  clear e h
  go_enter Tryd.func89, Tryd.ntmps89
  go_wp2_with (go_at_call 103; refine (trimLeft_b s ⟨#[]⟩ _ (unhide E)).mono ?_; rintro e w' ⟨rfl, rfl⟩)
  go_ret2
  exact ⟨rfl, hx.1⟩
set_option maxRecDepth 100000 in
set_option maxHeartbeats 1000000 in
theorem size_pos (ng : Bool) (s s' : ByteArray) (n : Nat) (w : World) (hs : s.size ≤ 60) (hn : n ≤ 60) (h : Dm.noLead s.data.toList) (h' : Dm.tr s.data.toList = s'.data.toList) :
    Calls Tryd.prog 89 #[.agg #[.bool ng, .string s, .int .i64 n]] w fun e w' => e = .returned (.tuple #[.int .i64 ((s.size : Int) - (n : Int)), .string s']) ∧ Below w.heap.size w w' := by
  have hx := Box3.start w (.bool ng) (.string s) (.int .i64 (n : Int)) 24
  have e : Lib.trimLeftB s.data.toList 48 = s.data.toList := tl_lead' h
  have hne : s.toList.isEmpty = false := by
    rw [toList_eq]; obtain ⟨c, t, e2, _⟩ := h; rw [e2]; rfl
  have hwr : IntKind.i64.wrap ((s.size : Int) - (n : Int)) = (s.size : Int) - (n : Int) := wrap_id (by omega) (by omega)
  have E := hide e
  have H' := hide h'
  clear e h h'
  go_enter Tryd.func89, Tryd.ntmps89
  go_wp2_with (go_at_call 103; refine (trimLeft_b s s _ (unhide E)).mono ?_; rintro e w' ⟨rfl, rfl⟩)
  go_quiet ((go_at_call 104; exact Calls.quiet_of_same (trimRight_b s s' _ (by omega) (unhide H'))))
  go_wp2
  go_ret2
  exact ⟨rfl, below_drewN hx.1 _⟩
theorem size_any (d : Dm.D) (w : World) (h : Dm.May d) :
    Calls Tryd.prog 89 #[.agg #[.bool d.ng, .string ⟨d.ds.toArray⟩, .int .i64 (d.sc : Int)]] w fun e w' => e = .returned (.tuple #[.int .i64 (Dm.szP d.ds d.sc), .string ⟨(Dm.szD d.ds).toArray⟩]) ∧ Below w.heap.size w w' := by
  obtain ⟨l1, l2, l3⟩ := may_len h
  unfold Dm.szP Dm.szD
  rcases Dm.may_cases h with ⟨a, _⟩ | ⟨a, b, _⟩
  · rw [if_pos a, if_pos a]
    exact size_zero d.ng ⟨d.ds.toArray⟩ d.sc w a
  · rw [if_neg a, if_neg a]
    have := size_pos d.ng ⟨d.ds.toArray⟩ ⟨(Dm.tr d.ds).toArray⟩ d.sc w (by rw [mk_size]; omega) l3 b rfl
    rw [mk_size] at this
    exact this

set_option maxRecDepth 100000 in
set_option maxHeartbeats 1000000 in
theorem or_any (g : Nat) (x y : Int) (w : World) (hx : w.cell? ⟨g, 0, none⟩ = some (.int .i64 x)) (hy : w.cell? ⟨g, 1, none⟩ = some (.int .i64 y)) :
    Calls Tryd.prog 90 #[.slice (some ⟨g, 0, none⟩) 2 2] w fun e w' => e = .returned (.int .i64 (if x ≠ 0 then x else y)) ∧ w' = w := by
  go_enter Tryd.func90, Tryd.ntmps90
  go_wp2
  go_loop [8, 5] (fun i _ => ∃ k : Nat, k ≤ 2 ∧ i = .int .i64 k ∧ (1 ≤ k → x = 0) ∧ (2 ≤ k → y = 0)) (fun i _ => 2 - (intOf i).toNat)
  case atStart => exact ⟨0, by omega, rfl, by omega, by omega⟩
  case round =>
    obtain ⟨k, hk, rfl, h1, h2⟩ := hrel
    by_cases k0 : k = 0
    · subst k0
      clear h1 h2
      by_cases x0 : x = 0
      · subst x0
        go_wp2
        go_round
        case rel => exact ⟨1, by omega, by go_num, by simp, by omega⟩
        case measure => simp [intOf]
      · have hb : (x != 0) = true := bne_iff_ne.2 x0
        have hf : (if x ≠ 0 then x else y) = x := if_pos x0
        have HF := hide hf
        clear hf
        go_wp2
        go_ret
        exact ⟨rfl, rfl⟩
    · by_cases k1 : k = 1
      · subst k1
        have hx0 := h1 (by omega)
        clear h1 h2
        subst hx0
        by_cases y0 : y = 0
        · subst y0
          go_wp2
          go_round
          case rel => exact ⟨2, by omega, by go_num, by simp, by simp⟩
          case measure => simp [intOf]
        · have hb : (y != 0) = true := bne_iff_ne.2 y0
          go_wp2
          go_ret
          exact ⟨rfl, rfl⟩
      · have hk2 : k = 2 := by omega
        subst hk2
        have hx0 := h1 (by omega)
        have hy0 := h2 (by omega)
        clear h1 h2
        subst hx0
        subst hy0
        go_wp2
        go_ret
        exact ⟨rfl, rfl⟩
theorem or_b (g : Nat) (x y c : Int) (w : World) (hx : w.cell? ⟨g, 0, none⟩ = some (.int .i64 x)) (hy : w.cell? ⟨g, 1, none⟩ = some (.int .i64 y)) (h : (if x ≠ 0 then x else y) = c) :
    Calls Tryd.prog 90 #[.slice (some ⟨g, 0, none⟩) 2 2] w fun e w' => e = .returned (.int .i64 c) ∧ w' = w := by
  have := or_any g x y w hx hy
  rw [h] at this; exact this
theorem compareInt_eq (x y : Int) : Lib.compareInt x y = Dm.cmpI x y := rfl
theorem compareBytes_eq : ∀ x y : List UInt8, Lib.compareBytes x y = Dm.cmpB x y := by
  intro x
  induction x with
  | nil => intro y; cases y <;> rfl
  | cons a x ih =>
    intro y
    cases y with
    | nil => rfl
    | cons b y => simp only [Lib.compareBytes, Dm.cmpB, ih y]
theorem Two.cells {w0 w : World} {a b c x y z : Value} (h : Two w0 a b c x y z w) : (w.cell? ⟨w0.heap.size, 0, none⟩ = some a ∧ w.cell? ⟨w0.heap.size, 1, none⟩ = some b ∧ w.cell? ⟨w0.heap.size, 2, none⟩ = some c) ∧
  (w.cell? ⟨w0.heap.size + 1, 0, none⟩ = some x ∧ w.cell? ⟨w0.heap.size + 1, 1, none⟩ = some y ∧ w.cell? ⟨w0.heap.size + 1, 2, none⟩ = some z) := h.2.2
theorem compare_b (x y c : Int) (w : World) (h : Dm.cmpI x y = c) : Calls Tryd.prog 49 #[.int .i64 x, .int .i64 y] w fun e w' => e = .returned (.int .i64 c) ∧ w' = w := by
  have := Tryd.cmp_Compare_int x y w
  rw [compareInt_eq, h] at this; exact this
theorem compareS_b (x y : List UInt8) (c : Int) (w : World) (h : Dm.cmpB x y = c) : Calls Tryd.prog 51 #[.string ⟨x.toArray⟩, .string ⟨y.toArray⟩] w fun e w' => e = .returned (.int .i64 c) ∧ w' = w := by
  have := Tryd.strings_Compare ⟨x.toArray⟩ ⟨y.toArray⟩ w
  rw [mk_list, mk_list, compareBytes_eq, h] at this; exact this
theorem size_b (x : Bool) (y : List UInt8) (z : Nat) (p : Int) (q : List UInt8) (w : World) (h : Dm.May ⟨x, y, z⟩) (hp : Dm.szP y z = p) (hq : Dm.szD y = q) :
    Calls Tryd.prog 89 #[.agg #[.bool x, .string ⟨y.toArray⟩, .int .i64 (z : Int)]] w fun e w' => e = .returned (.tuple #[.int .i64 p, .string ⟨q.toArray⟩]) ∧ Below w.heap.size w w' := by
  have := size_any ⟨x, y, z⟩ w h
  simp only [hp, hq] at this
  exact this

set_option maxRecDepth 100000 in
set_option maxHeartbeats 1000000 in
theorem compareSizes_any (x : Bool) (y : List UInt8) (z : Nat) (x2 : Bool) (y2 : List UInt8) (z2 : Nat) (c : Int) (w : World) (h : Dm.May ⟨x, y, z⟩) (h2 : Dm.May ⟨x2, y2, z2⟩) (hc : Dm.cmpN (Dm.num y * 10 ^ z2) (Dm.num y2 * 10 ^ z) = c) :
    Calls Tryd.prog 78 #[.agg #[.bool x, .string ⟨y.toArray⟩, .int .i64 (z : Int)], .agg #[.bool x2, .string ⟨y2.toArray⟩, .int .i64 (z2 : Int)]] w fun e w' => e = .returned (.int .i64 c) ∧ Below w.heap.size w w' := by
  have hcmp := Dm.sizes_cmp h h2
  simp only at hcmp
  rw [hc] at hcmp
  obtain ⟨p, hp⟩ : ∃ p, Dm.szP y z = p := ⟨_, rfl⟩
  obtain ⟨q, hq⟩ : ∃ q, Dm.szD y = q := ⟨_, rfl⟩
  obtain ⟨p2, hp2⟩ : ∃ p2, Dm.szP y2 z2 = p2 := ⟨_, rfl⟩
  obtain ⟨q2, hq2⟩ : ∃ q2, Dm.szD y2 = q2 := ⟨_, rfl⟩
  rw [hp, hq, hp2, hq2] at hcmp
  obtain ⟨u, hu⟩ : ∃ u, Dm.cmpI p p2 = u := ⟨_, rfl⟩
  obtain ⟨v, hv⟩ : ∃ v, Dm.cmpB q q2 = v := ⟨_, rfl⟩
  rw [hu, hv] at hcmp
  have ht := Two.start w (.bool x) (.string ⟨y.toArray⟩) (.int .i64 (z : Int)) (.bool x2) (.string ⟨y2.toArray⟩) (.int .i64 (z2 : Int)) 24
  have HC := hide hcmp
  have HP := hide hp
  have HQ := hide hq
  have HP2 := hide hp2
  have HQ2 := hide hq2
  have HU := hide hu
  have HV := hide hv
  clear hcmp hp hq hp2 hq2 hu hv hc
  go_enter Tryd.func78, Tryd.ntmps78
  go_wp2_with fail
  refine (size_b x y z p q _ h (unhide HP) (unhide HQ)).mono ?_
  rintro e w1 ⟨rfl, hb1⟩
  have ht1 := ht.next hb1
  obtain ⟨_, ⟨d0, d1, d2⟩⟩ := ht1.cells
  clear ht hb1
  go_wp2_with fail
  refine (size_b x2 y2 z2 p2 q2 _ h2 (unhide HP2) (unhide HQ2)).mono ?_
  rintro e w2 ⟨rfl, hb2⟩
  have ht2 := ht1.next hb2
  clear ht1 hb2 d0 d1 d2
  go_wp2_with fail
  refine (compare_b p p2 u _ (unhide HU)).mono ?_
  rintro e w3 ⟨rfl, rfl⟩
  go_wp2_with fail
  refine (compareS_b q q2 v _ (unhide HV)).mono ?_
  rintro e w4 ⟨rfl, rfl⟩
  go_wp2_with fail
  refine (or_b _ u v c _ (by go_simp) (by go_simp) (unhide HC)).mono ?_
  rintro e w5 ⟨rfl, rfl⟩
  go_wp2
  go_ret
  exact ⟨rfl, ht2.1.alloc ht2.1.size _⟩

/-- -1, 0 or 1: is a decimal below 0, or 0, or above. -/
def sgnD (x : Bool) (y : List UInt8) : Int := if y = [48] then 0 else if x then -1 else 1
theorem trim_zero {l : List UInt8} (h : l = [48]) : Lib.trimB l 48 = [] := by rw [h]; rfl
theorem trim_pos {l : List UInt8} (h : Dm.noLead l) : (Lib.trimB l 48).isEmpty = false := by
  have hne := Dm.noLead_ne (Dm.tr_lead h)
  have e : Lib.trimRightB l 48 = Dm.tr l := rfl
  unfold Lib.trimB
  rw [e, tl_lead' (Dm.tr_lead h)]
  cases hq : Dm.tr l with
  | nil => exact absurd hq hne
  | cons => rfl
theorem trim_b (s s' : ByteArray) (w : World) (hs : s.size ≤ 100000) (h : Lib.trimB s.data.toList 48 = s'.data.toList) :
    Calls Tryd.prog 88 #[.string s, .string ⟨#[48]⟩] w fun e w' => e = .returned (.string s') ∧ Below w.heap.size w w' := by
  refine (Tryd.strings_Trim_one s 48 (by decide) w (by omega)).mono ?_
  rintro e w' ⟨rfl, hw⟩
  rw [h, Go.Lib.mk_data]
  refine ⟨rfl, ?_⟩
  rcases hw with rfl | rfl
  · exact Below.refl _ _
  · exact (Below.refl _ _).drew
set_option maxRecDepth 100000 in
set_option maxHeartbeats 1000000 in
theorem signOf_any (x : Bool) (y : List UInt8) (z : Nat) (c : Int) (w : World) (h : Dm.May ⟨x, y, z⟩) (hc : sgnD x y = c) :
    Calls Tryd.prog 77 #[.agg #[.bool x, .string ⟨y.toArray⟩, .int .i64 (z : Int)]] w fun e w' => e = .returned (.int .i64 c) ∧ Below w.heap.size w w' := by
  have hx := Box3.start w (.bool x) (.string ⟨y.toArray⟩) (.int .i64 (z : Int)) 24
  have hsz : (⟨y.toArray⟩ : ByteArray).size ≤ 100000 := by rw [mk_size]; have := (may_len h).2.1; simp only at this; omega
  obtain ⟨s', hs'⟩ : ∃ s' : ByteArray, Lib.trimB (⟨y.toArray⟩ : ByteArray).data.toList 48 = s'.data.toList := ⟨⟨(Lib.trimB y 48).toArray⟩, rfl⟩
  rw [← hc]
  unfold sgnD
  rcases Dm.may_cases h with ⟨a, a2, a3, a4⟩ | ⟨a, b, b3, b4⟩
  · have he : s'.toList.isEmpty = true := by rw [toList_eq, ← hs', mk_list, trim_zero a]; rfl
    rw [if_pos a]
    have HS := hide hs'
    clear hs' a h hc a2 a3 a4
    go_enter Tryd.func77, Tryd.ntmps77
    go_wp2_with fail
    refine (trim_b _ s' _ hsz (unhide HS)).mono ?_
    rintro e w1 ⟨rfl, hb1⟩
    have hx1 := hx.next hb1
    go_wp2
    go_ret
    exact ⟨rfl, hx1.1⟩
  · have he : s'.toList.isEmpty = false := by rw [toList_eq, ← hs', mk_list, trim_pos b]
    rw [if_neg a]
    have HS := hide hs'
    clear hs' a b h hc b3 b4
    cases x
    all_goals
      go_enter Tryd.func77, Tryd.ntmps77
      go_wp2_with fail
      refine (trim_b _ s' _ hsz (unhide HS)).mono ?_
      rintro e w1 ⟨rfl, hb1⟩
      have hx1 := hx.next hb1
      obtain ⟨_, _, c0, c1, c2⟩ := id hx1
      go_wp2
      go_ret
      exact ⟨rfl, hx1.1⟩
/-- Which of two decimals is the lesser. -/
def cmpD (x : Bool) (y : List UInt8) (z : Nat) (x2 : Bool) (y2 : List UInt8) (z2 : Nat) : Int :=
  if sgnD x y ≠ sgnD x2 y2 then Dm.cmpI (sgnD x y) (sgnD x2 y2) else sgnD x y * Dm.cmpN (Dm.num y * 10 ^ z2) (Dm.num y2 * 10 ^ z)
theorem cmpN_range (A B : Nat) (c : Int) (h : Dm.cmpN A B = c) : c = -1 ∨ c = 0 ∨ c = 1 := by
  rw [← h]
  unfold Dm.cmpN
  by_cases g : A < B
  · rw [if_pos g]; exact .inl rfl
  · by_cases g2 : B < A
    · rw [if_neg g, if_pos g2]; exact .inr (.inr rfl)
    · rw [if_neg g, if_neg g2]; exact .inr (.inl rfl)
theorem sgnD_range (x : Bool) (y : List UInt8) (c : Int) (h : sgnD x y = c) : c = -1 ∨ c = 0 ∨ c = 1 := by
  rw [← h]
  unfold sgnD
  by_cases g : y = [48]
  · rw [if_pos g]; exact .inr (.inl rfl)
  · rw [if_neg g]; cases x
    · exact .inr (.inr rfl)
    · exact .inl rfl
set_option maxRecDepth 100000 in
set_option maxHeartbeats 1000000 in
theorem cmp_any (x : Bool) (y : List UInt8) (z : Nat) (x2 : Bool) (y2 : List UInt8) (z2 : Nat) (q : Int) (w : World) (h : Dm.May ⟨x, y, z⟩) (h2 : Dm.May ⟨x2, y2, z2⟩) (hq : cmpD x y z x2 y2 z2 = q) :
    Calls Tryd.prog 50 #[.agg #[.bool x, .string ⟨y.toArray⟩, .int .i64 (z : Int)], .agg #[.bool x2, .string ⟨y2.toArray⟩, .int .i64 (z2 : Int)]] w fun e w' => e = .returned (.int .i64 q) ∧ Below w.heap.size w w' := by
  have ht := Two.start w (.bool x) (.string ⟨y.toArray⟩) (.int .i64 (z : Int)) (.bool x2) (.string ⟨y2.toArray⟩) (.int .i64 (z2 : Int)) 24
  obtain ⟨c1, hc1⟩ : ∃ c1, sgnD x y = c1 := ⟨_, rfl⟩
  obtain ⟨c2, hc2⟩ : ∃ c2, sgnD x2 y2 = c2 := ⟨_, rfl⟩
  obtain ⟨c, hc⟩ : ∃ c, Dm.cmpN (Dm.num y * 10 ^ z2) (Dm.num y2 * 10 ^ z) = c := ⟨_, rfl⟩
  have hr1 := sgnD_range x y c1 hc1
  have hr2 := cmpN_range _ _ c hc
  unfold cmpD at hq
  rw [hc1, hc2, hc] at hq
  have H1 := hide hc1
  have H2 := hide hc2
  have HC := hide hc
  clear hc1 hc2 hc
  by_cases hne : c1 = c2
  · have hfin : c1 * c = q := by rw [if_neg (by simp [hne])] at hq; exact hq
    subst hne
    have hw : IntKind.i64.wrap (c1 * c) = q := by
      rw [← hfin]
      apply wrap_id
      · rcases hr1 with rfl | rfl | rfl <;> rcases hr2 with rfl | rfl | rfl <;> decide
      · rcases hr1 with rfl | rfl | rfl <;> rcases hr2 with rfl | rfl | rfl <;> decide
    clear hfin hr1 hr2 hq
    have tok1 : True := trivial
    have tok2 : True := trivial
    go_enter Tryd.func50, Tryd.ntmps50
    go_wp2_with fail
    obtain ⟨⟨c0, c1', c2'⟩, ⟨d0, d1, d2⟩⟩ := ht.cells
    go_region_held3 (fun w' => (w'.cell? ⟨w.heap.size, 0, none⟩ = some (.bool x) ∧ w'.cell? ⟨w.heap.size, 1, none⟩ = some (.string ⟨y.toArray⟩) ∧ w'.cell? ⟨w.heap.size, 2, none⟩ = some (.int .i64 (z : Int))) ∧ (w'.cell? ⟨w.heap.size + 1, 0, none⟩ = some (.bool x2) ∧ w'.cell? ⟨w.heap.size + 1, 1, none⟩ = some (.string ⟨y2.toArray⟩) ∧ w'.cell? ⟨w.heap.size + 1, 2, none⟩ = some (.int .i64 (z2 : Int)))) (first | exact ht.cells | exact ht.drew.cells) (first | (go_at_call 77; have _t := tok1; refine (signOf_any x y z c1 _ h (unhide H1)).mono ?_; rintro e w4 ⟨rfl, hbw⟩; replace ht := Two.next (by first | exact ht | exact ht.drew) hbw; clear hbw c0 c1' c2' d0 d1 d2; obtain ⟨⟨c0, c1', c2'⟩, ⟨d0, d1, d2⟩⟩ := ht.cells; clear tok1 _t) | (go_at_call 77; have _t := tok2; refine (signOf_any x2 y2 z2 c1 _ h2 (unhide H2)).mono ?_; rintro e w5 ⟨rfl, hbw⟩; replace ht := Two.next (by first | exact ht | exact ht.drew) hbw; clear hbw c0 c1' c2' d0 d1 d2; obtain ⟨⟨c0, c1', c2'⟩, ⟨d0, d1, d2⟩⟩ := ht.cells; clear tok2 _t))
    have hnn : (c1 != c1) = false := by simp
    go_wp2_with fail
    refine (compareSizes_any x y z x2 y2 z2 c _ h h2 (unhide HC)).mono ?_
    rintro e w6 ⟨rfl, hb6⟩
    have ht6 := ht.next hb6
    go_wp2
    go_ret
    exact ⟨rfl, ht6.1⟩
  · have hfin : Dm.cmpI c1 c2 = q := by rw [if_pos hne] at hq; exact hq
    have HF := hide hfin
    have hnn : (c1 != c2) = true := bne_iff_ne.2 hne
    clear hfin hr1 hr2 hq
    have tok1 : True := trivial
    have tok2 : True := trivial
    go_enter Tryd.func50, Tryd.ntmps50
    go_wp2_with fail
    obtain ⟨⟨c0, c1', c2'⟩, ⟨d0, d1, d2⟩⟩ := ht.cells
    go_region_held3 (fun w' => (w'.cell? ⟨w.heap.size, 0, none⟩ = some (.bool x) ∧ w'.cell? ⟨w.heap.size, 1, none⟩ = some (.string ⟨y.toArray⟩) ∧ w'.cell? ⟨w.heap.size, 2, none⟩ = some (.int .i64 (z : Int))) ∧ (w'.cell? ⟨w.heap.size + 1, 0, none⟩ = some (.bool x2) ∧ w'.cell? ⟨w.heap.size + 1, 1, none⟩ = some (.string ⟨y2.toArray⟩) ∧ w'.cell? ⟨w.heap.size + 1, 2, none⟩ = some (.int .i64 (z2 : Int)))) (first | exact ht.cells | exact ht.drew.cells) (first | (go_at_call 77; have _t := tok1; refine (signOf_any x y z c1 _ h (unhide H1)).mono ?_; rintro e w4 ⟨rfl, hbw⟩; replace ht := Two.next (by first | exact ht | exact ht.drew) hbw; clear hbw c0 c1' c2' d0 d1 d2; obtain ⟨⟨c0, c1', c2'⟩, ⟨d0, d1, d2⟩⟩ := ht.cells; clear tok1 _t) | (go_at_call 77; have _t := tok2; refine (signOf_any x2 y2 z2 c2 _ h2 (unhide H2)).mono ?_; rintro e w5 ⟨rfl, hbw⟩; replace ht := Two.next (by first | exact ht | exact ht.drew) hbw; clear hbw c0 c1' c2' d0 d1 d2; obtain ⟨⟨c0, c1', c2'⟩, ⟨d0, d1, d2⟩⟩ := ht.cells; clear tok2 _t))
    go_wp2_with fail
    refine (compare_b c1 c2 q _ (unhide HF)).mono ?_
    rintro e w6 ⟨rfl, rfl⟩
    go_wp2
    go_ret
    exact ⟨rfl, ht.1⟩
end Go.Proofs.YtigpfbfkdccdaaaDoor
