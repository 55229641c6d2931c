/- What is proved here: what the laws of package divide call, in the words that they want; condition: the table of powers of ten lies in the world. What is proved here: what the laws of package divide call beside that: a second that is 0, whether two may be, the other sign, a product; condition: the table of powers of ten lies in the world. -/
import Derived.Test.YtmlmplmghlbdmaaGreatDoorDr
import Derived.Test.YtmlmplmghlbdmaaGreatDoorUj
namespace Go.Proofs.YtmlmplmghlbdmaaGreatDoor
open Go.RowKit
set_option linter.unusedVariables false
set_option linter.unusedSimpArgs false

theorem rmay_b (ng : Bool) (s : ByteArray) (n : Int) (b : Bool) (w : World) (hs : s.size ≤ maxLen) (h : Dm.mayB ng s.data.toList n = b) :
    Calls Tryz.prog 16 #[.agg #[.bool ng, .string s, .int .i64 n]] w fun e w' => e = .returned (.bool b) ∧ Below w.heap.size w w' := by
  have := rmay_any ng s n w hs
  rw [h] at this; exact this
theorem may_split5 {x : Bool} {s : ByteArray} {n : Int} (h : Dm.mayB x s.data.toList n = true) : ∃ (l : List UInt8) (j : Nat), s = ⟨l.toArray⟩ ∧ n = (j : Int) ∧ Dm.May ⟨x, l, j⟩ := by
  have hmb := Dm.mayB_iff.1 h
  obtain ⟨j, rfl⟩ := Int.eq_ofNat_of_zero_le hmb.1
  refine ⟨s.data.toList, j, by simp, rfl, ?_⟩
  have := hmb.2
  rwa [Int.toNat_natCast] at this
theorem floor_c (x : Bool) (y : List UInt8) (z : Nat) (f1 : Bool) (f2 : List UInt8) (w : World) (h : Dm.May ⟨x, y, z⟩) (hf : Hid (∀ r, Dm.Rep (Dm.sgn x (Dm.num y / 10 ^ z + (decide (0 < z) && x).toNat)) 0 r → r = some ⟨f1, f2, 0⟩)) (htab : Pow w) :
    Calls Tryz.prog 17 #[.agg #[.bool x, .string ⟨y.toArray⟩, .int .i64 (z : Int)]] w fun e w' => e = .returned (.tuple #[.agg #[.bool f1, .string ⟨f2.toArray⟩, .int .i64 0], .int .i64 0]) ∧ Below w.heap.size w w' := by
  refine (floor_r x y z w h htab).mono ?_
  rintro e w' ⟨r, rfl, hr, hB⟩
  have := unhide hf r (unhide hr)
  subst this
  exact ⟨rfl, hB⟩
theorem ceil_c (x : Bool) (y : List UInt8) (z : Nat) (f1 : Bool) (f2 : List UInt8) (w : World) (h : Dm.May ⟨x, y, z⟩) (hf : Hid (∀ r, Dm.Rep (Dm.sgn x (Dm.num y / 10 ^ z + (decide (0 < z) && !x).toNat)) 0 r → r = some ⟨f1, f2, 0⟩)) (htab : Pow w) :
    Calls Tryz.prog 19 #[.agg #[.bool x, .string ⟨y.toArray⟩, .int .i64 (z : Int)]] w fun e w' => e = .returned (.tuple #[.agg #[.bool f1, .string ⟨f2.toArray⟩, .int .i64 0], .int .i64 0]) ∧ Below w.heap.size w w' := by
  refine (ceil_r x y z w h htab).mono ?_
  rintro e w' ⟨r, rfl, hr, hB⟩
  have := unhide hf r (unhide hr)
  subst this
  exact ⟨rfl, hB⟩
theorem round_c (x : Bool) (y : List UInt8) (z : Nat) (b : Bool) (f1 : Bool) (f2 : List UInt8) (w : World) (h : Dm.May ⟨x, y, z⟩) (hb : Hid ((decide (0 < z) && (decide (z ≤ y.length) && decide (53 ≤ (y.getD (y.length - z) 0).toNat))) = b)) (hf : Hid (∀ r, Dm.Rep (Dm.sgn x (Dm.num y / 10 ^ z + b.toNat)) 0 r → r = some ⟨f1, f2, 0⟩)) (htab : Pow w) :
    Calls Tryz.prog 21 #[.agg #[.bool x, .string ⟨y.toArray⟩, .int .i64 (z : Int)]] w fun e w' => e = .returned (.tuple #[.agg #[.bool f1, .string ⟨f2.toArray⟩, .int .i64 0], .int .i64 0]) ∧ Below w.heap.size w w' := by
  refine (round_r x y z b w h (unhide hb) htab).mono ?_
  rintro e w' ⟨r, rfl, hr, hB⟩
  have := unhide hf r (unhide hr)
  subst this
  exact ⟨rfl, hB⟩
theorem radd_c (f1 : Bool) (f2 : List UInt8) (c1 : Bool) (c2 : List UInt8) (w : World) (h : Dm.May ⟨f1, f2, 0⟩) (hf : Hid (∀ r, Dm.Rep (Dm.sg ⟨f1, f2, 0⟩ + 1) 0 r → r = some ⟨c1, c2, 0⟩)) :
    Calls Tryz.prog 27 #[.agg #[.bool f1, .string ⟨f2.toArray⟩, .int .i64 0], .agg #[.bool false, .string ⟨#[49]⟩, .int .i64 0]] w fun e w' => e = .returned (.tuple #[.agg #[.bool c1, .string ⟨c2.toArray⟩, .int .i64 0], .int .i64 0]) ∧ Below w.heap.size w w' := by
  refine (radd_r f1 f2 0 false [49] 0 w h (unit_may false)).mono ?_
  rintro e w' ⟨r, rfl, hr, hB⟩
  rw [unit_sg, Dm.p10_zero, Int.mul_one, Int.mul_one] at hr
  have := unhide hf r hr
  subst this
  exact ⟨rfl, hB⟩
theorem radd_u (f1 : Bool) (f2 : List UInt8) (w : World) (h : Dm.May ⟨f1, f2, 0⟩) :
    Calls Tryz.prog 27 #[.agg #[.bool f1, .string ⟨f2.toArray⟩, .int .i64 0], .agg #[.bool false, .string ⟨#[49]⟩, .int .i64 0]] w fun e w' => ∃ (o1 : Bool) (o2 : ByteArray) (o3 o4 : Int), e = .returned (.tuple #[.agg #[.bool o1, .string o2, .int .i64 o3], .int .i64 o4]) ∧ Below w.heap.size w w' := by
  refine (radd_r f1 f2 0 false [49] 0 w h (unit_may false)).mono ?_
  rintro e w' ⟨r, rfl, hr, hB⟩
  exact ⟨_, _, _, _, rfl, hB⟩
theorem rcmp_0 (x : Bool) (y : List UInt8) (x2 : Bool) (y2 : List UInt8) (z2 : Nat) (q : Int) (w : World) (h : Dm.May ⟨x, y, 0⟩) (h2 : Dm.May ⟨x2, y2, z2⟩) (hq : Hid (sgI (Dm.sg ⟨x, y, 0⟩ * Dm.p10 z2 - Dm.sg ⟨x2, y2, z2⟩ * Dm.p10 0) = q)) :
    Calls Tryz.prog 25 #[.agg #[.bool x, .string ⟨y.toArray⟩, .int .i64 0], .agg #[.bool x2, .string ⟨y2.toArray⟩, .int .i64 (z2 : Int)]] w fun e w' => e = .returned (.int .i64 q) ∧ Below w.heap.size w w' := rcmp_r x y 0 x2 y2 z2 q w h h2 (unhide hq)
theorem rcmp_1 (x : Bool) (y : List UInt8) (x2 : Bool) (y2 : List UInt8) (z2 : Nat) (q : Int) (w : World) (h : Dm.May ⟨x, y, 0⟩) (h2 : Dm.May ⟨x2, y2, z2⟩) (hq : Hid (sgI (Dm.sg ⟨x2, y2, z2⟩ * Dm.p10 0 - Dm.sg ⟨x, y, 0⟩ * Dm.p10 z2) = q)) :
    Calls Tryz.prog 25 #[.agg #[.bool x2, .string ⟨y2.toArray⟩, .int .i64 (z2 : Int)], .agg #[.bool x, .string ⟨y.toArray⟩, .int .i64 0]] w fun e w' => e = .returned (.int .i64 q) ∧ Below w.heap.size w w' := rcmp_r x2 y2 z2 x y 0 q w h2 h (unhide hq)
end Go.Proofs.YtmlmplmghlbdmaaGreatDoor

namespace Go.Proofs.YtmlmplmghlbdmaaGreatDoor
open Go.RowKit
set_option linter.unusedVariables false
set_option linter.unusedSimpArgs false

set_option maxRecDepth 100000 in
set_option maxHeartbeats 1000000 in
theorem mod_none (x : Bool) (y : ByteArray) (z : Int) (x2 : Bool) (z2 : Int) (w : World) :
    Calls Tryz.prog 14 #[.agg #[.bool x, .string y, .int .i64 z], .agg #[.bool x2, .string ⟨#[48]⟩, .int .i64 z2]] w fun e w' => e = .returned (.tuple #[.agg #[.bool false, .string ⟨#[]⟩, .int .i64 0], .int .i64 5]) ∧ Below w.heap.size w w' := by
  have ht := Tri.start w (.bool x) (.string y) (.int .i64 z) (.bool x2) (.string ⟨#[48]⟩) (.int .i64 z2) 23
  go_enter Tryz.func14, Tryz.ntmps14
  go_upto_region 1 with fail
  generalize ((w.alloc (.cells #[.bool x, .string y, .int .i64 z] 23)).alloc (.cells #[.bool x2, .string ⟨#[48]⟩, .int .i64 z2] 23)).alloc (.cells #[.bool false, .string ⟨#[]⟩, .int .i64 0] 23) = v at *
  obtain ⟨⟨c0, c1, c2⟩, ⟨d0, d1, d2⟩⟩ := ht.cells
  obtain ⟨⟨k0, k1, k2⟩, ⟨f0, f1, f2⟩⟩ := ht.out
  go_wp2
  exact bodyPost_ret (v := .tuple #[.agg #[.bool false, .string ⟨#[]⟩, .int .i64 0], .int .i64 5]) (by simp [results, Tryz.results14, go_sem, k0, k1, k2]) rfl ⟨rfl, ht.end _ _ _⟩
set_option maxRecDepth 100000 in
set_option maxHeartbeats 1000000 in
theorem div_none (x : Bool) (y : ByteArray) (z : Int) (x2 : Bool) (z2 : Int) (w : World) :
    Calls Tryz.prog 12 #[.agg #[.bool x, .string y, .int .i64 z], .agg #[.bool x2, .string ⟨#[48]⟩, .int .i64 z2]] w fun e w' => e = .returned (.tuple #[.agg #[.bool false, .string ⟨#[]⟩, .int .i64 0], .int .i64 5]) ∧ Below w.heap.size w w' := by
  have ht := Tri.start w (.bool x) (.string y) (.int .i64 z) (.bool x2) (.string ⟨#[48]⟩) (.int .i64 z2) 23
  go_enter Tryz.func12, Tryz.ntmps12
  go_upto_region 1 with fail
  generalize ((w.alloc (.cells #[.bool x, .string y, .int .i64 z] 23)).alloc (.cells #[.bool x2, .string ⟨#[48]⟩, .int .i64 z2] 23)).alloc (.cells #[.bool false, .string ⟨#[]⟩, .int .i64 0] 23) = v at *
  obtain ⟨⟨c0, c1, c2⟩, ⟨d0, d1, d2⟩⟩ := ht.cells
  obtain ⟨⟨k0, k1, k2⟩, ⟨f0, f1, f2⟩⟩ := ht.out
  go_wp2
  exact bodyPost_ret (v := .tuple #[.agg #[.bool false, .string ⟨#[]⟩, .int .i64 0], .int .i64 5]) (by simp [results, Tryz.results12, go_sem, k0, k1, k2]) rfl ⟨rfl, ht.end _ _ _⟩
set_option maxRecDepth 100000 in
set_option maxHeartbeats 1000000 in
theorem may_two (x : Bool) (y : ByteArray) (z : Int) (x2 : Bool) (y2 : ByteArray) (z2 : Int) (p q : Bool) (w : World) (hs : y.size ≤ maxLen) (hs2 : y2.size ≤ maxLen) (hp : Hid (Dm.mayB x y.data.toList z = p)) (hq : Hid (Dm.mayB x2 y2.data.toList z2 = q)) :
    Calls Tryz.prog 11 #[.agg #[.bool x, .string y, .int .i64 z], .agg #[.bool x2, .string y2, .int .i64 z2]] w fun e w' => e = .returned (.bool (p && q)) ∧ Below w.heap.size w w' := by
  have hS := Two.start w (.bool x) (.string y) (.int .i64 z) (.bool x2) (.string y2) (.int .i64 z2) 23
  obtain ⟨_, _, ⟨a0, a1, a2⟩, ⟨b0, b1, b2⟩⟩ := id hS
  go_enter Tryz.func11, Tryz.ntmps11
  go_wp2_with fail
  clear a0 a1 a2 b0 b1 b2
  refine (rmay_b x y z p _ hs (unhide hp)).mono ?_
  rintro e w1 ⟨rfl, hb1⟩
  replace hS := hS.next hb1
  obtain ⟨_, _, ⟨a0, a1, a2⟩, ⟨b0, b1, b2⟩⟩ := id hS
  go_wp2_with fail
  clear a0 a1 a2 b0 b1 b2
  refine (rmay_b x2 y2 z2 q _ hs2 (unhide hq)).mono ?_
  rintro e w2 ⟨rfl, hb2⟩
  replace hS := hS.next hb2
  cases p <;> cases q
  all_goals
    go_wp2
    go_ret
    exact ⟨rfl, hS.1⟩
/-- The other sign, but of 0. -/
def trn (x : Bool) (y : List UInt8) : Bool := if y = [48] then x else !x
set_option maxRecDepth 100000 in
set_option maxHeartbeats 1000000 in
theorem rturn_b (x : Bool) (y : List UInt8) (z : Int) (w : World) :
    Calls Tryz.prog 28 #[.agg #[.bool x, .string ⟨y.toArray⟩, .int .i64 z]] w fun e w' => e = .returned (.agg #[.bool (trn x y), .string ⟨y.toArray⟩, .int .i64 z]) ∧ Below w.heap.size w w' := by
  have hS := Box3.start w (.bool x) (.string ⟨y.toArray⟩) (.int .i64 z) 23
  have hP := Own3.start w (.bool x) (.string ⟨y.toArray⟩) (.int .i64 z) 23
  have hO := (Pair3.start w (.bool x) (.string ⟨y.toArray⟩) (.int .i64 z) 23).2
  have hA := (Below.refl (w.alloc (.cells #[.bool x, .string ⟨y.toArray⟩, .int .i64 z] 23)).heap.size _).alloc (Nat.le_refl _) (.cells #[.bool false, .string ⟨#[]⟩, .int .i64 0] 23)
  replace hS := hS.next hA
  replace hP := hP.next hA
  clear hA
  unfold trn
  by_cases hy : y = [48]
  · subst hy
    rw [if_pos rfl]
    go_enter Tryz.func28, Tryz.ntmps28
    go_upto_region 1 with fail
    generalize (w.alloc (.cells #[.bool x, .string ⟨#[48]⟩, .int .i64 z] 23)).alloc (.cells #[.bool false, .string ⟨#[]⟩, .int .i64 0] 23) = v at *
    obtain ⟨⟨_, a0, a1, a2⟩, s0, s1, s2⟩ := id hP
    obtain ⟨⟨_, o0, o1, o2⟩, f0, f1, f2⟩ := id hO
    go_wp2
    exact bodyPost_ret (v := .agg #[.bool x, .string ⟨#[48]⟩, .int .i64 z]) (by simp [results, Tryz.results28, go_sem, o0, o1, o2]) rfl ⟨rfl, set3_below hS.1 (by omega) _ _ _⟩
  · rw [if_neg hy]
    have q0 : (y == [48]) = false := beq_eq_false_iff_ne.2 hy
    go_enter Tryz.func28, Tryz.ntmps28
    go_upto_region 1 with fail
    generalize (w.alloc (.cells #[.bool x, .string ⟨y.toArray⟩, .int .i64 z] 23)).alloc (.cells #[.bool false, .string ⟨#[]⟩, .int .i64 0] 23) = v at *
    obtain ⟨⟨_, a0, a1, a2⟩, s0, s1, s2⟩ := id hP
    go_upto_region 3 with fail
    clear a0 a1 a2 s0 s1 s2
    have hb8 : Below w.heap.size w (v.setCell ⟨w.heap.size, 0, none⟩ (.bool (!x))) := hS.1.setCell (p := ⟨w.heap.size, 0, none⟩) (Nat.le_refl _) _
    have hO8 := hO.seto (c := w.heap.size) (i := 0) (by omega) (.bool (!x))
    have hP8 := hP.1.set0 (.bool (!x))
    generalize v.setCell ⟨w.heap.size, 0, none⟩ (.bool (!x)) = v8 at *
    clear hP hO hS
    obtain ⟨_, a0, a1, a2⟩ := id hP8
    obtain ⟨⟨_, o0, o1, o2⟩, f0, f1, f2⟩ := id hO8
    go_wp2
    exact bodyPost_ret (v := .agg #[.bool (!x), .string ⟨y.toArray⟩, .int .i64 z]) (by simp [results, Tryz.results28, go_sem, o0, o1, o2]) rfl ⟨rfl, set3_below hb8 (by omega) _ _ _⟩
theorem rmul_b (x : Bool) (y : List UInt8) (z : Nat) (x2 : Bool) (y2 : List UInt8) (z2 : Nat) (w : World) (ha : Dm.May ⟨x, y, z⟩) (hb : Dm.May ⟨x2, y2, z2⟩) :
    Calls Tryz.prog 26 #[.agg #[.bool x, .string ⟨y.toArray⟩, .int .i64 (z : Int)], .agg #[.bool x2, .string ⟨y2.toArray⟩, .int .i64 (z2 : Int)]] w fun e w' => ∃ r, e = .returned (.tuple #[.agg #[.bool (rx r), .string (ry r), .int .i64 (rz r)], .int .i64 (re r)]) ∧ Hid (Dm.Rep (Dm.sg ⟨x, y, z⟩ * Dm.sg ⟨x2, y2, z2⟩) (z + z2) r) ∧ Below w.heap.size w w' := by
  obtain ⟨a1, a2, a3⟩ := may_len ha
  obtain ⟨b1, b2, b3⟩ := may_len hb
  refine (rmul_walk x x2 ⟨y.toArray⟩ ⟨y2.toArray⟩ y y2 z z2 w (by rw [mk_size]; exact a1) (by rw [mk_size]; exact a2) (by rw [mk_size]; exact b2) a3 b3 (by rw [mk_list]; exact ha.1) (by rw [mk_list]; exact hb.1) rfl rfl).mono ?_
  rintro e w' ⟨r, rfl, hr, hB⟩
  refine ⟨r, rfl, hide ?_, hB⟩
  have e : Dm.sgn (x != x2) (Dm.num y * Dm.num y2) = Dm.sg ⟨x, y, z⟩ * Dm.sg ⟨x2, y2, z2⟩ := by
    unfold Dm.sg Dm.sgn
    cases x <;> cases x2 <;> simp [Int.neg_mul, Int.mul_neg]
  rw [e] at hr; exact hr
end Go.Proofs.YtmlmplmghlbdmaaGreatDoor
