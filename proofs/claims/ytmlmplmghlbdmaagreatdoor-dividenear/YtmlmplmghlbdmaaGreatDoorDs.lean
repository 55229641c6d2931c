/- What is proved here: what the laws of package divide call, in the words that they want; condition: the table of powers of ten lies in the world. -/
import Derived.Test.YtmlmplmghlbdmaaGreatDoorDr
import Derived.Test.YtmlmplmghlbdmaaGreatDoorUg
import Derived.Test.YtmlmplmghlbdmaaGreatDoorUh
import Derived.Test.YtmlmplmghlbdmaaGreatDoorUj
namespace Go.Proofs.YtmlmplmghlbdmaaGreatDoor
open Go.RowKit
set_option linter.unusedVariables false
set_option linter.unusedSimpArgs false

theorem rmay_b (ng : Bool) (s : ByteArray) (n : Int) (b : Bool) (w : World) (hs : s.size ≤ maxLen) (h : Dm.mayB ng s.data.toList n = b) :
    Calls Tryz.prog 16 #[.agg #[.bool ng, .string s, .int .i64 n]] w fun e w' => e = .returned (.bool b) ∧ Below w.heap.size w w' := by
  have := rmay_any ng s n w hs
  rw [h] at this; exact this
theorem may_split5 {x : Bool} {s : ByteArray} {n : Int} (h : Dm.mayB x s.data.toList n = true) : ∃ (l : List UInt8) (j : Nat), s = ⟨l.toArray⟩ ∧ n = (j : Int) ∧ Dm.May ⟨x, l, j⟩ := by
  have hmb := Dm.mayB_iff.1 h
  obtain ⟨j, rfl⟩ := Int.eq_ofNat_of_zero_le hmb.1
  refine ⟨s.data.toList, j, by simp, rfl, ?_⟩
  have := hmb.2
  rwa [Int.toNat_natCast] at this
theorem floor_c (x : Bool) (y : List UInt8) (z : Nat) (f1 : Bool) (f2 : List UInt8) (w : World) (h : Dm.May ⟨x, y, z⟩) (hf : Hid (∀ r, Dm.Rep (Dm.sgn x (Dm.num y / 10 ^ z + (decide (0 < z) && x).toNat)) 0 r → r = some ⟨f1, f2, 0⟩)) (htab : Pow w) :
    Calls Tryz.prog 17 #[.agg #[.bool x, .string ⟨y.toArray⟩, .int .i64 (z : Int)]] w fun e w' => e = .returned (.tuple #[.agg #[.bool f1, .string ⟨f2.toArray⟩, .int .i64 0], .int .i64 0]) ∧ Below w.heap.size w w' := by
  refine (floor_r x y z w h htab).mono ?_
  rintro e w' ⟨r, rfl, hr, hB⟩
  have := unhide hf r (unhide hr)
  subst this
  exact ⟨rfl, hB⟩
theorem ceil_c (x : Bool) (y : List UInt8) (z : Nat) (f1 : Bool) (f2 : List UInt8) (w : World) (h : Dm.May ⟨x, y, z⟩) (hf : Hid (∀ r, Dm.Rep (Dm.sgn x (Dm.num y / 10 ^ z + (decide (0 < z) && !x).toNat)) 0 r → r = some ⟨f1, f2, 0⟩)) (htab : Pow w) :
    Calls Tryz.prog 19 #[.agg #[.bool x, .string ⟨y.toArray⟩, .int .i64 (z : Int)]] w fun e w' => e = .returned (.tuple #[.agg #[.bool f1, .string ⟨f2.toArray⟩, .int .i64 0], .int .i64 0]) ∧ Below w.heap.size w w' := by
  refine (ceil_r x y z w h htab).mono ?_
  rintro e w' ⟨r, rfl, hr, hB⟩
  have := unhide hf r (unhide hr)
  subst this
  exact ⟨rfl, hB⟩
theorem round_c (x : Bool) (y : List UInt8) (z : Nat) (b : Bool) (f1 : Bool) (f2 : List UInt8) (w : World) (h : Dm.May ⟨x, y, z⟩) (hb : Hid ((decide (0 < z) && (decide (z ≤ y.length) && decide (53 ≤ (y.getD (y.length - z) 0).toNat))) = b)) (hf : Hid (∀ r, Dm.Rep (Dm.sgn x (Dm.num y / 10 ^ z + b.toNat)) 0 r → r = some ⟨f1, f2, 0⟩)) (htab : Pow w) :
    Calls Tryz.prog 21 #[.agg #[.bool x, .string ⟨y.toArray⟩, .int .i64 (z : Int)]] w fun e w' => e = .returned (.tuple #[.agg #[.bool f1, .string ⟨f2.toArray⟩, .int .i64 0], .int .i64 0]) ∧ Below w.heap.size w w' := by
  refine (round_r x y z b w h (unhide hb) htab).mono ?_
  rintro e w' ⟨r, rfl, hr, hB⟩
  have := unhide hf r (unhide hr)
  subst this
  exact ⟨rfl, hB⟩
theorem radd_c (f1 : Bool) (f2 : List UInt8) (c1 : Bool) (c2 : List UInt8) (w : World) (h : Dm.May ⟨f1, f2, 0⟩) (hf : Hid (∀ r, Dm.Rep (Dm.sg ⟨f1, f2, 0⟩ + 1) 0 r → r = some ⟨c1, c2, 0⟩)) :
    Calls Tryz.prog 27 #[.agg #[.bool f1, .string ⟨f2.toArray⟩, .int .i64 0], .agg #[.bool false, .string ⟨#[49]⟩, .int .i64 0]] w fun e w' => e = .returned (.tuple #[.agg #[.bool c1, .string ⟨c2.toArray⟩, .int .i64 0], .int .i64 0]) ∧ Below w.heap.size w w' := by
  refine (radd_r f1 f2 0 false [49] 0 w h (unit_may false)).mono ?_
  rintro e w' ⟨r, rfl, hr, hB⟩
  rw [unit_sg, Dm.p10_zero, Int.mul_one, Int.mul_one] at hr
  have := unhide hf r hr
  subst this
  exact ⟨rfl, hB⟩
theorem radd_u (f1 : Bool) (f2 : List UInt8) (w : World) (h : Dm.May ⟨f1, f2, 0⟩) :
    Calls Tryz.prog 27 #[.agg #[.bool f1, .string ⟨f2.toArray⟩, .int .i64 0], .agg #[.bool false, .string ⟨#[49]⟩, .int .i64 0]] w fun e w' => ∃ (o1 : Bool) (o2 : ByteArray) (o3 o4 : Int), e = .returned (.tuple #[.agg #[.bool o1, .string o2, .int .i64 o3], .int .i64 o4]) ∧ Below w.heap.size w w' := by
  refine (radd_r f1 f2 0 false [49] 0 w h (unit_may false)).mono ?_
  rintro e w' ⟨r, rfl, hr, hB⟩
  exact ⟨_, _, _, _, rfl, hB⟩
theorem rcmp_0 (x : Bool) (y : List UInt8) (x2 : Bool) (y2 : List UInt8) (z2 : Nat) (q : Int) (w : World) (h : Dm.May ⟨x, y, 0⟩) (h2 : Dm.May ⟨x2, y2, z2⟩) (hq : Hid (sgI (Dm.sg ⟨x, y, 0⟩ * Dm.p10 z2 - Dm.sg ⟨x2, y2, z2⟩ * Dm.p10 0) = q)) :
    Calls Tryz.prog 25 #[.agg #[.bool x, .string ⟨y.toArray⟩, .int .i64 0], .agg #[.bool x2, .string ⟨y2.toArray⟩, .int .i64 (z2 : Int)]] w fun e w' => e = .returned (.int .i64 q) ∧ Below w.heap.size w w' := rcmp_r x y 0 x2 y2 z2 q w h h2 (unhide hq)
theorem rcmp_1 (x : Bool) (y : List UInt8) (x2 : Bool) (y2 : List UInt8) (z2 : Nat) (q : Int) (w : World) (h : Dm.May ⟨x, y, 0⟩) (h2 : Dm.May ⟨x2, y2, z2⟩) (hq : Hid (sgI (Dm.sg ⟨x2, y2, z2⟩ * Dm.p10 0 - Dm.sg ⟨x, y, 0⟩ * Dm.p10 z2) = q)) :
    Calls Tryz.prog 25 #[.agg #[.bool x2, .string ⟨y2.toArray⟩, .int .i64 (z2 : Int)], .agg #[.bool x, .string ⟨y.toArray⟩, .int .i64 0]] w fun e w' => e = .returned (.int .i64 q) ∧ Below w.heap.size w w' := rcmp_r x2 y2 z2 x y 0 q w h2 h (unhide hq)
end Go.Proofs.YtmlmplmghlbdmaaGreatDoor
