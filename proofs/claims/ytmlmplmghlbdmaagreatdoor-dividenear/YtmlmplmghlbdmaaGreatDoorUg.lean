/- What is proved here: what Turn, Sub and Cmp of the document's own answers do, walked; conditions: both decimals may be. -/
import Derived.Test.YtmlmplmghlbdmaaGreatDoorUf
namespace Go.Proofs.YtmlmplmghlbdmaaGreatDoor
open Go.RowKit
set_option linter.unusedVariables false
set_option linter.unusedSimpArgs false

set_option maxRecDepth 100000 in
set_option maxHeartbeats 1000000 in
theorem turn_zero (x : Bool) (z : Nat) (w : World) :
    Calls Tryz.prog 28 #[.agg #[.bool x, .string ⟨#[48]⟩, .int .i64 (z : Int)]] w fun e w' => e = .returned (.agg #[.bool x, .string ⟨#[48]⟩, .int .i64 (z : Int)]) ∧ Below w.heap.size w w' := by
  go_enter Tryz.func28, Tryz.ntmps28
  go_wp2
  refine bodyPost_ret (v := .agg #[.bool x, .string ⟨#[48]⟩, .int .i64 (z : Int)]) (by simp [results, Tryz.results28, go_sem]) rfl ⟨rfl, ((Below.refl _ _).alloc (Nat.le_refl _) _).alloc (by simp) _⟩
set_option maxRecDepth 100000 in
set_option maxHeartbeats 1000000 in
theorem turn_some (x : Bool) (y : List UInt8) (z : Nat) (w : World) (hb : (y == [48]) = false) :
    Calls Tryz.prog 28 #[.agg #[.bool x, .string ⟨y.toArray⟩, .int .i64 (z : Int)]] w fun e w' => e = .returned (.agg #[.bool !x, .string ⟨y.toArray⟩, .int .i64 (z : Int)]) ∧ Below w.heap.size w w' := by
  have hbn : (!y == [48]) = true := by rw [hb]; rfl
  go_enter Tryz.func28, Tryz.ntmps28
  go_wp2
  refine bodyPost_ret (v := .agg #[.bool !x, .string ⟨y.toArray⟩, .int .i64 (z : Int)]) (by simp [results, Tryz.results28, go_sem]) rfl ⟨rfl, ((Below.refl _ _).alloc (Nat.le_refl _) _).alloc (by simp) _⟩
/-- What a decimal turned below 0 is. -/
theorem turn_r (x : Bool) (y : List UInt8) (z : Nat) (w : World) (h : Dm.May ⟨x, y, z⟩) :
    Calls Tryz.prog 28 #[.agg #[.bool x, .string ⟨y.toArray⟩, .int .i64 (z : Int)]] w fun e w' => ∃ t, e = .returned (.agg #[.bool t, .string ⟨y.toArray⟩, .int .i64 (z : Int)]) ∧ Dm.May ⟨t, y, z⟩ ∧ Dm.sg ⟨t, y, z⟩ = - Dm.sg ⟨x, y, z⟩ ∧ Below w.heap.size w w' := by
  by_cases hz : y = [48]
  · subst hz
    refine (turn_zero x z w).mono ?_
    rintro e w' ⟨rfl, hb⟩
    exact ⟨x, rfl, h, by rw [zero_sg]; rfl, hb⟩
  · obtain ⟨t1, t2⟩ := turn_may h hz
    refine (turn_some x y z w (beq_eq_false_iff_ne.2 hz)).mono ?_
    rintro e w' ⟨rfl, hb⟩
    exact ⟨!x, rfl, t1, t2, hb⟩
end Go.Proofs.YtmlmplmghlbdmaaGreatDoor
