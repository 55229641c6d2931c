/- What is proved here: small contracts of Mul and Cmp and plain facts on signs; conditions: as each theorem states. -/
import Derived.Test.YtmlmplmghlbdmaaGreatDoorWy
namespace Go.Proofs.YtmlmplmghlbdmaaGreatDoor
open Go.RowKit
set_option linter.unusedVariables false
set_option linter.unusedSimpArgs false

theorem sgnD_sg {d : Dm.D} (h : Dm.May d) : sgnD d.ng d.ds = if Dm.sg d < 0 then -1 else if 0 < Dm.sg d then 1 else 0 := by
  rcases Dm.may_cases h with ⟨a, _, _, a4⟩ | ⟨a, b, _, _⟩
  · unfold sgnD
    have e : Dm.sg d = 0 := by unfold Dm.sg; rw [a4, Dm.sgn_zero]
    rw [if_pos a, e]; rfl
  · have hp := Dm.lead_pos h.1 b
    unfold sgnD Dm.sg Dm.sgn
    rw [if_neg a]
    cases d.ng
    · simp only [Bool.false_eq_true, if_false]
      rw [if_neg (by omega), if_pos (by omega)]
    · simp only [if_true]
      rw [if_pos (by omega)]
theorem sgnD_same {x y : Dm.D} {s : Nat} (hx : Dm.May x) (hy : Dm.May y) (h : Dm.sg y * Dm.p10 s = Dm.sg x * Dm.p10 y.sc) : sgnD y.ng y.ds = sgnD x.ng x.ds := by
  rw [sgnD_sg hx, sgnD_sg hy]
  have a := sgn_mul_pos (a := Dm.sg y) (Dm.p10_pos s)
  have b := sgn_mul_pos (a := Dm.sg x) (Dm.p10_pos y.sc)
  rw [h] at a
  have e1 : Dm.sg y < 0 ↔ Dm.sg x < 0 := a.1.symm.trans b.1
  have e2 : 0 < Dm.sg y ↔ 0 < Dm.sg x := a.2.symm.trans b.2
  simp only [e1, e2]
theorem tenth_may : Dm.May ⟨false, [49], 1⟩ := ⟨by intro c h; simp at h; rw [h]; rfl, by simp, by simp, .inr ⟨⟨49, [], rfl, by decide⟩, .inr ⟨[], 49, rfl, by decide⟩⟩⟩
theorem mul_tenth (x : Bool) (y : List UInt8) (z : Nat) (w : World) (hm : Dm.May ⟨x, y, z⟩) :
    Calls Tryz.prog 52 #[.agg #[.bool x, .string ⟨y.toArray⟩, .int .i64 (z : Int)], .agg #[.bool false, .string ⟨#[49]⟩, .int .i64 1]] w fun e w' => ∃ r, e = .returned (.tuple #[.agg #[.bool (rx r), .string (ry r), .int .i64 (rz r)], .int .i64 (re r)]) ∧ Dm.Rep (Dm.sg ⟨x, y, z⟩) (z + 1) r ∧ Below w.heap.size w w' := by
  refine (mul_r ⟨x, y, z⟩ ⟨false, [49], 1⟩ w hm tenth_may).mono ?_
  rintro e w' ⟨r, rfl, h, hB⟩
  have e1 : Dm.sg ⟨false, [49], 1⟩ = 1 := rfl
  rw [e1, Int.mul_one] at h
  exact ⟨r, rfl, h, hB⟩
theorem back_ten {x y : Dm.D} {r : Option Dm.D} (hx : Dm.May x) (h : Dm.Rep (Dm.sg x) (x.sc + 1) (some y)) (hz : Dm.Rep (Dm.sg y * 10) y.sc r) : r = some x := by
  refine hz.uniq ⟨hx, ?_⟩
  have e := h.2
  rw [Dm.p10_succ, ← Int.mul_assoc] at e
  rw [← e, Int.mul_right_comm]
/-- A decimal turned below 0. -/
theorem turned {x : Bool} {y : List UInt8} {z : Nat} (h : Dm.May ⟨x, y, z⟩) : ∃ e, Dm.May ⟨e, y, z⟩ ∧ Dm.sg ⟨e, y, z⟩ = - Dm.sg ⟨x, y, z⟩ ∧ (e = false ∨ x = false) ∧ Dm.May ⟨false, y, z⟩ := by
  rcases Dm.may_cases h with ⟨a, _, a3, _⟩ | ⟨a, _, _, _⟩
  · simp only at a a3
    subst a a3
    exact ⟨false, h, by rw [zero_sg]; rfl, .inl rfl, h⟩
  · obtain ⟨t1, t2⟩ := turn_may h a
    refine ⟨!x, t1, t2, by cases x <;> simp, ?_⟩
    cases x
    · exact h
    · exact t1
theorem turned_rep {x e : Bool} {y : List UInt8} {z : Nat} {r : Option Dm.D} (hm : Dm.May ⟨e, y, z⟩) (hs : Dm.sg ⟨e, y, z⟩ = - Dm.sg ⟨x, y, z⟩) (h : Dm.Rep (Dm.sg ⟨false, [48], 0⟩ * Dm.p10 z - Dm.sg ⟨x, y, z⟩ * Dm.p10 0) (0 + z) r) : r = some ⟨e, y, z⟩ := by
  rw [zero_sg, Int.zero_mul, Int.zero_sub, Dm.p10_zero, Int.mul_one, Nat.zero_add, ← hs] at h
  exact h.uniq ⟨hm, rfl⟩
theorem sgnD_pos (y : List UInt8) (q : Int) (h : sgnD false y = q) : decide (0 ≤ q) = true := by
  rw [decide_eq_true_eq, ← h]
  unfold sgnD
  split
  · decide
  · simp
end Go.Proofs.YtmlmplmghlbdmaaGreatDoor
