/- What is proved here: what isHalfOrMore and whole of package divide do with a decimal that may be, walked; condition: the table of powers of ten lies in the world. -/
import Derived.Test.YtmlmplmghlbdmaaGreatDoorDl
import Derived.Test.YtmlmplmghlbdmaaGreatDoorMu
namespace Go.Proofs.YtmlmplmghlbdmaaGreatDoor
open Go.RowKit
set_option linter.unusedVariables false
set_option linter.unusedSimpArgs false

set_option maxRecDepth 100000 in
set_option maxHeartbeats 2000000 in
theorem half_0 (x : Bool) (y : List UInt8) (w : World) :
    Calls Tryz.prog 50 #[.agg #[.bool x, .string ⟨y.toArray⟩, .int .i64 0]] w fun e w' => e = .returned (.bool false) ∧ Below w.heap.size w w' := by
  have hS := Box3.start w (.bool x) (.string ⟨y.toArray⟩) (.int .i64 0) 23
  obtain ⟨_, _, a0, a1, a2⟩ := id hS
  go_enter Tryz.func50, Tryz.ntmps50
  go_wp2_with fail
  go_ret
  exact ⟨rfl, hS.1⟩
set_option maxRecDepth 100000 in
set_option maxHeartbeats 2000000 in
theorem half_far (x : Bool) (y : List UInt8) (z : Nat) (w : World) (h0 : 0 < z) (hz : y.length < z) (hz1 : z ≤ 60) :
    Calls Tryz.prog 50 #[.agg #[.bool x, .string ⟨y.toArray⟩, .int .i64 (z : Int)]] w fun e w' => e = .returned (.bool false) ∧ Below w.heap.size w w' := by
  have hS := Box3.start w (.bool x) (.string ⟨y.toArray⟩) (.int .i64 (z : Int)) 23
  obtain ⟨_, _, a0, a1, a2⟩ := id hS
  have g1 : ¬ (z : Int) ≤ 0 := by omega
  have g2 : (y.length : Int) < (z : Int) := by omega
  go_enter Tryz.func50, Tryz.ntmps50
  go_wp2_with fail
  go_ret
  exact ⟨rfl, hS.1⟩
set_option maxRecDepth 100000 in
set_option maxHeartbeats 2000000 in
theorem half_in (x : Bool) (y : List UInt8) (z : Nat) (b : Bool) (w : World) (h0 : 0 < z) (hz : z ≤ y.length) (hy : y.length ≤ 60) (hb : decide (53 ≤ (y.getD (y.length - z) 0).toNat) = b) :
    Calls Tryz.prog 50 #[.agg #[.bool x, .string ⟨y.toArray⟩, .int .i64 (z : Int)]] w fun e w' => e = .returned (.bool b) ∧ Below w.heap.size w w' := by
  have hS := Box3.start w (.bool x) (.string ⟨y.toArray⟩) (.int .i64 (z : Int)) 23
  obtain ⟨_, _, a0, a1, a2⟩ := id hS
  have g1 : ¬ (z : Int) ≤ 0 := by omega
  have g2 : ¬ (y.length : Int) < (z : Int) := by omega
  obtain ⟨k, hk⟩ : ∃ k, y.length - z = k := ⟨_, rfl⟩
  have hkl : k < y.length := by omega
  have hk2 : (y.length : Int) - (z : Int) = (k : Int) := by omega
  rw [hk] at hb
  have e : y.getD k 0 = y[k]'hkl := by simp [List.getD, hkl]
  rw [e] at hb
  have HB := hide hb
  clear hb hk
  go_enter Tryz.func50, Tryz.ntmps50
  go_wp2_with fail
  go_ret
  refine ⟨?_, hS.1⟩
  rw [← unhide HB]
  have e3 : ∀ c : UInt8, decide ((53 : Int) ≤ (c.toNat : Int)) = decide (53 ≤ c.toNat) := by
    intro c
    exact decide_eq_decide.2 (by omega)
  rw [← e3]
  rfl
/-- It answers, one way or the other. -/
theorem half_any (x : Bool) (y : List UInt8) (z : Nat) (w : World) (h : Dm.May ⟨x, y, z⟩) :
    Calls Tryz.prog 50 #[.agg #[.bool x, .string ⟨y.toArray⟩, .int .i64 (z : Int)]] w fun e w' => e = .returned (.bool (decide (0 < z) && (decide (z ≤ y.length) && decide (53 ≤ (y.getD (y.length - z) 0).toNat)))) ∧ Below w.heap.size w w' := by
  obtain ⟨l1, l2, l3⟩ := may_len h
  simp only at l1 l2 l3
  by_cases h0 : 0 < z
  · by_cases hz : z ≤ y.length
    · rw [decide_eq_true h0, decide_eq_true hz, Bool.true_and, Bool.true_and]
      exact half_in x y z _ w h0 hz l2 rfl
    · rw [decide_eq_true h0, decide_eq_false hz, Bool.true_and, Bool.false_and]
      exact half_far x y z w h0 (by omega) l3
  · have : z = 0 := by omega
    subst this
    exact half_0 x y w
end Go.Proofs.YtmlmplmghlbdmaaGreatDoor
