/- What is proved here: what isOdd of package divide does, walked, and how texts of digits stand to "5"; conditions: as each theorem states. -/
import Derived.Test.YtmlmplmghlbdmaaGreatDoorDh
import Derived.Test.YtmlmplmghlbdmaaGreatDoorMs
namespace Go.Proofs.YtmlmplmghlbdmaaGreatDoor
open Go.RowKit
set_option linter.unusedVariables false
set_option linter.unusedSimpArgs false

theorem gt_five (K : List UInt8) : (!(Op.bytesLess K [53] || K == [53])) = Dm.gt5 K := by
  cases K with
  | nil => rfl
  | cons a x =>
    have e1 : Op.bytesLess (a :: x) [53] = decide (a.toNat < 53) := by
      unfold Op.bytesLess
      cases x with
      | nil => simp [Op.bytesLess, UInt8.lt_iff_toNat_lt]
      | cons => simp [Op.bytesLess, UInt8.lt_iff_toNat_lt]
    rw [e1]
    by_cases h : a = 53
    · subst h
      cases x <;> simp [Dm.gt5]
    · have h2 : a.toNat ≠ 53 := fun e => h (UInt8.toNat_inj.1 (by simpa using e))
      have h3 : (a :: x == [53]) = false := beq_eq_false_iff_ne.2 (by intro e; injection e with e _; exact h e)
      rw [h3, Bool.or_false]
      simp only [Dm.gt5]
      rw [decide_eq_false h2, Bool.false_and, Bool.or_false]
      by_cases g : a.toNat < 53
      · rw [decide_eq_true g, decide_eq_false (by omega)]; rfl
      · rw [decide_eq_false g, decide_eq_true (by omega)]; rfl
theorem last_of {l a : List UInt8} {c : UInt8} (h : l = a ++ [c]) (k : Nat) (hk : k + 1 = l.length) (h2 : k < l.length) : l[k]'h2 = c := by
  subst h
  simp at hk
  subst hk
  simp
set_option maxRecDepth 100000 in
set_option maxHeartbeats 1000000 in
theorem isOdd_b (l : List UInt8) (n : Nat) (o : Bool) (w : World) (hl : l.length = n + 1) (hn : n ≤ 100) (ho : decide ((l.getD n 0).toNat % 2 = 1) = o) :
    Calls Tryz.prog 67 #[.string ⟨l.toArray⟩] w fun e w' => e = .returned (.bool o) ∧ Below w.heap.size w w' := by
  have h2 : n < l.length := by omega
  have e : l.getD n 0 = l[n]'h2 := by simp [List.getD, h2]
  rw [e] at ho
  go_enter Tryz.func67, Tryz.ntmps67
  go_wp2
  go_ret
  refine ⟨?_, Below.refl _ _⟩
  rw [← ho]
  have e3 : ∀ c : UInt8, ((c.toNat : Int) % 2 == 1) = decide (c.toNat % 2 = 1) := by
    intro c
    by_cases h : c.toNat % 2 = 1
    · rw [decide_eq_true h]
      have : (c.toNat : Int) % 2 = 1 := by omega
      rw [this]; rfl
    · rw [decide_eq_false h]
      exact beq_eq_false_iff_ne.2 (by omega)
  rw [← e3]
  rfl
end Go.Proofs.YtmlmplmghlbdmaaGreatDoor
