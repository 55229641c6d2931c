/- What is proved here: plain facts on sums of places; conditions: none. It imports nothing of any program but plain facts. -/
import Derived.Test.YtmlmplmghlbdmaaGreatDoorMb
set_option linter.unusedSimpArgs false
set_option linter.unusedVariables false
namespace Go.Proofs.YtmlmplmghlbdmaaGreatDoor
namespace Dm

/-- What sums of places are worth, the lowest place first. -/
def V : List Nat → Nat
  | [] => 0
  | x :: t => x + 10 * V t
theorem V_set (S : List Nat) (p x : Nat) (h : p < S.length) : V (S.set p (S.getD p 0 + x)) = V S + x * 10 ^ p := by
  induction S generalizing p with
  | nil => simp at h
  | cons y t ih =>
    cases p with
    | zero => simp [V]; omega
    | succ p =>
      have := ih p (by simpa using h)
      simp only [List.set_cons_succ, V, List.getD_cons_succ, this, Nat.pow_succ]
      have e : x * (10 ^ p * 10) = 10 * (x * 10 ^ p) := by rw [← Nat.mul_assoc, Nat.mul_comm]
      rw [e]; omega
theorem V_zero (n : Nat) : V (List.replicate n 0) = 0 := by
  induction n with
  | zero => rfl
  | succ n ih => simp [List.replicate_succ, V, ih]
theorem V_append (S T : List Nat) : V (S ++ T) = V S + V T * 10 ^ S.length := by
  induction S with
  | nil => simp [V]
  | cons y t ih =>
    simp only [List.cons_append, V, ih, List.length_cons, Nat.pow_succ]
    have e : V T * (10 ^ t.length * 10) = 10 * (V T * 10 ^ t.length) := by rw [← Nat.mul_assoc, Nat.mul_comm]
    rw [e]; omega
theorem V_take_succ (S : List Nat) (k : Nat) (h : k < S.length) : V (S.take (k + 1)) = V (S.take k) + S.getD k 0 * 10 ^ k := by
  rw [List.take_succ_eq_append_getElem h, V_append]
  have e : (S.take k).length = k := by rw [List.length_take]; omega
  have e2 : S.getD k 0 = S[k] := by simp [List.getD, h]
  rw [e, e2]
  simp [V]
/-- One more digit of the first number. -/
theorem mul_outer {A B i X : Nat} (h : X = A % 10 ^ i * B) : X + A / 10 ^ i % 10 * 10 ^ i * B = A % 10 ^ (i + 1) * B := by
  have e : A % 10 ^ (i + 1) = A % 10 ^ i + 10 ^ i * (A / 10 ^ i % 10) := Nat.mod_pow_succ
  rw [e, Nat.add_mul, h, Nat.mul_comm (10 ^ i)]
/-- One more digit of the second. -/
theorem mul_inner {B i j X d : Nat} : X + d * 10 ^ i * (B % 10 ^ j) + d * (B / 10 ^ j % 10) * 10 ^ (i + j) = X + d * 10 ^ i * (B % 10 ^ (j + 1)) := by
  have e : B % 10 ^ (j + 1) = B % 10 ^ j + 10 ^ j * (B / 10 ^ j % 10) := Nat.mod_pow_succ
  rw [e, Nat.mul_add, Nat.pow_add]
  have e2 : d * (B / 10 ^ j % 10) * (10 ^ i * 10 ^ j) = d * 10 ^ i * (10 ^ j * (B / 10 ^ j % 10)) := by
    generalize B / 10 ^ j % 10 = q
    rw [Nat.mul_assoc, Nat.mul_assoc]
    congr 1
    rw [Nat.mul_left_comm, Nat.mul_comm q]
  omega
end Dm
end Go.Proofs.YtmlmplmghlbdmaaGreatDoor
