/- What is proved here: plain facts on sums of places, the highest first; conditions: as each theorem states. -/
import Derived.Test.YtijelgmmmceflaaDoorMh
namespace Go.Proofs.YtijelgmmmceflaaDoor
set_option linter.unusedVariables false
set_option linter.unusedSimpArgs false
namespace Dm

/-- What sums of places are worth, the highest place first. -/
def VR : List Nat → Nat
  | [] => 0
  | x :: t => x * 10 ^ t.length + VR t
theorem VR_zero (n : Nat) : VR (List.replicate n 0) = 0 := by
  induction n with
  | zero => rfl
  | succ n ih => rw [List.replicate_succ, VR, ih]; simp
theorem VR_set (S : List Nat) (p x : Nat) (h : p < S.length) : VR (S.set p (S.getD p 0 + x)) = VR S + x * 10 ^ (S.length - 1 - p) := by
  induction S generalizing p with
  | nil => simp at h
  | cons y t ih =>
    cases p with
    | zero =>
      simp only [List.set_cons_zero, VR, List.getD_cons_zero, List.length_cons]
      rw [show t.length + 1 - 1 - 0 = t.length by omega, Nat.add_mul]; omega
    | succ p =>
      have h' : p < t.length := by simpa using h
      have := ih p h'
      simp only [List.set_cons_succ, VR, List.getD_cons_succ, this, List.length_cons, List.length_set]
      rw [show t.length + 1 - 1 - (p + 1) = t.length - 1 - p by omega]; omega
theorem VR_drop (S : List Nat) (j : Nat) (h : j < S.length) : VR (S.drop j) = S.getD j 0 * 10 ^ (S.length - 1 - j) + VR (S.drop (j + 1)) := by
  have e2 : S.getD j 0 = S[j] := by simp [List.getD, h]
  rw [List.drop_eq_getElem_cons h, VR, List.length_drop, e2, show S.length - (j + 1) = S.length - 1 - j by omega]
theorem num_take_next {l : List UInt8} {k : Nat} (h : k < l.length) : num (l.take (k + 1)) * 10 ^ (l.length - (k + 1)) = num (l.take k) * 10 ^ (l.length - k) + dv l[k] * 10 ^ (l.length - 1 - k) := by
  rw [List.take_succ_eq_append_getElem h, num_snoc, show l.length - (k + 1) = l.length - 1 - k by omega, Nat.add_mul, show l.length - k = (l.length - 1 - k) + 1 by omega, Nat.pow_succ]
  congr 1
  rw [Nat.mul_comm (10 ^ (l.length - 1 - k)) 10, ← Nat.mul_assoc, Nat.mul_comm (num _) 10]
/-- The part that i digits of the first, and k digits of the next one, have made. -/
theorem rmul_inner {A B d X e u v w : Nat} (hB : B = X + e * 10 ^ v) : d * 10 ^ u * X + d * e * 10 ^ (u + v) = d * 10 ^ u * B := by
  subst hB
  rw [Nat.mul_add, Nat.pow_add]
  congr 1
  rw [Nat.mul_assoc, Nat.mul_assoc]
  congr 1
  rw [← Nat.mul_assoc, ← Nat.mul_assoc, Nat.mul_comm e]
theorem rmul_outer {A X d B u : Nat} (hA : A = X + d * 10 ^ u) : X * B + d * 10 ^ u * B = A * B := by
  subst hA; rw [Nat.add_mul]
end Dm
end Go.Proofs.YtijelgmmmceflaaDoor
