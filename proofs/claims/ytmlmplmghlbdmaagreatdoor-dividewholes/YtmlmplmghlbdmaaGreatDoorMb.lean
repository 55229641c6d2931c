/- What is proved here: plain facts on digits that are added, taken off and multiplied one by one; conditions: none. It imports nothing of any program but plain facts. -/
import Derived.Test.YtmlmplmghlbdmaaGreatDoorM
set_option linter.unusedSimpArgs false
set_option linter.unusedVariables false
namespace Go.Proofs.YtmlmplmghlbdmaaGreatDoor
namespace Dm

/-- The digit that has i others behind it. -/
def dAt (l : List UInt8) (i : Int) : Nat := if 0 ≤ i ∧ i < (l.length : Int) then dv (l.getD (l.length - 1 - i.toNat) 48) else 0

theorem digit_mid (p : List UInt8) (c : UInt8) (q : List UInt8) (hc : isD c = true) (hq : allD q) : num (p ++ c :: q) / 10 ^ q.length % 10 = dv c := by
  have h1 := num_lt hq
  have h2 := dv_le hc
  have hp := pow_pos' q.length
  have e : num (p ++ c :: q) = num q + 10 ^ q.length * (num p * 10 + dv c) := by
    rw [num_append, num_cons, List.length_cons, Nat.pow_succ]
    have e1 : num p * (10 ^ q.length * 10) = 10 ^ q.length * (num p * 10) := by
      rw [← Nat.mul_assoc, Nat.mul_comm (num p), Nat.mul_assoc]
    have e2 : dv c * 10 ^ q.length = 10 ^ q.length * dv c := Nat.mul_comm _ _
    rw [e1, e2, Nat.mul_add]; omega
  rw [e, Nat.add_mul_div_left _ _ hp, Nat.div_eq_of_lt h1]
  omega
theorem digit_nat {l : List UInt8} (h : allD l) (j : Nat) : num l / 10 ^ j % 10 = if j < l.length then dv (l.getD (l.length - 1 - j) 48) else 0 := by
  by_cases g : j < l.length
  · rw [if_pos g]
    have hi : l.length - 1 - j < l.length := by omega
    have hd := List.drop_eq_getElem_cons hi
    have hl : l = l.take (l.length - 1 - j) ++ l[l.length - 1 - j] :: l.drop (l.length - 1 - j + 1) := by
      rw [← hd, List.take_append_drop]
    have hq : (l.drop (l.length - 1 - j + 1)).length = j := by rw [List.length_drop]; omega
    have := digit_mid (l.take (l.length - 1 - j)) l[l.length - 1 - j] (l.drop (l.length - 1 - j + 1)) (h _ (List.getElem_mem hi)) (fun c hc => h c (List.mem_of_mem_drop hc))
    rw [hq, ← hl] at this
    rw [this]
    simp [List.getD, List.getElem?_eq_getElem hi]
  · rw [if_neg g]
    have h1 := num_lt h
    have : 10 ^ l.length ≤ 10 ^ j := Nat.pow_le_pow_right (by omega) (by omega)
    rw [Nat.div_eq_of_lt (by omega)]
theorem dAt_nat {l : List UInt8} (h : allD l) (m k : Nat) : dAt l ((k : Int) - (m : Int)) = num l * 10 ^ m / 10 ^ k % 10 := by
  by_cases g : k < m
  · obtain ⟨d, rfl⟩ : ∃ d, m = k + 1 + d := ⟨m - k - 1, by omega⟩
    have e : num l * 10 ^ (k + 1 + d) = 10 ^ k * (num l * 10 ^ d * 10) := by
      rw [Nat.pow_add, Nat.pow_succ]
      simp only [Nat.mul_comm, Nat.mul_left_comm, Nat.mul_assoc]
    rw [e, Nat.mul_div_cancel_left _ (pow_pos' k), Nat.mul_mod_left]
    unfold dAt
    rw [if_neg (by omega)]
  · obtain ⟨j, rfl⟩ : ∃ j, k = m + j := ⟨k - m, by omega⟩
    have e : num l * 10 ^ m / 10 ^ (m + j) = num l / 10 ^ j := by
      rw [Nat.pow_add, ← Nat.div_div_eq_div_mul, Nat.mul_div_cancel _ (pow_pos' m)]
    rw [e, digit_nat h j]
    unfold dAt
    by_cases g2 : j < l.length
    · rw [if_pos (by omega), if_pos g2]
      congr 2
      omega
    · rw [if_neg (by omega), if_neg g2]
theorem dAt_le {l : List UInt8} (h : allD l) (i : Int) : dAt l i ≤ 9 := by
  unfold dAt
  by_cases g : 0 ≤ i ∧ i < (l.length : Int)
  · rw [if_pos g]
    have hi : l.length - 1 - i.toNat < l.length := by omega
    apply dv_le
    simp only [List.getD, List.getElem?_eq_getElem hi, Option.getD_some]
    exact h _ (List.getElem_mem hi)
  · rw [if_neg g]; omega

/-- One step of adding, or of taking off, digit by digit. -/
theorem step_add {A B k low : Nat} {s c t : Int} (h : ((A % 10 ^ k : Nat) : Int) + s * ((B % 10 ^ k : Nat) : Int) = (low : Int) + c * p10 k)
    (ht : t = ((A / 10 ^ k % 10 : Nat) : Int) + s * ((B / 10 ^ k % 10 : Nat) : Int) + c + 10) (h0 : 0 ≤ t) :
    ((A % 10 ^ (k + 1) : Nat) : Int) + s * ((B % 10 ^ (k + 1) : Nat) : Int) = (((t % 10).toNat * 10 ^ k + low : Nat) : Int) + (t / 10 - 1) * p10 (k + 1) := by
  have eA : A % 10 ^ (k + 1) = A % 10 ^ k + 10 ^ k * (A / 10 ^ k % 10) := Nat.mod_pow_succ
  have eB : B % 10 ^ (k + 1) = B % 10 ^ k + 10 ^ k * (B / 10 ^ k % 10) := Nat.mod_pow_succ
  have hp : p10 (k + 1) = p10 k * 10 := p10_succ k
  rw [eA, eB, hp]
  have hk : ((10 ^ k : Nat) : Int) = p10 k := rfl
  generalize A % 10 ^ k = a at *
  generalize B % 10 ^ k = b at *
  generalize A / 10 ^ k % 10 = da at *
  generalize B / 10 ^ k % 10 = db at *
  generalize 10 ^ k = q at *
  generalize p10 k = P at *
  subst hk
  have e1 : (((t % 10).toNat * q + low : Nat) : Int) = (t % 10) * (q : Int) + (low : Int) := by
    rw [Int.natCast_add, Int.natCast_mul, Int.toNat_of_nonneg (by omega)]
  rw [e1, Int.natCast_add, Int.natCast_add, Int.natCast_mul, Int.natCast_mul]
  have e2 : t % 10 = t - 10 * (t / 10) := by omega
  rw [e2]
  have e3 : (a : Int) + (q : Int) * (da : Int) + s * ((b : Int) + (q : Int) * (db : Int)) = ((a : Int) + s * (b : Int)) + (q : Int) * ((da : Int) + s * (db : Int)) := by
    rw [Int.mul_add, Int.mul_add, Int.mul_left_comm]; omega
  rw [e3, h]
  have e4 : (da : Int) + s * (db : Int) = t - c - 10 := by omega
  rw [e4, Int.mul_sub, Int.mul_sub, Int.sub_mul, Int.sub_mul, Int.mul_comm (q : Int) t, Int.mul_comm (q : Int) c, Int.mul_comm (q : Int) 10]
  have e5 : t / 10 * (10 * (q : Int)) = 10 * (t / 10) * (q : Int) := by
    rw [← Int.mul_assoc, Int.mul_comm (t / 10) 10]
  rw [e5]
  generalize 10 * (t / 10) * (q : Int) = z1
  generalize t * (q : Int) = z2
  generalize c * (q : Int) = z3
  omega

/-- One step of a product: of each place, what stands there and what is carried. -/
theorem step_mul {S k low c t : Nat} {x : Nat} (h : S = low + c * 10 ^ k) (ht : t = x + c) :
    S + x * 10 ^ k = (t % 10 * 10 ^ k + low) + t / 10 * 10 ^ (k + 1) := by
  have e : t = 10 * (t / 10) + t % 10 := by omega
  have e2 : t * 10 ^ k = 10 * (t / 10) * 10 ^ k + t % 10 * 10 ^ k := by
    conv => lhs; rw [e]
    rw [Nat.add_mul]
  have e3 : t / 10 * 10 ^ (k + 1) = 10 * (t / 10) * 10 ^ k := by
    rw [Nat.pow_succ, Nat.mul_comm (10 ^ k) 10, ← Nat.mul_assoc, Nat.mul_comm (t / 10) 10]
  rw [h, e3]
  have e4 : t * 10 ^ k = x * 10 ^ k + c * 10 ^ k := by rw [ht, Nat.add_mul]
  omega
theorem drop_set_len {l : List UInt8} {j : Nat} (hj : j < l.length) (c : UInt8) : (l.set j c).drop j = c :: l.drop (j + 1) := by
  have h1 : j < (l.set j c).length := by rw [List.length_set]; exact hj
  rw [List.drop_eq_getElem_cons h1]
  congr 1
  · simp
  · rw [List.drop_set_of_lt (by omega)]
end Dm
end Go.Proofs.YtmlmplmghlbdmaaGreatDoor
