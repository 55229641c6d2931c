/- What is proved here: numbers behind a long division, digit by digit; conditions: none. -/
import Derived.Test.YtmlmplmghlbdmaaGreatDoorMh
import Derived.Test.YtmlmplmghlbdmaaGreatDoorM
import Derived.Lib.Bytealg
set_option linter.unusedSimpArgs false
set_option linter.unusedVariables false
namespace Go.Proofs.YtmlmplmghlbdmaaGreatDoor
namespace Dm

/-- After some digits of N: the quotient's digits, and the rest. -/
def LongInv (N : List UInt8) (B k : Nat) (Q S : List UInt8) (n : Nat) : Prop :=
  Q.length = k ∧ allD Q ∧ S.length = n ∧ allD S ∧ num (N.take k) = num Q * B + num S ∧ num S < B
/-- Ten times the rest, and a digit more. -/
def pushD (S : List UInt8) (c : UInt8) : List UInt8 := S.tail ++ [c]
theorem pushD_len {S : List UInt8} {c : UInt8} {n : Nat} (h : S.length = n) (hn : 1 ≤ n) : (pushD S c).length = n := by
  unfold pushD; rw [List.length_append, List.length_tail]; simp; omega
theorem pushD_allD {S : List UInt8} {c : UInt8} (h : allD S) (hc : isD c = true) : allD (pushD S c) := by
  unfold pushD
  refine allD_append.2 ⟨fun x hx => h x (List.mem_of_mem_tail hx), fun x hx => ?_⟩
  simp at hx; rw [hx]; exact hc
theorem tail_num {S : List UInt8} {n : Nat} (hl : S.length = n + 1) (hS : allD S) (h : num S < 10 ^ n) : num S.tail = num S := by
  cases S with
  | nil => simp at hl
  | cons c t =>
    rw [allD_cons] at hS
    simp only [List.length_cons, Nat.add_right_cancel_iff] at hl
    rw [num_cons, hl] at h
    have h0 : dv c = 0 := by
      rcases Nat.eq_zero_or_pos (dv c) with g | g
      · exact g
      · have : 1 * 10 ^ n ≤ dv c * 10 ^ n := Nat.mul_le_mul_right _ g
        omega
    rw [num_cons, h0]; simp
theorem pushD_num {S : List UInt8} {c : UInt8} {n : Nat} (hl : S.length = n + 1) (hS : allD S) (h : num S < 10 ^ n) : num (pushD S c) = 10 * num S + dv c := by
  unfold pushD; rw [num_snoc, tail_num hl hS h]
/-- Within a step: so often has the divisor been taken off. -/
def StepInv (X B q : Nat) (S : List UInt8) (n : Nat) : Prop := S.length = n ∧ allD S ∧ X = q * B + num S ∧ q ≤ 9
theorem StepInv.more {X B q : Nat} {S L : List UInt8} {n : Nat} (h : StepInv X B q S n) (hX : X < 10 * B) (hge : B ≤ num S) (hl : L.length = n) (hL : allD L) (hn : num L + B = num S) : StepInv X B (q + 1) L n := by
  obtain ⟨h1, h2, h3, h4⟩ := h
  have e : (q + 1) * B = q * B + B := by rw [Nat.add_mul, Nat.one_mul]
  refine ⟨hl, hL, by omega, ?_⟩
  have : (q + 1) * B ≤ X := by omega
  have h10 : (q + 1) * B < 10 * B := by omega
  have := Nat.lt_of_mul_lt_mul_right h10
  omega
theorem LongInv.next {N Q S S' : List UInt8} {B k n q : Nat} {c d : UInt8} (h : LongInv N B k Q S (n + 1)) (hB : B ≤ 10 ^ n) (hk : k < N.length) (hc : c = N[k]) (hd : isD c = true) (hs : StepInv (num (pushD S c)) B q S' (n + 1)) (hlt : num S' < B) (hq : d.toNat = 48 + q) : LongInv N B (k + 1) (Q ++ [d]) S' (n + 1) := by
  obtain ⟨h1, h2, h3, h4, h5, h6⟩ := h
  obtain ⟨s1, s2, s3, s4⟩ := hs
  have hdd : isD d = true := isD_iff.2 (by omega)
  have hdv : dv d = q := by unfold dv; omega
  refine ⟨by simp [h1], allD_append.2 ⟨h2, fun x hx => by simp at hx; rw [hx]; exact hdd⟩, s1, s2, ?_, hlt⟩
  rw [List.take_succ_eq_append_getElem hk, num_snoc, num_snoc, ← hc, h5, hdv]
  rw [pushD_num h3 h4 (by omega)] at s3
  have e : (10 * num Q + q) * B = 10 * (num Q * B) + q * B := by rw [Nat.add_mul, Nat.mul_assoc]
  rw [e]; omega
theorem step_lt {N Q S : List UInt8} {B k n : Nat} {c : UInt8} (h : LongInv N B k Q S (n + 1)) (hB : B ≤ 10 ^ n) (hc : isD c = true) : num (pushD S c) < 10 * B := by
  obtain ⟨h1, h2, h3, h4, h5, h6⟩ := h
  rw [pushD_num h3 h4 (by omega)]
  have := dv_le hc
  omega
theorem LongInv.fin {N Q S : List UInt8} {B n : Nat} (h : LongInv N B N.length Q S n) : num Q = num N / B ∧ num S = num N % B := by
  obtain ⟨h1, h2, h3, h4, h5, h6⟩ := h
  rw [List.take_length] at h5
  have hB : 0 < B := by omega
  rw [h5, Nat.mul_comm]
  exact ⟨by rw [Nat.mul_add_div hB, Nat.div_eq_of_lt h6, Nat.add_zero], by rw [Nat.mul_add_mod, Nat.mod_eq_of_lt h6]⟩
/-- Rows of digits of one length are in the order of their numbers. -/
theorem cmp_rows (x y : List UInt8) (hx : allD x) (hy : allD y) (h : x.length = y.length) : (0 ≤ Lib.compareBytes x y ↔ num y ≤ num x) := by
  induction x generalizing y with
  | nil =>
    cases y with
    | nil => simp [Lib.compareBytes, num]
    | cons d u => simp at h
  | cons c t ih =>
    cases y with
    | nil => simp at h
    | cons d u =>
      rw [allD_cons] at hx hy
      simp only [List.length_cons, Nat.add_right_cancel_iff] at h
      have hlt := num_lt hx.2
      have hlu := num_lt hy.2
      rw [h] at hlt
      have h1 := isD_iff.1 hx.1
      have h2 := isD_iff.1 hy.1
      rw [num_cons, num_cons, h]
      unfold Lib.compareBytes
      by_cases e1 : c < d
      · rw [if_pos e1]
        have := UInt8.lt_iff_toNat_lt.1 e1
        have : (dv c + 1) * 10 ^ u.length ≤ dv d * 10 ^ u.length := Nat.mul_le_mul_right _ (by unfold dv; omega)
        rw [Nat.add_mul] at this
        constructor
        · intro q; exact absurd q (by decide)
        · intro q; omega
      · rw [if_neg e1]
        by_cases e2 : d < c
        · rw [if_pos e2]
          have := UInt8.lt_iff_toNat_lt.1 e2
          have : (dv d + 1) * 10 ^ u.length ≤ dv c * 10 ^ u.length := Nat.mul_le_mul_right _ (by unfold dv; omega)
          rw [Nat.add_mul] at this
          constructor
          · intro _; omega
          · intro _; decide
        · rw [if_neg e2]
          have q1 : ¬ c.toNat < d.toNat := fun g => e1 (UInt8.lt_iff_toNat_lt.2 g)
          have q2 : ¬ d.toNat < c.toNat := fun g => e2 (UInt8.lt_iff_toNat_lt.2 g)
          have e : c = d := UInt8.toNat_inj.1 (by omega)
          subst e
          rw [ih u hx.2 hy.2 h]
          omega
end Dm
end Go.Proofs.YtmlmplmghlbdmaaGreatDoor
