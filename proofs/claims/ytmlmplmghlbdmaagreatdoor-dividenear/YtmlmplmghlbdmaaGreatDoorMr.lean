/- What is proved here: how a quotient is rounded to 34 digits, as package divide does it, in the words of numbers; conditions: as each theorem states. -/
import Derived.Test.YtmlmplmghlbdmaaGreatDoorMp
set_option linter.unusedSimpArgs false
set_option linter.unusedVariables false
namespace Go.Proofs.YtmlmplmghlbdmaaGreatDoor
namespace Dm

/-- More than "5", as texts are ordered. -/
def gt5 : List UInt8 → Bool
  | [] => false
  | a :: x => decide (53 < a.toNat) || (decide (a.toNat = 53) && !x.isEmpty)

theorem tr_cases (B : List UInt8) : ∃ K j, B = K ++ List.replicate j 48 ∧ tr B = K ∧ (K = [] ∨ noTail K) := by
  refine ⟨tr B, _, tr_spec B, rfl, ?_⟩
  by_cases h : tr B = []
  · exact .inl h
  · exact .inr (tr_tail B h)
theorem num_snoc_pos {l : List UInt8} (hd : allD l) (h : noTail l) : 0 < num l := by
  have := tail_mod hd h
  omega
theorem noTail_tail {c : UInt8} {l : List UInt8} (h : noTail (c :: l)) : l = [] ∨ noTail l := by
  obtain ⟨t, d, e, hd⟩ := h
  cases t with
  | nil => left; injection e
  | cons a t => right; injection e with _ e; exact ⟨t, d, e, hd⟩

/-- What stands behind the digits that are kept, against a half. -/
theorem half_spec {B : List UInt8} (hd : allD B) (hne : B ≠ []) :
    gt5 (tr B) = decide (5 * 10 ^ (B.length - 1) < num B) ∧ (tr B == [53]) = decide (num B = 5 * 10 ^ (B.length - 1)) := by
  obtain ⟨K, j, rfl, hK, ht⟩ := tr_cases B
  rw [hK]
  have hdK := (allD_append.1 hd).1
  cases K with
  | nil =>
    have hp := pow_pos' (([] ++ List.replicate j (48 : UInt8)).length - 1)
    rw [num_append_zeros, num_nil, Nat.zero_mul]
    refine ⟨?_, ?_⟩
    · rw [show gt5 [] = false from rfl]; symm; rw [decide_eq_false_iff_not]; omega
    · rw [show (([] : List UInt8) == [53]) = false from rfl]; symm; rw [decide_eq_false_iff_not]; omega
  | cons k K =>
    rw [num_append_zeros]
    have hl : (k :: K ++ List.replicate j 48).length - 1 = K.length + j := by simp
    rw [hl, Nat.pow_add, ← Nat.mul_assoc]
    have hp := pow_pos' j
    have e1 : (5 * 10 ^ K.length * 10 ^ j < num (k :: K) * 10 ^ j) ↔ (5 * 10 ^ K.length < num (k :: K)) := Nat.mul_lt_mul_right hp
    have e2 : (num (k :: K) * 10 ^ j = 5 * 10 ^ K.length * 10 ^ j) ↔ (num (k :: K) = 5 * 10 ^ K.length) := ⟨fun h => Nat.eq_of_mul_eq_mul_right hp h, fun h => by rw [h]⟩
    rw [allD_cons] at hdK
    have hk := isD_iff.1 hdK.1
    have hlt := num_lt hdK.2
    have hpp := pow_pos' K.length
    have hn := num_cons k K
    have hcase : K = [] ∨ 0 < num K := by
      rcases ht with h | h
      · cases h
      · rcases noTail_tail h with h | h
        · exact .inl h
        · exact .inr (num_snoc_pos hdK.2 h)
    have q5 : (k :: K == [53]) = (decide (k.toNat = 53) && K.isEmpty) := by
      cases K with
      | nil =>
        by_cases h : k = 53
        · subst h; rfl
        · have : k.toNat ≠ 53 := fun e => h (UInt8.toNat_inj.1 (by simpa using e))
          simp [h, this]
      | cons a b => simp
    rw [q5]
    have f1 : decide (5 * 10 ^ K.length * 10 ^ j < num (k :: K) * 10 ^ j) = decide (5 * 10 ^ K.length < num (k :: K)) := decide_eq_decide.2 e1
    have f2 : decide (num (k :: K) * 10 ^ j = 5 * 10 ^ K.length * 10 ^ j) = decide (num (k :: K) = 5 * 10 ^ K.length) := decide_eq_decide.2 e2
    rw [f1, f2]
    simp only [gt5, hn]
    have dve : dv k = k.toNat - 48 := rfl
    rcases Nat.lt_trichotomy k.toNat 53 with g | g | g
    · have h4 : dv k ≤ 4 := by omega
      have : dv k * 10 ^ K.length ≤ 4 * 10 ^ K.length := Nat.mul_le_mul_right _ h4
      have a1 : ¬ 53 < k.toNat := by omega
      have a2 : ¬ k.toNat = 53 := by omega
      have a3 : ¬ 5 * 10 ^ K.length < dv k * 10 ^ K.length + num K := by omega
      have a4 : ¬ dv k * 10 ^ K.length + num K = 5 * 10 ^ K.length := by omega
      simp [a1, a2, a3, a4]
    · have h5 : dv k = 5 := by omega
      rw [h5]
      have a1 : ¬ 53 < k.toNat := by omega
      rcases hcase with rfl | hpos
      · simp [g, num_nil]
      · have hKe : K.isEmpty = false := by
          cases K with
          | nil => simp [num_nil] at hpos
          | cons => rfl
        have a3 : 5 * 10 ^ K.length < 5 * 10 ^ K.length + num K := by omega
        have a4 : ¬ 5 * 10 ^ K.length + num K = 5 * 10 ^ K.length := by omega
        simp [a1, g, hKe, a3, a4]
        omega
    · have h6 : 6 ≤ dv k := by omega
      have : 6 * 10 ^ K.length ≤ dv k * 10 ^ K.length := Nat.mul_le_mul_right _ h6
      have a2 : ¬ k.toNat = 53 := by omega
      have a3 : 5 * 10 ^ K.length < dv k * 10 ^ K.length + num K := by omega
      have a4 : ¬ dv k * 10 ^ K.length + num K = 5 * 10 ^ K.length := by omega
      simp [g, a2, a3, a4]

/-- Whether one is added to the digits that are kept: t are dropped, and r stand behind these. -/
def upN (t r W Rn : Nat) : Bool := decide (5 * 10 ^ (t - 1 + r) < W % 10 ^ t * 10 ^ r + Rn) || (decide (W % 10 ^ t * 10 ^ r + Rn = 5 * 10 ^ (t - 1 + r)) && decide (W / 10 ^ t % 2 = 1))
def nearN (t r W Rn : Nat) : Nat := W / 10 ^ t + if upN t r W Rn then 1 else 0
theorem split_num {T : List UInt8} (hd : allD T) (c : Nat) (h : c ≤ T.length) : num (T.take c) = num T / 10 ^ (T.length - c) ∧ num (T.drop c) = num T % 10 ^ (T.length - c) := by
  have e := num_append (T.take c) (T.drop c)
  rw [List.take_append_drop, List.length_drop] at e
  have hl : num (T.drop c) < 10 ^ (T.length - c) := by
    have := num_lt (l := T.drop c) (fun x hx => hd x (List.mem_of_mem_drop hx))
    rwa [List.length_drop] at this
  have hp := pow_pos' (T.length - c)
  constructor
  · rw [e, Nat.mul_comm, Nat.mul_add_div hp, Nat.div_eq_of_lt hl, Nat.add_zero]
  · rw [e, Nat.mul_comm, Nat.mul_add_mod, Nat.mod_eq_of_lt hl]
theorem up_spec {T R : List UInt8} (hT : allD T) (hR : allD R) (c : Nat) (hc : c < T.length) :
    (gt5 (tr (T.drop c ++ R)) || ((tr (T.drop c ++ R) == [53]) && decide (num (T.take c) % 2 = 1))) = upN (T.length - c) R.length (num T) (num R) := by
  obtain ⟨e1, e2⟩ := split_num hT c (by omega)
  have hd : allD (T.drop c ++ R) := allD_append.2 ⟨fun x hx => hT x (List.mem_of_mem_drop hx), hR⟩
  have hne : T.drop c ++ R ≠ [] := by
    intro h
    have := congrArg List.length h
    rw [List.length_append, List.length_drop, List.length_nil] at this
    omega
  obtain ⟨h1, h2⟩ := half_spec hd hne
  rw [h1, h2, e1]
  have hl : (T.drop c ++ R).length - 1 = T.length - c - 1 + R.length := by
    rw [List.length_append, List.length_drop]; omega
  rw [hl, num_append, e2]
  rfl
/-- A row with a nought ahead is no more than a half. -/
theorem lead0_tr {R : List UInt8} : gt5 (tr (48 :: R)) = false ∧ (tr (48 :: R) == [53]) = false := by
  obtain ⟨K, j, e, hK, _⟩ := tr_cases (48 :: R)
  rw [hK]
  cases K with
  | nil => exact ⟨rfl, rfl⟩
  | cons k K =>
    injection e with e1 e2
    subst e1
    exact ⟨by simp [gt5], by simp⟩
theorem lead0 {R : List UInt8} {n : Nat} (hd : allD R) (hl : R.length = n + 1) (h : num R < 10 ^ n) : ∃ R', R = 48 :: R' := by
  cases R with
  | nil => simp at hl
  | cons c R =>
    by_cases hc : c = 48
    · exact ⟨R, by rw [hc]⟩
    · have := num_ge (l := R) (allD_cons.1 hd).1 hc
      simp at hl
      rw [hl] at this
      omega
theorem last_odd {H : List UInt8} {a : List UInt8} {c : UInt8} (hd : allD H) (h : H = a ++ [c]) : decide (num H % 2 = 1) = decide (c.toNat % 2 = 1) := by
  subst h
  have := isD_iff.1 (hd c (by simp))
  rw [num_snoc]
  unfold dv
  congr 1
  apply propext
  constructor <;> intro <;> omega
end Dm
end Go.Proofs.YtmlmplmghlbdmaaGreatDoor
