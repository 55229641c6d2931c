/- What is proved here: plain facts on the names of masks, and on texts that are joined by blanks; conditions: none. It imports nothing of any program. -/
import Derived.Test.YtebmmnfjkckffaaCm
namespace Go.Proofs.Ytebmmnfjkckffaa.Cm
set_option linter.unusedVariables false
set_option linter.unusedSimpArgs false

theorem selK_zero (L : List Tx) (m : Nat) : selK L m 0 = [] := rfl
theorem selK_yes {L : List Tx} {m k : Nat} (h : k < L.length) (hb : m.testBit k = true) : selK L m (k + 1) = selK L m k ++ [L[k]'h] := by
  unfold selK
  rw [List.range_succ, List.filter_append, List.map_append]
  congr 1
  simp [hb, List.getD, h]
theorem selK_no {L : List Tx} {m k : Nat} (hb : m.testBit k = false) : selK L m (k + 1) = selK L m k := by
  unfold selK
  rw [List.range_succ, List.filter_append, List.map_append]
  simp [hb]
theorem flatB_snoc (ws : List Tx) (x : Tx) : flatB (ws ++ [x]) = flatB ws ++ 32 :: x := by
  unfold flatB
  simp
theorem flatB_nil : flatB [] = [] := rfl
theorem flatB_cons (ws : List Tx) (x : Tx) : flatB (x :: ws) = 32 :: (x ++ flatB ws) := by
  unfold flatB
  simp
theorem joinB_snoc (ws : List Tx) (x : Tx) : joinB (ws ++ [x]) = joinB ws ++ ((if ws = [] then [] else [32]) ++ x) := by
  unfold joinB
  rw [flatB_snoc]
  cases ws with
  | nil => rfl
  | cons y r =>
    rw [flatB_cons]
    simp
theorem joinB_nil : joinB [] = [] := rfl
theorem flatB_len {ws : List Tx} {b : Nat} (h : ∀ x ∈ ws, x.length ≤ b) : (flatB ws).length ≤ ws.length * (b + 1) := by
  induction ws with
  | nil => simp [flatB]
  | cons x r ih =>
    rw [flatB_cons, List.length_cons, List.length_append, List.length_cons, Nat.succ_mul]
    have h1 := ih (fun y hy => h y (List.mem_cons_of_mem _ hy))
    have h2 := h x List.mem_cons_self
    omega
theorem joinB_len (ws : List Tx) : (joinB ws).length ≤ (flatB ws).length := by
  unfold joinB
  rw [List.length_drop]
  omega
theorem selK_mem {L : List Tx} {m k : Nat} (hk : k ≤ L.length) {x : Tx} (hx : x ∈ selK L m k) : x ∈ L := by
  unfold selK at hx
  obtain ⟨i, hi, rfl⟩ := List.mem_map.1 hx
  have hi2 := List.mem_range.1 (List.mem_filter.1 hi).1
  rw [List.getD, List.getElem?_eq_getElem (by omega)]
  exact List.getElem_mem _
theorem selK_len (L : List Tx) (m k : Nat) : (selK L m k).length ≤ k := by
  unfold selK
  rw [List.length_map]
  have := List.length_filter_le (fun i => m.testBit i) (List.range k)
  rw [List.length_range] at this
  exact this
theorem names_len {L : List Tx} {m k b : Nat} (hk : k ≤ L.length) (h : ∀ x ∈ L, x.length ≤ b) : (joinB (selK L m k)).length ≤ k * (b + 1) := by
  have h1 := joinB_len (selK L m k)
  have h2 := flatB_len (ws := selK L m k) (b := b) (fun x hx => h x (selK_mem hk hx))
  have h3 := Nat.mul_le_mul_right (b + 1) (selK_len L m k)
  omega
theorem joinB_empty {ws : List Tx} (h : ∀ x ∈ ws, x ≠ []) : joinB ws = [] ↔ ws = [] := by
  constructor
  · intro e
    cases ws with
    | nil => rfl
    | cons x r =>
      unfold joinB at e
      rw [flatB_cons] at e
      have hx := h x List.mem_cons_self
      cases x with
      | nil => exact absurd rfl hx
      | cons => simp at e
  · rintro rfl; rfl
theorem and_bit {m k : Nat} (hm : m < 18446744073709551616) : m &&& bitN k = if m.testBit k then bitN k else 0 := by
  unfold bitN
  by_cases h : k < 64
  · rw [if_pos h]
    apply Nat.eq_of_testBit_eq
    intro i
    rw [Nat.testBit_and, Nat.testBit_two_pow]
    by_cases e : k = i
    · subst e
      cases hb : m.testBit k <;> simp [hb, Nat.testBit_two_pow]
    · have : decide (k = i) = false := decide_eq_false e
      rw [this, Bool.and_false]
      split
      · rw [Nat.testBit_two_pow, this]
      · simp
  · rw [if_neg h, Nat.and_zero]
    split <;> rfl
theorem testBit_high {m k : Nat} (hm : m < 18446744073709551616) (h : ¬ k < 64) : m.testBit k = false := by
  apply Nat.testBit_lt_two_pow
  exact Nat.lt_of_lt_of_le (show m < 2 ^ 64 from hm) (Nat.pow_le_pow_right (n := 2) (by omega) (by omega))
theorem bit_zero {m k : Nat} (hm : m < 18446744073709551616) : (m &&& bitN k = 0) ↔ m.testBit k = false := by
  rw [and_bit hm]
  cases e : m.testBit k
  · simp
  · simp only [if_true]
    have hk : k < 64 := by
      rcases Nat.lt_or_ge k 64 with g | g
      · exact g
      · rw [testBit_high hm (by omega)] at e; cases e
    unfold bitN
    rw [if_pos hk]
    have := Nat.two_pow_pos k
    constructor
    · intro h; omega
    · intro h; cases h
theorem shift_bit (m k : Nat) : (m / 2 ^ k % 2 = 1) ↔ m.testBit k = true := by
  rw [Nat.testBit_eq_decide_div_mod_eq]
  simp
end Go.Proofs.Ytebmmnfjkckffaa.Cm
