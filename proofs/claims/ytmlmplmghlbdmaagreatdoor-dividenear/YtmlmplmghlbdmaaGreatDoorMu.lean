/- What is proved here: the whole numbers below, above and near a decimal, in the words of numbers; conditions: as each theorem states. -/
import Derived.Test.YtmlmplmghlbdmaaGreatDoorMt
import Derived.Test.YtmlmplmghlbdmaaGreatDoorRt
set_option linter.unusedSimpArgs false
set_option linter.unusedVariables false
namespace Go.Proofs.YtmlmplmghlbdmaaGreatDoor
namespace Dm

theorem rep_int {ng : Bool} {n : Nat} {r : Option D} (h : Rep (sgn ng n) 0 r) (hn : n < 10 ^ 60) : ∃ d, r = some d ∧ d.sc = 0 ∧ May d ∧ sg d = sgn ng n := by
  by_cases h0 : n = 0
  · subst h0
    refine ⟨_, rep_zero h, rfl, zero_may, ?_⟩
    rw [sgn_zero]
    rfl
  · obtain ⟨ds, h1, h2, h3, _⟩ := rep_nat h hn (by omega)
    exact ⟨_, h1, rfl, h2, by unfold sg; rw [h3]⟩
theorem whole_lt {d : D} (h : May d) (k : Nat) (hk : k ≤ 1) (hz : 0 < d.sc ∨ k = 0) : num d.ds / 10 ^ d.sc + k < 10 ^ 60 := by
  have h1 := num_lt h.1
  have h2 := Nat.pow_le_pow_right (n := 10) (by omega) h.2.1
  rcases hz with g | g
  · have h3 : 10 ^ 1 ≤ 10 ^ d.sc := Nat.pow_le_pow_right (by omega) g
    have h4 : num d.ds / 10 ^ d.sc ≤ num d.ds / 10 ^ 1 := Nat.div_le_div_left h3 (by decide)
    have h5 : num d.ds / 10 ^ 1 ≤ 10 ^ 60 / 10 ^ 1 := Nat.div_le_div_right (by omega)
    have h6 : (10 : Nat) ^ 60 / 10 ^ 1 + 1 < 10 ^ 60 := by decide
    omega
  · have h4 : num d.ds / 10 ^ d.sc ≤ num d.ds := Nat.div_le_self _ _
    omega
theorem whole_same {d : D} {r : Option D} (h : May d) (hz : d.sc = 0) (hr : Rep (sgn d.ng (num d.ds / 10 ^ d.sc + 0)) 0 r) : r = some d := by
  rw [hz, Nat.pow_zero, Nat.div_one, Nat.add_zero] at hr
  refine hr.uniq (Rep.of_eqv h ?_)
  rw [hz]; rfl
theorem tail_of {d : D} (h : May d) (hz : 0 < d.sc) : num d.ds % 10 ≠ 0 := by
  obtain ⟨h1, h2, h3, h4⟩ := h
  rcases h4 with ⟨_, g, _⟩ | ⟨_, g | g⟩
  · omega
  · omega
  · exact tail_mod h1 g
/-- Between the whole numbers below and above. -/
theorem near_spec {d f c : D} (hd : May d) (hz : 0 < d.sc) (hf : Rep (sgn d.ng (num d.ds / 10 ^ d.sc + if d.ng then 1 else 0)) 0 (some f)) (hc : Rep (sgn d.ng (num d.ds / 10 ^ d.sc + if d.ng then 0 else 1)) 0 (some c)) :
    f.sc = 0 ∧ c.sc = 0 ∧ sg c = sg f + 1 ∧ sg f * p10 d.sc < sg d ∧ sg d < sg c * p10 d.sc := by
  have hk1 : (if d.ng then 1 else 0) ≤ 1 := by cases d.ng <;> decide
  have hk2 : (if d.ng then 0 else 1) ≤ 1 := by cases d.ng <;> decide
  obtain ⟨f', e1, f1, f2, f3⟩ := rep_int hf (whole_lt hd _ hk1 (.inl hz))
  obtain ⟨c', e2, c1, c2, c3⟩ := rep_int hc (whole_lt hd _ hk2 (.inl hz))
  injection e1 with e1
  injection e2 with e2
  subst e1 e2
  have ht := tail_of hd hz
  have hdm := Nat.div_add_mod (num d.ds) (10 ^ d.sc)
  have hml := Nat.mod_lt (num d.ds) (pow_pos' d.sc)
  have hm0 : 0 < num d.ds % 10 ^ d.sc := by
    rcases Nat.eq_zero_or_pos (num d.ds % 10 ^ d.sc) with h | h
    · exfalso
      apply ht
      obtain ⟨k, hk⟩ : ∃ k, d.sc = k + 1 := ⟨d.sc - 1, by omega⟩
      rw [← hdm, h, Nat.add_zero, hk, Nat.pow_succ, Nat.mul_assoc, Nat.mul_comm (10 ^ k), Nat.mul_assoc, Nat.mul_mod_right]
    · exact h
  refine ⟨f1, c1, ?_, ?_, ?_⟩
  · rw [f3, c3]
    unfold sgn
    cases d.ng <;> simp <;> omega
  all_goals
    rw [show sg d = sgn d.ng (num d.ds) from rfl]
    first | rw [f3] | rw [c3]
    unfold p10
    generalize num d.ds / 10 ^ d.sc = W at hdm
    generalize num d.ds % 10 ^ d.sc = R at hdm hml hm0
    generalize 10 ^ d.sc = P at hdm hml
    have e : num d.ds = W * P + R := by rw [← hdm, Nat.mul_comm]
    have eI : (num d.ds : Int) = (W : Int) * (P : Int) + (R : Int) := by rw [e, Int.natCast_add, Int.natCast_mul]
    unfold sgn
    cases d.ng
    · simp only [Bool.false_eq_true, if_false, if_true]
      rw [eI]
      try rw [Int.natCast_add, Int.add_mul]
      generalize (W : Int) * (P : Int) = q
      simp
      try omega
    · simp only [if_true]
      rw [eI]
      rw [Int.neg_mul]
      try rw [Int.natCast_add, Int.add_mul]
      generalize (W : Int) * (P : Int) = q
      simp
      try omega
end Dm
theorem near_cmp {d f c : Dm.D} (hf : f.sc = 0) (hc : c.sc = 0) (h1 : Dm.sg f * Dm.p10 d.sc < Dm.sg d) (h2 : Dm.sg d < Dm.sg c * Dm.p10 d.sc) : sgI (Dm.sg f * Dm.p10 d.sc - Dm.sg d * Dm.p10 f.sc) = -1 ∧ sgI (Dm.sg d * Dm.p10 c.sc - Dm.sg c * Dm.p10 d.sc) = -1 := by
  rw [hf, hc, Dm.p10_zero, Int.mul_one]
  constructor
  · unfold sgI; rw [if_pos (by omega)]
  · unfold sgI; rw [if_pos (by omega)]
end Go.Proofs.YtmlmplmghlbdmaaGreatDoor
