/- What is proved here: how whole numbers are written as decimals, plain mathematics; conditions: as each theorem states. -/
import Derived.Test.YtmlmplmghlbdmaaGreatDoorM
import Derived.Lib.ItoaMem
import Derived.Lib.ItoaLen
import Derived.Lib.Strings
namespace Go.Proofs.YtmlmplmghlbdmaaGreatDoor
set_option linter.unusedVariables false
set_option linter.unusedSimpArgs false
namespace Dm

theorem byte_digit {k : Nat} (h : k < 10) : isD (UInt8.ofNat (48 + k)) = true ∧ dv (UInt8.ofNat (48 + k)) = k := by
  have e : (UInt8.ofNat (48 + k)).toNat = 48 + k := by
    rw [UInt8.toNat_ofNat']; exact Nat.mod_eq_of_lt (by omega)
  exact ⟨isD_iff.2 (by omega), by unfold dv; omega⟩
theorem dec_allD (u : Nat) : allD (Lib.decDigits u) ∧ num (Lib.decDigits u) = u := by
  induction u using Nat.strongRecOn with
  | _ u ih =>
    rw [Lib.decDigits]
    by_cases h : u < 10
    · rw [dif_pos h]
      obtain ⟨a, b⟩ := byte_digit h
      exact ⟨allD_cons.2 ⟨a, allD_nil⟩, by rw [num_one, b]⟩
    · rw [dif_neg h]
      obtain ⟨a, b⟩ := ih (u / 10) (by omega)
      obtain ⟨c, d⟩ := byte_digit (k := u % 10) (by omega)
      refine ⟨allD_append.2 ⟨a, allD_cons.2 ⟨c, allD_nil⟩⟩, ?_⟩
      rw [num_snoc, b, d]; omega
theorem dec_lead (u : Nat) (h0 : 0 < u) : noLead (Lib.decDigits u) := by
  induction u using Nat.strongRecOn with
  | _ u ih =>
    rw [Lib.decDigits]
    by_cases h : u < 10
    · rw [dif_pos h]
      refine ⟨_, [], rfl, ?_⟩
      intro e
      have := (byte_digit h).2
      rw [e, dv_48] at this; omega
    · rw [dif_neg h]
      obtain ⟨c, t, e, hc⟩ := ih (u / 10) (by omega) (by omega)
      exact ⟨c, t ++ _, by rw [e]; rfl, hc⟩
theorem dec_zero : Lib.decDigits 0 = [48] := by rw [Lib.decDigits]; rfl
theorem dec_head (u : Nat) : ∃ c t, Lib.decDigits u = c :: t ∧ c ≠ 45 := by
  have h := (dec_allD u).1
  rcases Nat.eq_zero_or_pos u with rfl | g
  · exact ⟨48, [], dec_zero, by decide⟩
  · obtain ⟨c, t, e, _⟩ := dec_lead u g
    rw [e] at h
    refine ⟨c, t, e, ?_⟩
    intro e'
    have := (allD_cons.1 h).1
    rw [e'] at this; cases this
/-- The decimal that is a number. -/
def ofInt (n : Int) : D := ⟨decide (n < 0), Lib.decDigits n.natAbs, 0⟩
theorem ofInt_sg (n : Int) : sg (ofInt n) = n := by
  unfold sg ofInt sgn
  rw [(dec_allD _).2]
  by_cases h : n < 0
  · rw [if_pos (decide_eq_true h)]; omega
  · rw [if_neg (by simpa using h)]; omega
theorem ofInt_may (n : Int) (h : n.natAbs < 18446744073709551616) : May (ofInt n) := by
  refine ⟨(dec_allD _).1, ?_, Nat.zero_le _, ?_⟩
  · show (Lib.decDigits n.natAbs).length ≤ 60
    rw [Lib.decDigits_length]
    have := Lib.nDigits_le20 n.natAbs h
    omega
  · rcases Nat.eq_zero_or_pos n.natAbs with g | g
    · left
      have : n = 0 := by omega
      subst this
      exact ⟨dec_zero, rfl, rfl⟩
    · right
      exact ⟨dec_lead _ g, .inl rfl⟩
theorem ofInt_rep {n : Int} {r : Option D} (h : n.natAbs < 18446744073709551616) : Rep n 0 r ↔ r = some (ofInt n) := by
  have e : Rep n 0 (some (ofInt n)) := ⟨ofInt_may n h, by rw [ofInt_sg]; rfl⟩
  exact ⟨fun g => g.uniq e, fun g => g ▸ e⟩
theorem itoa_cut (n : Int) : Lib.trimPrefix (Lib.itoa n) [45] = (ofInt n).ds ∧ Lib.hasPrefix (Lib.itoa n) [45] = (ofInt n).ng := by
  unfold Lib.itoa ofInt
  by_cases h : n < 0
  · rw [if_pos h]
    have e : n.natAbs = n.natAbs := rfl
    simp [Lib.trimPrefix, Lib.hasPrefix, List.isPrefixOf, h]
  · rw [if_neg h]
    obtain ⟨c, t, e, hc⟩ := dec_head n.toNat
    have e2 : n.natAbs = n.toNat := by omega
    rw [e2]
    have hb : (45 == c) = false := by rw [beq_eq_false_iff_ne]; exact fun g => hc g.symm
    simp [Lib.trimPrefix, Lib.hasPrefix, e, List.isPrefixOf, hb, h]
end Dm
end Go.Proofs.YtmlmplmghlbdmaaGreatDoor
