/- What is proved here: what a row of digits and a scale come to when they are written out and parsed; conditions: as each theorem states. -/
import Derived.Test.YtmlmplmghlbdmaaGreatDoorMh
set_option linter.unusedSimpArgs false
set_option linter.unusedVariables false
namespace Go.Proofs.YtmlmplmghlbdmaaGreatDoor
namespace Dm

/-- The digits with noughts ahead, and behind. -/
def padD (T : List UInt8) (sc : Int) : List UInt8 := List.replicate (sc + 1 - T.length).toNat 48 ++ T ++ List.replicate (-sc).toNat 48
/-- How many of them stand ahead of the point. -/
def ptD (T : List UInt8) (sc : Int) : Nat := (padD T sc).length - sc.toNat
/-- All of it as a text. -/
def textD (ng : Bool) (T : List UInt8) (sc : Int) : List UInt8 := (if ng then [45] else []) ++ ((padD T sc).take (ptD T sc) ++ 46 :: ((padD T sc).drop (ptD T sc) ++ [48]))
theorem padD_len (T : List UInt8) (sc : Int) : (padD T sc).length = (sc + 1 - T.length).toNat + T.length + (-sc).toNat := by
  unfold padD; rw [List.length_append, List.length_append, List.length_replicate, List.length_replicate]
theorem ptD_bd (T : List UInt8) (sc : Int) (h : T ≠ []) : 1 ≤ ptD T sc ∧ ptD T sc ≤ (padD T sc).length ∧ (padD T sc).length - ptD T sc = sc.toNat := by
  have hT : 1 ≤ T.length := by
    cases T with
    | nil => exact absurd rfl h
    | cons => simp
  unfold ptD; rw [padD_len]; omega
theorem padD_num (T : List UInt8) (sc : Int) : num (padD T sc) = num T * 10 ^ (-sc).toNat := by
  unfold padD; rw [num_append_zeros, num_zeros_append]
theorem padD_allD {T : List UInt8} {sc : Int} (h : allD T) : allD (padD T sc) :=
  allD_append.2 ⟨allD_append.2 ⟨allD_zeros _, h⟩, allD_zeros _⟩
theorem text_parse (ng : Bool) {T : List UInt8} {sc : Int} (hd : allD T) (hl : noLead T) : ∃ r, parseL (textD ng T sc) = some r ∧ Rep (sgn ng (num T) * p10 (-sc).toNat) sc.toNat r := by
  have hne : T ≠ [] := noLead_ne hl
  obtain ⟨b1, b2, b3⟩ := ptD_bd T sc hne
  have hG := padD_allD (sc := sc) hd
  have hn := padD_num T sc
  have hlen := padD_len T sc
  have hw : allD ((padD T sc).take (ptD T sc)) := fun c hc => hG c (List.mem_of_mem_take hc)
  have hp : allD ((padD T sc).drop (ptD T sc) ++ [48]) := allD_append.2 ⟨fun c hc => hG c (List.mem_of_mem_drop hc), fun c hc => by simp at hc; rw [hc]; rfl⟩
  have h1 : (padD T sc).take (ptD T sc) ≠ [] := by
    intro e
    have := congrArg List.length e
    rw [List.length_take, List.length_nil] at this
    omega
  have h2 : ((padD T sc).take (ptD T sc)).length = 1 ∨ ((padD T sc).take (ptD T sc)).headD 0 ≠ 48 := by
    by_cases g : (T.length : Int) ≤ sc
    · left
      have e : ptD T sc = 1 := by unfold ptD; omega
      rw [List.length_take]; omega
    · right
      obtain ⟨c, t, e, hc⟩ := hl
      have ez : (sc + 1 - (T.length : Int)).toNat = 0 := by omega
      have : padD T sc = T ++ List.replicate (-sc).toNat 48 := by unfold padD; rw [ez]; rfl
      obtain ⟨m, hm⟩ : ∃ m, ptD T sc = m + 1 := ⟨ptD T sc - 1, by omega⟩
      rw [hm, this, e]
      exact hc
  have h3 : (padD T sc).drop (ptD T sc) ++ [48] ≠ [] := by simp
  refine ⟨_, by unfold textD; rw [parse_sign ng hw h1]; exact parseU_point hw hp h1 h2 h3, ?_⟩
  have hr := fit_rep ng (allD_append.2 ⟨hw, hp⟩) ((((padD T sc).drop (ptD T sc) ++ [48]).length : Nat) : Int)
  have e1 : (padD T sc).take (ptD T sc) ++ ((padD T sc).drop (ptD T sc) ++ [48]) = padD T sc ++ List.replicate 1 48 := by
    rw [← List.append_assoc, List.take_append_drop]; rfl
  have e2 : ((padD T sc).drop (ptD T sc) ++ [48]).length = sc.toNat + 1 := by
    rw [List.length_append, List.length_drop, b3]; rfl
  rw [e2] at hr ⊢
  rw [e1, num_append_zeros, hn] at hr
  rw [e1]
  rw [show (-((sc.toNat + 1 : Nat) : Int)).toNat = 0 from by omega, p10_zero, Int.mul_one, Int.toNat_natCast, sgn_mul, sgn_mul] at hr
  exact (Rep.up 1).1 hr
end Dm
end Go.Proofs.YtmlmplmghlbdmaaGreatDoor
