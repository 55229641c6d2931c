/- What is proved here: plain facts on what stands between two runes that are read: what is read so far, what is held of it, and what is left; conditions: none. It imports nothing of any program but plain facts. -/
import Derived.Test.YtdmhkibpkcbhaaaDoorQp
set_option linter.unusedSimpArgs false
set_option linter.unusedVariables false
namespace Go.Proofs.YtdmhkibpkcbhaaaDoor
namespace Qm
open Go.Lib

/-- At the p-th byte, what was read is acc, what is held of it bs. -/
def UI (l : List UInt8) (p : Nat) (acc bs : List UInt8) : Prop :=
  1 ≤ p ∧ p ≤ l.length ∧ (bs = acc ∨ (4096 < bs.length ∧ 4096 < acc.length)) ∧ bs.length ≤ 4100 ∧
  unq (l.drop 1) = (match unq (l.drop p) with | none => none | some (t, m) => some (acc ++ t, (p - 1) + m))
theorem UI.start (l : List UInt8) (h : 1 ≤ l.length) : UI l 1 [] [] := by
  refine ⟨Nat.le_refl _, h, .inl rfl, by simp, ?_⟩
  cases unq (l.drop 1) with
  | none => rfl
  | some q => simp
theorem UI.more {l : List UInt8} {p : Nat} {acc bs : List UInt8} (h : UI l p acc bs) (hh : (l.drop p).getD 0 0 ≠ 34) {r k : Nat} (hx : nextL (l.drop p) = some (r, k)) (cs : List UInt8)
    (hc : (bs.length ≤ 4096 ∧ cs = bs ++ encodeRune (r : Int)) ∨ (4096 < bs.length ∧ cs = bs)) : UI l (p + k) (acc ++ encodeRune (r : Int)) cs := by
  obtain ⟨h1, h2, h3, h4, h5⟩ := h
  obtain ⟨k1, k2, k3⟩ := next_ok hx
  have he := enc_len (r : Int)
  rw [List.length_drop] at k2
  refine ⟨by omega, by omega, ?_, ?_, ?_⟩
  · rcases hc with ⟨g, rfl⟩ | ⟨g, rfl⟩
    · rcases h3 with rfl | h3
      · exact .inl rfl
      · exact absurd h3.1 (by omega)
    · refine .inr ⟨g, ?_⟩
      rw [List.length_append]
      rcases h3 with rfl | h3 <;> omega
  · rcases hc with ⟨g, rfl⟩ | ⟨g, rfl⟩
    · rw [List.length_append]; omega
    · exact h4
  · rw [h5, unq_step _ hh hx, List.drop_drop]
    cases unq (l.drop (p + k)) with
    | none => rfl
    | some q =>
      obtain ⟨t, m⟩ := q
      dsimp only
      rw [List.append_assoc, show p - 1 + (k + m) = p + k - 1 + m by omega]
theorem UI.none {l : List UInt8} {p : Nat} {acc bs : List UInt8} (h : UI l p acc bs) (h0 : l.getD 0 0 = 34) (hh : (l.drop p).getD 0 0 ≠ 34) (hx : nextL (l.drop p) = none) : unquoteL l = ([], 0, 6) := by
  obtain ⟨h1, h2, h3, h4, h5⟩ := h
  unfold unquoteL
  rw [if_pos h0, h5, unq_none _ hh hx]
theorem UI.last {l : List UInt8} {p : Nat} {acc bs : List UInt8} (h : UI l p acc bs) (h0 : l.getD 0 0 = 34) (hh : (l.drop p).getD 0 0 = 34) :
    p + 1 ≤ l.length ∧ (4096 < bs.length → unquoteL l = ([], 0, 3)) ∧ (bs.length ≤ 4096 → unquoteL l = (bs, p + 1, 0)) := by
  obtain ⟨h1, h2, h3, h4, h5⟩ := h
  have hp : p + 1 ≤ l.length := by
    by_cases g : p < l.length
    · omega
    · rw [List.drop_eq_nil_of_le (by omega)] at hh
      simp at hh
  have e : unq (l.drop 1) = some (acc, p) := by
    rw [h5, unq_end _ hh]
    dsimp only
    rw [List.append_nil, Nat.sub_add_cancel h1]
  refine ⟨hp, fun g => ?_, fun g => ?_⟩
  · unfold unquoteL
    rw [if_pos h0, e]
    dsimp only
    rw [if_pos]
    rcases h3 with rfl | h3 <;> omega
  · have ea : bs = acc := by
      rcases h3 with rfl | h3
      · rfl
      · exact absurd h3.1 (by omega)
    subst ea
    unfold unquoteL
    rw [if_pos h0, e]
    dsimp only
    rw [if_neg (by omega)]
end Qm
end Go.Proofs.YtdmhkibpkcbhaaaDoor
