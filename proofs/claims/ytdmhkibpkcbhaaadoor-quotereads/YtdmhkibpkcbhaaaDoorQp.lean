/- What is proved here: plain facts on cuts of texts, on what is read, and on quoted texts one behind the other; conditions: none. It imports nothing of any program but plain facts. -/
import Derived.Test.YtdmhkibpkcbhaaaDoorQo
set_option linter.unusedSimpArgs false
set_option linter.unusedVariables false
namespace Go.Proofs.YtdmhkibpkcbhaaaDoor
namespace Qm
open Go.Lib

theorem posn_all (l : List UInt8) (k : Nat) (h : (pc l).length ≤ k) : posn l k = l.length := by
  unfold posn
  rw [List.take_of_length_le h, pc_join]
theorem cut_zero (l : List UInt8) (b : Nat) : cut l 0 b = ((pc l).take b).flatten := by
  unfold cut
  rw [posn_zero, List.drop_zero, Nat.sub_zero, take_posn]
theorem cut_back (l : List UInt8) (a k : Nat) (h : (pc l).length ≤ k) : cut l a k = ((pc l).drop a).flatten := by
  unfold cut
  rw [posn_all l k h, ← drop_posn]
  exact List.take_of_length_le (by rw [List.length_drop]; exact Nat.le_refl _)
theorem cut_both (l : List UInt8) (a : Nat) : cut l 0 (max a 0) ++ cut l a (max (pc l).length a) = l := by
  rw [cut_zero, cut_back l a _ (Nat.le_max_left _ _), Nat.max_eq_left (Nat.zero_le a), ← List.flatten_append, List.take_append_drop, pc_join]
theorem cut_all (l : List UInt8) : cut l 0 (max (pc l).length 0) = l := by
  rw [cut_back l 0 _ (Nat.le_max_left _ _), List.drop_zero, pc_join]
theorem cut_none (l : List UInt8) : cut l (pc l).length (max ((pc l).length + 9) (pc l).length) = [] := by
  rw [cut_back l _ _ (Nat.le_max_right _ _), List.drop_eq_nil_of_le (Nat.le_refl _)]
  rfl
theorem cut_runes (l : List UInt8) (a : Nat) (h : validD l = true) :
    (pc (cut l 0 (max a 0))).length = min a (pc l).length ∧ (pc (cut l a (max (pc l).length a))).length = (pc l).length - min a (pc l).length ∧
    validD (cut l 0 (max a 0)) = true ∧ validD (cut l a (max (pc l).length a)) = true := by
  rw [cut_zero, cut_back l a _ (Nat.le_max_left _ _), Nat.max_eq_left (Nat.zero_le a)]
  obtain ⟨t1, t2⟩ := pc_take l h a
  obtain ⟨d1, d2⟩ := pc_drop l a
  refine ⟨by rw [t1, List.length_take], by rw [d1, List.length_drop]; omega, t2, d2 h⟩
theorem cut_size (l : List UInt8) (a b : Nat) : (cut l a b).length ≤ l.length := by
  unfold cut
  rw [List.length_take, List.length_drop]
  omega
/-- What is read: a text that is UTF-8 and not too long, or nothing. -/
theorem unquote_shape (l : List UInt8) : (∃ t n, unquoteL l = (t, n, 0) ∧ validD t = true ∧ 2 ≤ n ∧ n ≤ l.length ∧ t.length ≤ 4096) ∨ unquoteL l = ([], 0, 3) ∨ unquoteL l = ([], 0, 6) := by
  unfold unquoteL
  by_cases h : l.getD 0 0 = 34
  · rw [if_pos h]
    have hne : l ≠ [] := by intro e; rw [e] at h; simp at h
    have hl : 0 < l.length := List.length_pos_iff.2 hne
    cases hu : unq (l.drop 1) with
    | none => exact .inr (.inr rfl)
    | some p =>
      obtain ⟨t, m⟩ := p
      obtain ⟨v1, v2, v3⟩ := unq_valid _ _ (Nat.le_refl _) t m hu
      rw [List.length_drop] at v3
      dsimp only
      by_cases g : 4096 < t.length
      · rw [if_pos g]; exact .inr (.inl rfl)
      · rw [if_neg g]; exact .inl ⟨t, m + 1, rfl, v1, by omega, by omega, by omega⟩
  · rw [if_neg h]; exact .inr (.inr rfl)
/-- The quoted text of both together. -/
theorem quote_join (l m : List UInt8) (h : validD l = true) : quoteL (l ++ m) = (quoteL l).take ((quoteL l).length - 1) ++ (quoteL m).drop 1 := by
  unfold quoteL
  rw [quo_app l m h]
  simp
theorem drop_join (l m : List UInt8) : (quoteL l ++ m).drop (quoteL l).length = m := List.drop_left' rfl
theorem pc_join2 (l m : List UInt8) (h : validD l = true) : (pc (l ++ m)).length = (pc l).length + (pc m).length := by
  rw [pc_app l m h, List.length_append]
/-- Bytes, one more. -/
theorem all_take (l : List UInt8) (k : Nat) (h : k < l.length) : (l.take (k + 1)).all bare = ((l.take k).all bare && bare (l[k]'h)) := by
  rw [List.take_succ_eq_append_getElem h, List.all_append]
  simp
theorem all_end (l : List UInt8) (k : Nat) (h : l.length ≤ k) : (l.take k).all bare = l.all bare := by rw [List.take_of_length_le h]
end Qm
end Go.Proofs.YtdmhkibpkcbhaaaDoor
