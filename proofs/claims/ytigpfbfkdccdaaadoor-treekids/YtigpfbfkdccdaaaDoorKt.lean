/- What is proved here: how what is told of trees hangs together: bare, tidy, with, deep, held, flat. -/
import Derived.Test.YtigpfbfkdccdaaaDoorKp
namespace Go.Proofs.YtigpfbfkdccdaaaDoor
set_option linter.unusedVariables false
set_option linter.unusedSimpArgs false

theorem fold_or (f : Tr → Nat) : ∀ (l : List Tr) (a : Nat), l.foldl (fun a k => a ||| f k) a = a ||| l.foldl (fun a k => a ||| f k) 0
  | [], a => by simp
  | k :: r, a => by
    rw [List.foldl_cons, List.foldl_cons, fold_or f r (a ||| f k), fold_or f r (0 ||| f k), Nat.zero_or, Nat.or_assoc]
theorem fold_congr (f g : Tr → Nat) : ∀ (l : List Tr), (∀ k, k ∈ l → f k = g k) → ∀ a, l.foldl (fun a k => a ||| f k) a = l.foldl (fun a k => a ||| g k) a
  | [], _, _ => rfl
  | k :: r, h, a => by
    rw [List.foldl_cons, List.foldl_cons, h k (by simp), fold_congr f g r (fun x hx => h x (by simp [hx]))]
theorem fold_map (f : Tr → Nat) (F : Tr → Tr) : ∀ (l : List Tr) (a : Nat), (l.map F).foldl (fun a k => a ||| f k) a = l.foldl (fun a k => a ||| f (F k)) a
  | [], _ => rfl
  | k :: r, a => by
    rw [List.map_cons, List.foldl_cons, List.foldl_cons, fold_map f F r]
theorem fold_none (f : Tr → Nat) : ∀ (l : List Tr) (a : Nat), (∀ k, k ∈ l → f k = 0) → l.foldl (fun a k => a ||| f k) a = a
  | [], _, _ => rfl
  | k :: r, a, h => by
    rw [List.foldl_cons, h k (by simp), Nat.or_zero, fold_none f r a (fun x hx => h x (by simp [hx]))]
theorem or_self_and (m x : Nat) : (m ||| x) &&& m = m := by
  apply Nat.eq_of_testBit_eq
  intro i
  simp only [Nat.testBit_and, Nat.testBit_or]
  cases m.testBit i <;> simp
theorem or_ne (m x : Nat) (h : m ≠ 0) : m ||| x ≠ 0 := by
  intro e
  have := Nat.or_eq_zero_iff.1 e
  exact h this.1
theorem tr_eq (t : Tr) : True := trivial

theorem bare_bare : ∀ (n : Nat) (t : Tr), bareT n (bareT n t) = bareT n t
  | 0, _ => rfl
  | n + 1, t => by
    show Tr.mk _ (((Tr.kd t).map (bareT n)).map (bareT n)) = Tr.mk _ ((Tr.kd t).map (bareT n))
    rw [List.map_map]
    congr 1
    exact List.map_congr_left (fun k _ => bare_bare n k)
theorem deep_bare : ∀ (n : Nat) (t : Tr), deepT n (bareT n t) = 0
  | 0, _ => rfl
  | n + 1, t => by
    show ((Tr.kd t).map (bareT n)).foldl (fun a k => a ||| deepT n k) 0 = 0
    rw [fold_map, fold_none _ _ _ (fun k _ => deep_bare n k)]
theorem bare_with (n m : Nat) (t : Tr) : bareT (n + 1) (withT m t) = bareT (n + 1) t := rfl
theorem deep_with_bare (n D : Nat) (t : Tr) : deepT (n + 1) (withT D (bareT (n + 1) t)) = D := by
  show ((Tr.kd t).map (bareT n)).foldl (fun a k => a ||| deepT n k) (0 ||| D) = D
  rw [fold_map, fold_none _ _ _ (fun k _ => deep_bare n k), Nat.zero_or]
theorem deep_own (n : Nat) (t : Tr) : ∃ x, deepT (n + 1) t = (Tr.hd t).m ||| x := ⟨_, fold_or _ _ _⟩
theorem tidy_zero {n : Nat} {t : Tr} (h : (Tr.hd t).m = 0) : tidyT (n + 1) t = Tr.mk (Tr.hd t) ((Tr.kd t).map (tidyT n)) := if_pos h
theorem tidy_some {n : Nat} {t : Tr} (h : ¬ (Tr.hd t).m = 0) : tidyT (n + 1) t = withT (deepT (n + 1) t) (bareT (n + 1) t) := if_neg h
theorem deep_ne {n : Nat} {t : Tr} (h : ¬ (Tr.hd t).m = 0) : deepT (n + 1) t ≠ 0 := by
  obtain ⟨x, hx⟩ := deep_own n t
  rw [hx]
  exact or_ne _ _ h
theorem bare_tidy : ∀ (n : Nat) (t : Tr), bareT n (tidyT n t) = bareT n t
  | 0, _ => rfl
  | n + 1, t => by
    by_cases h : (Tr.hd t).m = 0
    · rw [tidy_zero h]
      show Tr.mk _ (((Tr.kd t).map (tidyT n)).map (bareT n)) = Tr.mk _ ((Tr.kd t).map (bareT n))
      rw [List.map_map]
      congr 1
      exact List.map_congr_left (fun k _ => bare_tidy n k)
    · rw [tidy_some h, bare_with, bare_bare]
theorem deep_tidy : ∀ (n : Nat) (t : Tr), deepT n (tidyT n t) = deepT n t
  | 0, _ => rfl
  | n + 1, t => by
    by_cases h : (Tr.hd t).m = 0
    · rw [tidy_zero h]
      show ((Tr.kd t).map (tidyT n)).foldl (fun a k => a ||| deepT n k) (Tr.hd t).m = (Tr.kd t).foldl (fun a k => a ||| deepT n k) (Tr.hd t).m
      rw [fold_map]
      exact fold_congr _ _ _ (fun k _ => deep_tidy n k) _
    · rw [tidy_some h, deep_with_bare]
theorem with_mask (D n : Nat) (t : Tr) : (Tr.hd (withT D (bareT (n + 1) t))).m = D := Nat.zero_or D
theorem tidy_tidy : ∀ (n : Nat) (t : Tr), tidyT n (tidyT n t) = tidyT n t
  | 0, _ => rfl
  | n + 1, t => by
    by_cases h : (Tr.hd t).m = 0
    · rw [tidy_zero h, tidy_zero (by exact h)]
      show Tr.mk _ (((Tr.kd t).map (tidyT n)).map (tidyT n)) = Tr.mk _ ((Tr.kd t).map (tidyT n))
      rw [List.map_map]
      congr 1
      exact List.map_congr_left (fun k _ => tidy_tidy n k)
    · rw [tidy_some h, tidy_some (by rw [with_mask]; exact deep_ne h), deep_with_bare, bare_with, bare_bare]
theorem tidy_mask (n : Nat) (t : Tr) : (Tr.hd (tidyT (n + 1) t)).m &&& (Tr.hd t).m = (Tr.hd t).m := by
  by_cases h : (Tr.hd t).m = 0
  · rw [h, Nat.and_zero]
  · rw [tidy_some h, with_mask]
    obtain ⟨x, hx⟩ := deep_own n t
    rw [hx, or_self_and]
theorem held_zero {n : Nat} {t : Tr} (h : (Tr.hd t).m = 0) : heldT (n + 1) t = 1 + ((Tr.kd t).map (heldT n)).sum := if_pos h
theorem held_some {n : Nat} {t : Tr} (h : ¬ (Tr.hd t).m = 0) : heldT (n + 1) t = 1 := if_neg h
theorem held_bare : ∀ (n : Nat) (t : Tr), heldT n (bareT n t) = sizeT n t
  | 0, _ => rfl
  | n + 1, t => by
    rw [held_zero rfl]
    show 1 + (((Tr.kd t).map (bareT n)).map (heldT n)).sum = 1 + ((Tr.kd t).map (sizeT n)).sum
    rw [List.map_map]
    exact congrArg (fun z => 1 + List.sum z) (List.map_congr_left (fun k _ => held_bare n k))
theorem held_with_one (n : Nat) (t : Tr) : heldT (n + 1) (withT 1 t) = 1 := by
  refine held_some ?_
  show ¬ (Tr.hd t).m ||| 1 = 0
  rw [Nat.or_comm]
  exact or_ne _ _ (by decide)
theorem held_tidy : ∀ (n : Nat) (t : Tr), heldT n (tidyT n t) = heldT n t
  | 0, _ => rfl
  | n + 1, t => by
    by_cases h : (Tr.hd t).m = 0
    · rw [tidy_zero h, held_zero (by exact h), held_zero h]
      show 1 + (((Tr.kd t).map (tidyT n)).map (heldT n)).sum = _
      rw [List.map_map]
      exact congrArg (fun z => 1 + List.sum z) (List.map_congr_left (fun k _ => held_tidy n k))
    · rw [tidy_some h, held_some (by rw [with_mask]; exact deep_ne h), held_some h]
/-- No mask below another one. -/
def flatT : Nat → Bool → Tr → Bool
  | 0, _, _ => true
  | n + 1, b, t => !(b && decide ((Tr.hd t).m ≠ 0)) && (Tr.kd t).all (flatT n (b || decide ((Tr.hd t).m ≠ 0)))
theorem flat_bare : ∀ (n : Nat) (b : Bool) (t : Tr), flatT n b (bareT n t) = true
  | 0, _, _ => rfl
  | n + 1, b, t => by
    show (!(b && decide ((0 : Nat) ≠ 0)) && ((Tr.kd t).map (bareT n)).all (flatT n (b || decide ((0 : Nat) ≠ 0)))) = true
    rw [List.all_map]
    simp only [ne_eq, not_true_eq_false, decide_false, Bool.and_false, Bool.not_false, Bool.true_and, Bool.or_false, List.all_eq_true]
    exact fun k _ => flat_bare n b k
theorem flat_tidy : ∀ (n : Nat) (t : Tr), flatT n false (tidyT n t) = true
  | 0, _ => rfl
  | n + 1, t => by
    by_cases h : (Tr.hd t).m = 0
    · rw [tidy_zero h]
      show (!(false && decide ((Tr.hd t).m ≠ 0)) && ((Tr.kd t).map (tidyT n)).all (flatT n (false || decide ((Tr.hd t).m ≠ 0)))) = true
      rw [List.all_map, h]
      simp only [ne_eq, not_true_eq_false, decide_false, Bool.and_false, Bool.not_false, Bool.true_and, Bool.or_false, List.all_eq_true]
      exact fun k _ => flat_tidy n k
    · rw [tidy_some h]
      show (!(false && _) && ((Tr.kd t).map (bareT n)).all _) = true
      rw [List.all_map]
      simp only [Bool.false_and, Bool.not_false, Bool.true_and, List.all_eq_true]
      exact fun k _ => flat_bare n _ k
theorem size_bare : ∀ (n : Nat) (t : Tr), sizeT n (bareT n t) = sizeT n t
  | 0, _ => rfl
  | n + 1, t => by
    show 1 + (((Tr.kd t).map (bareT n)).map (sizeT n)).sum = 1 + ((Tr.kd t).map (sizeT n)).sum
    rw [List.map_map]
    exact congrArg (fun z => 1 + List.sum z) (List.map_congr_left (fun k _ => size_bare n k))
theorem size_tidy : ∀ (n : Nat) (t : Tr), sizeT n (tidyT n t) = sizeT n t
  | 0, _ => rfl
  | n + 1, t => by
    by_cases h : (Tr.hd t).m = 0
    · rw [tidy_zero h]
      show 1 + (((Tr.kd t).map (tidyT n)).map (sizeT n)).sum = 1 + ((Tr.kd t).map (sizeT n)).sum
      rw [List.map_map]
      exact congrArg (fun z => 1 + List.sum z) (List.map_congr_left (fun k _ => size_tidy n k))
    · rw [tidy_some h]
      exact size_bare (n + 1) t
theorem ok_bare : ∀ (n : Nat) (t : Tr), okT n t → okT n (bareT n t)
  | 0, _, _ => trivial
  | n + 1, t, h => ⟨h.1, by rw [show (Tr.kd (bareT (n + 1) t)).length = (Tr.kd t).length from List.length_map _]; exact h.2.1, fun k hk => by
    obtain ⟨x, hx, rfl⟩ := List.mem_map.1 hk
    exact ok_bare n x (h.2.2 x hx)⟩
theorem ok_tidy : ∀ (n : Nat) (t : Tr), okT n t → okT n (tidyT n t)
  | 0, _, _ => trivial
  | n + 1, t, h => by
    by_cases e : (Tr.hd t).m = 0
    · rw [tidy_zero e]
      exact ⟨h.1, by rw [show (Tr.kd (Tr.mk (Tr.hd t) ((Tr.kd t).map (tidyT n)))).length = (Tr.kd t).length from List.length_map _]; exact h.2.1, fun k hk => by
        obtain ⟨x, hx, rfl⟩ := List.mem_map.1 hk
        exact ok_tidy n x (h.2.2 x hx)⟩
    · rw [tidy_some e]
      exact ok_bare (n + 1) t h
theorem ok_with (n m : Nat) (t : Tr) (h : okT n t) : okT n (withT m t) := by
  cases n with
  | zero => trivial
  | succ n => exact h
theorem size_with (n m : Nat) (t : Tr) : sizeT n (withT m t) = sizeT n t := by
  cases n with
  | zero => rfl
  | succ n => rfl
end Go.Proofs.YtigpfbfkdccdaaaDoor
