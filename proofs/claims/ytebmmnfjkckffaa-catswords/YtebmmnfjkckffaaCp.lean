/- What is proved here: plain facts on the texts between blanks, and on the masks of names; conditions: none. It imports nothing of any program. -/
import Derived.Test.YtebmmnfjkckffaaCo
namespace Go.Proofs.Ytebmmnfjkckffaa.Cm
set_option linter.unusedVariables false
set_option linter.unusedSimpArgs false

theorem spl_nil (cur : Tx) : spl cur [] = if cur = [] then [] else [cur] := by unfold spl; rfl
theorem spl_blank (cur r : Tx) : spl cur (32 :: r) = if cur = [] then spl [] r else cur :: spl [] r := by
  rw [spl]
  simp
theorem spl_more (cur r : Tx) (c : UInt8) (h : c ≠ 32) : spl cur (c :: r) = spl (cur ++ [c]) r := by
  rw [spl, if_neg h]
theorem spl_part (b : Tx) : ∀ (a cur : Tx), spl cur (a ++ 32 :: b) = spl cur a ++ words b
  | [], cur => by
    rw [List.nil_append, spl_blank, spl_nil]
    split <;> rfl
  | c :: a, cur => by
    rw [List.cons_append]
    by_cases h : c = 32
    · subst h
      rw [spl_blank, spl_blank, spl_part b a []]
      split <;> rfl
    · rw [spl_more _ _ _ h, spl_more _ _ _ h, spl_part b a]
theorem spl_plain : ∀ (a cur : Tx), (32 : UInt8) ∉ a → spl cur a = if cur ++ a = [] then [] else [cur ++ a]
  | [], cur, _ => by rw [spl_nil, List.append_nil]
  | c :: a, cur, h => by
    rw [spl_more _ _ _ (fun e => h (by rw [e]; exact List.mem_cons_self)), spl_plain a _ (fun e => h (List.mem_cons_of_mem _ e))]
    rw [List.append_assoc]
    rfl
theorem words_part (a b : Tx) : words (a ++ 32 :: b) = words a ++ words b := spl_part b a []
theorem words_plain {a : Tx} (h : (32 : UInt8) ∉ a) : words a = if a = [] then [] else [a] := spl_plain a [] h
theorem words_nil : words [] = [] := rfl
theorem words_one {a : Tx} (h : (32 : UInt8) ∉ a) (hne : a ≠ []) : words a = [a] := by rw [words_plain h, if_neg hne]
theorem words_blank (b : Tx) : words (32 :: b) = words b := by
  have := words_part [] b
  rwa [words_nil, List.nil_append, List.nil_append] at this
/-- A word: not empty, no blank in it. -/
def Word (x : Tx) : Prop := x ≠ [] ∧ (32 : UInt8) ∉ x
theorem words_flat {ws : List Tx} (h : ∀ x ∈ ws, Word x) : words (flatB ws) = ws := by
  induction ws with
  | nil => rfl
  | cons x r ih =>
    rw [flatB_cons, words_blank]
    have hx := h x List.mem_cons_self
    have hr := ih (fun y hy => h y (List.mem_cons_of_mem _ hy))
    cases r with
    | nil => rw [flatB_nil, List.append_nil, words_one hx.2 hx.1]
    | cons y r =>
      rw [flatB_cons] at hr ⊢
      rw [words_part, words_one hx.2 hx.1]
      rw [words_blank] at hr
      rw [hr]
      rfl
theorem words_join {ws : List Tx} (h : ∀ x ∈ ws, Word x) : words (joinB ws) = ws := by
  have hf := words_flat h
  cases ws with
  | nil => rfl
  | cons x r =>
    unfold joinB
    rw [flatB_cons] at hf ⊢
    rw [words_blank] at hf
    exact hf
theorem name_word {x : Tx} (h : nameB x = true) : Word x := by
  unfold nameB at h
  simp only [Bool.and_eq_true, decide_eq_true_eq] at h
  refine ⟨fun e => ?_, fun e => ?_⟩
  · rw [e] at h; simp at h
  · have := List.all_eq_true.1 h.2 32 e
    revert this
    decide
theorem idx_some {L : List Tx} (hd : L.Nodup) {k : Nat} (hk : k < L.length) : idx L (L[k]'hk) = some k := by
  unfold idx
  rw [List.findIdx?_eq_some_iff_getElem]
  refine ⟨hk, by simp, fun j hj => ?_⟩
  simp only [beq_iff_eq]
  exact List.pairwise_iff_getElem.1 hd j k (by omega) hk hj
theorem idx_none {L : List Tx} {x : Tx} (h : x ∉ L) : idx L x = none := by
  unfold idx
  rw [List.findIdx?_eq_none_iff]
  intro y hy
  simp only [beq_eq_false_iff_ne]
  rintro rfl
  exact h hy
theorem maskF_nil (L : List Tx) (m : Nat) : maskF L m [] = (m, 0) := rfl
theorem maskF_hit {L : List Tx} (m : Nat) {x : Tx} {k : Nat} (r : List Tx) (h : idx L x = some k) : maskF L m (x :: r) = maskF L (m ||| 2 ^ k) r := by
  rw [maskF, h]
theorem maskF_miss {L : List Tx} (m : Nat) {x : Tx} (r : List Tx) (h : idx L x = none) : maskF L m (x :: r) = (0, 20) := by
  rw [maskF, h]
/-- The masks of the names of a mask. -/
theorem maskF_app {L : List Tx} (b : List Tx) : ∀ (a : List Tx) (m : Nat), (∀ x ∈ a, x ∈ L) → L.Nodup → maskF L m (a ++ b) = maskF L (maskF L m a).1 b ∧ (maskF L m a).2 = 0
  | [], m, _, _ => ⟨rfl, rfl⟩
  | x :: r, m, h, hd => by
    obtain ⟨k, hk, rfl⟩ := List.getElem_of_mem (h x List.mem_cons_self)
    rw [List.cons_append, maskF_hit _ _ (idx_some hd hk), maskF_hit _ _ (idx_some hd hk)]
    exact maskF_app b r _ (fun y hy => h y (List.mem_cons_of_mem _ hy)) hd
theorem mod_bit (m k : Nat) : m % 2 ^ (k + 1) = m % 2 ^ k ||| (if m.testBit k then 2 ^ k else 0) := by
  apply Nat.eq_of_testBit_eq
  intro i
  rw [Nat.testBit_or, Nat.testBit_mod_two_pow, Nat.testBit_mod_two_pow]
  by_cases e : k = i
  · subst e
    cases hb : m.testBit k <;> simp
  · have h1 : (if m.testBit k = true then 2 ^ k else 0).testBit i = false := by
      split
      · rw [Nat.testBit_two_pow]; exact decide_eq_false e
      · simp
    rw [h1, Bool.or_false]
    congr 1
    rw [Bool.eq_iff_iff]
    simp only [decide_eq_true_eq]
    omega
theorem maskF_sel {L : List Tx} (hd : L.Nodup) (m : Nat) : ∀ k, k ≤ L.length → maskF L 0 (selK L m k) = (m % 2 ^ k, 0)
  | 0, _ => by rw [selK_zero, maskF_nil, Nat.pow_zero, Nat.mod_one]
  | k + 1, h => by
    have ih := maskF_sel hd m k (by omega)
    rw [mod_bit]
    cases hb : m.testBit k
    · rw [selK_no hb, ih]
      simp
    · rw [selK_yes (by omega) hb, (maskF_app _ _ 0 (fun x hx => selK_mem (by omega) hx) hd).1, ih, maskF_hit _ _ (idx_some hd (by omega)), maskF_nil]
      simp
theorem maskF_or {L : List Tx} (hd : L.Nodup) : ∀ (a : List Tx) (m : Nat), (∀ x ∈ a, x ∈ L) → maskF L m a = (m ||| (maskF L 0 a).1, 0)
  | [], m, _ => by rw [maskF_nil, maskF_nil]; simp
  | x :: r, m, h => by
    obtain ⟨k, hk, rfl⟩ := List.getElem_of_mem (h x List.mem_cons_self)
    rw [maskF_hit _ _ (idx_some hd hk), maskF_hit _ _ (idx_some hd hk), maskF_or hd r _ (fun y hy => h y (List.mem_cons_of_mem _ hy)), maskF_or hd r (0 ||| 2 ^ k) (fun y hy => h y (List.mem_cons_of_mem _ hy))]
    simp [Nat.or_assoc]
theorem maskF_rev {L : List Tx} (hd : L.Nodup) : ∀ (a : List Tx), (∀ x ∈ a, x ∈ L) → maskF L 0 a.reverse = maskF L 0 a
  | [], _ => rfl
  | x :: r, h => by
    have hr : ∀ y ∈ r, y ∈ L := fun y hy => h y (List.mem_cons_of_mem _ hy)
    rw [List.reverse_cons, (maskF_app _ _ 0 (fun y hy => hr y (List.mem_reverse.1 hy)) hd).1, maskF_rev hd r hr]
    obtain ⟨k, hk, rfl⟩ := List.getElem_of_mem (h x List.mem_cons_self)
    rw [maskF_hit _ _ (idx_some hd hk), maskF_hit _ _ (idx_some hd hk), maskF_nil, maskF_or hd r (0 ||| 2 ^ k) hr]
    simp [Nat.or_comm]
end Go.Proofs.Ytebmmnfjkckffaa.Cm
