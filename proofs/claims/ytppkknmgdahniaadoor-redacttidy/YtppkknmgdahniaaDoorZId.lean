/- What is proved here: plain facts on what looks the same when it is tidy, and what is held of it; conditions: as each theorem states. -/
import Derived.Test.YtppkknmgdahniaaDoorZYb
import Derived.Test.YtppkknmgdahniaaDoorZYj
namespace Go.Proofs.YtppkknmgdahniaaDoor.Pol
set_option maxRecDepth 100000
open Go.RowKit
set_option maxRecDepth 100000
set_option linter.unusedVariables false
set_option linter.unusedSimpArgs false

theorem hid_or' {hid : Nat → Bool} (HM : ∀ a b, hid a = true → hid (a ||| b) = true) {a b : Nat} (h : hid b = true) : hid (a ||| b) = true := by rw [Nat.or_comm]; exact HM _ _ h
theorem fold_hid {hid : Nat → Bool} (HM : ∀ a b, hid a = true → hid (a ||| b) = true) (f : Tr → Nat) (l : List Tr) (s : Nat) (h : hid s = true) : hid (l.foldl (fun a k => a ||| f k) s) = true := by
  rw [fold_or]; exact HM _ _ h
theorem like_cases {hid : Nat → Bool} {n : Nat} {a b : Tr} (h : likeB hid (n + 1) a b = true) :
    (hid (Tr.hd a).m = true ∧ hid (Tr.hd b).m = true) ∨ (hid (Tr.hd a).m = false ∧ hid (Tr.hd b).m = false ∧ Tr.hd a = Tr.hd b ∧ rowsB (likeB hid n) (Tr.kd a) (Tr.kd b) = true) := by
  unfold likeB at h
  cases h1 : hid (Tr.hd a).m
  · cases h2 : hid (Tr.hd b).m
    · rw [h1, h2, if_neg (by simp), Bool.and_eq_true] at h
      exact .inr ⟨rfl, rfl, hdB_iff.1 h.1, h.2⟩
    · rw [h1, h2] at h; cases h
  · cases h2 : hid (Tr.hd b).m
    · rw [h1, h2] at h; cases h
    · exact .inl ⟨rfl, rfl⟩
theorem like_both {hid : Nat → Bool} {n : Nat} {a b : Tr} (h1 : hid (Tr.hd a).m = true) (h2 : hid (Tr.hd b).m = true) : likeB hid (n + 1) a b = true := by
  unfold likeB; rw [h1, h2]; rfl
theorem like_none {hid : Nat → Bool} {n : Nat} {a b : Tr} (h1 : hid (Tr.hd a).m = false) (h : Tr.hd a = Tr.hd b) (h3 : rowsB (likeB hid n) (Tr.kd a) (Tr.kd b) = true) : likeB hid (n + 1) a b = true := by
  unfold likeB
  rw [← h, h1, h3, hdB_iff.2 rfl]; rfl
theorem rows_deep {hid : Nat → Bool} (HM : ∀ a b, hid a = true → hid (a ||| b) = true) (n : Nat)
    (IH : ∀ a b, likeB hid n a b = true → smT n a → smT n b → (hid (deepT n a) = true ∧ hid (deepT n b) = true) ∨ (deepT n a = deepT n b ∧ bareT n a = bareT n b)) :
    ∀ (l m : List Tr) (s : Nat), rowsB (likeB hid n) l m = true → (∀ x ∈ l, smT n x) → (∀ x ∈ m, smT n x) →
    (hid (l.foldl (fun a k => a ||| deepT n k) s) = true ∧ hid (m.foldl (fun a k => a ||| deepT n k) s) = true) ∨ (l.foldl (fun a k => a ||| deepT n k) s = m.foldl (fun a k => a ||| deepT n k) s ∧ l.map (bareT n) = m.map (bareT n))
  | [], [], s, _, _, _ => .inr ⟨rfl, rfl⟩
  | x :: r, y :: q, s, h, h1, h2 => by
    simp only [rowsB, Bool.and_eq_true] at h
    simp only [List.foldl_cons, List.map_cons]
    rcases IH x y h.1 (h1 x (by simp)) (h2 y (by simp)) with ⟨e1, e2⟩ | ⟨e1, e2⟩
    · exact .inl ⟨fold_hid HM _ _ _ (hid_or' HM e1), fold_hid HM _ _ _ (hid_or' HM e2)⟩
    · rw [e1, e2]
      rcases rows_deep HM n IH r q (s ||| deepT n y) h.2 (fun z hz => h1 z (by simp [hz])) (fun z hz => h2 z (by simp [hz])) with e | ⟨e3, e4⟩
      · exact .inl e
      · exact .inr ⟨e3, by rw [e4]⟩
  | [], _ :: _, _, h, _, _ => by cases h
  | _ :: _, [], _, h, _, _ => by cases h
theorem like_deep {hid : Nat → Bool} (HM : ∀ a b, hid a = true → hid (a ||| b) = true) : ∀ (n : Nat) (a b : Tr), likeB hid n a b = true → smT n a → smT n b →
    (hid (deepT n a) = true ∧ hid (deepT n b) = true) ∨ (deepT n a = deepT n b ∧ bareT n a = bareT n b)
  | 0, _, _, _, h, _ => h.elim
  | n + 1, a, b, h, ha, hb => by
    rcases like_cases h with ⟨h1, h2⟩ | ⟨h1, h2, h3, h4⟩
    · obtain ⟨x, hx⟩ := deep_own n a
      obtain ⟨y, hy⟩ := deep_own n b
      rw [hx, hy]
      exact .inl ⟨HM _ _ h1, HM _ _ h2⟩
    · rcases rows_deep HM n (like_deep HM n) (Tr.kd a) (Tr.kd b) (Tr.hd a).m h4 ha.2 hb.2 with ⟨e1, e2⟩ | ⟨e1, e2⟩
      · exact .inl ⟨e1, by show hid ((Tr.kd b).foldl (fun a k => a ||| deepT n k) (Tr.hd b).m) = true; rw [← h3]; exact e2⟩
      · refine .inr ⟨?_, ?_⟩
        · show (Tr.kd a).foldl (fun a k => a ||| deepT n k) (Tr.hd a).m = (Tr.kd b).foldl (fun a k => a ||| deepT n k) (Tr.hd b).m
          rw [← h3]; exact e1
        · show Tr.mk _ _ = Tr.mk _ _
          rw [h3, e2]
theorem tidy_hid {hid : Nat → Bool} (h0 : hid 0 = false) (HM : ∀ a b, hid a = true → hid (a ||| b) = true) {n : Nat} {t : Tr} (h : hid (Tr.hd t).m = true) : hid (Tr.hd (tidyT (n + 1) t)).m = true := by
  have hne : ¬ (Tr.hd t).m = 0 := fun e => by rw [e, h0] at h; cases h
  rw [tidy_some hne, with_mask]
  obtain ⟨x, hx⟩ := deep_own n t
  rw [hx]; exact HM _ _ h
theorem like_tidy {hid : Nat → Bool} (h0 : hid 0 = false) (HM : ∀ a b, hid a = true → hid (a ||| b) = true) : ∀ (n : Nat) (a b : Tr), likeB hid n a b = true → smT n a → smT n b → likeB hid n (tidyT n a) (tidyT n b) = true
  | 0, _, _, _, h, _ => h.elim
  | n + 1, a, b, h, ha, hb => by
    rcases like_cases h with ⟨h1, h2⟩ | ⟨h1, h2, h3, h4⟩
    · exact like_both (tidy_hid h0 HM h1) (tidy_hid h0 HM h2)
    · by_cases hm : (Tr.hd a).m = 0
      · have hm2 : (Tr.hd b).m = 0 := by rw [← h3]; exact hm
        rw [tidy_zero hm, tidy_zero hm2]
        exact like_none h1 h3 (rowsB_map (tidyT n) _ _ (fun x hx y hy e => like_tidy h0 HM n x y e (ha.2 x hx) (hb.2 y hy)) h4)
      · have hm2 : ¬ (Tr.hd b).m = 0 := by rw [← h3]; exact hm
        rcases like_deep HM (n + 1) a b h ha hb with ⟨e1, e2⟩ | ⟨e1, e2⟩
        · rw [tidy_some hm, tidy_some hm2]
          exact like_both (by rw [with_mask]; exact e1) (by rw [with_mask]; exact e2)
        · rw [tidy_some hm, tidy_some hm2, e1, e2]
          exact like_self _ _ _
theorem held_like {hid : Nat → Bool} (h0 : hid 0 = false) : ∀ (n : Nat) (a b : Tr), likeB hid n a b = true → heldT n a = heldT n b
  | 0, _, _, _ => rfl
  | n + 1, a, b, h => by
    rcases like_cases h with ⟨h1, h2⟩ | ⟨h1, h2, h3, h4⟩
    · have hne : ¬ (Tr.hd a).m = 0 := fun e => by rw [e, h0] at h1; cases h1
      have hne2 : ¬ (Tr.hd b).m = 0 := fun e => by rw [e, h0] at h2; cases h2
      rw [held_some hne, held_some hne2]
    · by_cases hm : (Tr.hd a).m = 0
      · have hm2 : (Tr.hd b).m = 0 := by rw [← h3]; exact hm
        rw [held_zero hm, held_zero hm2, rowsB_of (heldT n) _ _ (fun x _ y _ e => held_like h0 n x y e) h4]
      · have hm2 : ¬ (Tr.hd b).m = 0 := by rw [← h3]; exact hm
        rw [held_some hm, held_some hm2]
theorem held_tidy_like {hid : Nat → Bool} (h0 : hid 0 = false) (n : Nat) (a b : Tr) (h : likeB hid n a b = true) : heldT n (tidyT n a) = heldT n (tidyT n b) := by
  rw [held_tidy, held_tidy, held_like h0 n a b h]
end Go.Proofs.YtppkknmgdahniaaDoor.Pol
