/- What is proved here: plain facts on a filter's tokens: two texts with a blank between are read as the tokens of both; conditions: as each theorem states. It imports nothing of any program. -/
import Derived.Test.YtppkknmgdahniabDoorNo
namespace Go.Proofs.YtppkknmgdahniabDoor.Lx
set_option maxRecDepth 100000
set_option maxRecDepth 100000
set_option linter.unusedVariables false
set_option linter.unusedSimpArgs false

/-! ### what is quoted -/
theorem get_app (l t : Tx) (i : Nat) (h : i < l.length) : (l ++ t).getD i 0 = l.getD i 0 := by
  simp [List.getD, List.getElem?_append_left h]
theorem unit_more {l : Tx} {a : Nat} (h : Qm.unitL l = some a) (t : Tx) : Qm.unitL (l ++ t) = some a := by
  unfold Qm.unitL at h ⊢
  split at h
  · rename_i g
    rw [get_app l t 0 (by omega), get_app l t 1 (by omega), if_pos ⟨by rw [List.length_append]; omega, g.2⟩]
    rw [← h, List.drop_append_of_le_length (by omega), List.take_append_of_le_length (by rw [List.length_drop]; omega)]
  · cases h
theorem num_more {l : Tx} {p : Nat × Nat} (h : Qm.numL l = some p) (t : Tx) : Qm.numL (l ++ t) = some p := by
  unfold Qm.numL at h ⊢
  cases ha : Qm.unitL l with
  | none => rw [ha] at h; cases h
  | some a =>
    rw [ha] at h
    rw [unit_more ha t]
    dsimp only at h ⊢
    split at h
    · rename_i g; rw [if_pos g]; exact h
    · rename_i g
      rw [if_neg g]
      have hl := (Qm.unit_lt ha).2
      rw [List.drop_append_of_le_length hl]
      cases hb : Qm.unitL (l.drop 6) with
      | none => rw [hb] at h; cases h
      | some b => rw [hb] at h; rw [unit_more hb t]; exact h
theorem next_more {l : Tx} {p : Nat × Nat} (h : Qm.nextL l = some p) (t : Tx) : Qm.nextL (l ++ t) = some p := by
  have hne : l ≠ [] := by rintro rfl; cases h
  have hl : 0 < l.length := by cases l <;> simp at hne ⊢
  unfold Qm.nextL at h ⊢
  rw [if_neg hne] at h
  rw [if_neg (by simp [hne]), get_app l t 0 hl]
  split at h
  · rename_i g
    rw [if_pos g]
    split at h
    · cases h
    · rename_i g2
      rw [if_neg (by rw [List.length_append]; omega), get_app l t 1 (by omega)]
      cases he : Qm.escL (l.getD 1 0).toNat with
      | some x => rw [he] at h; exact h
      | none => rw [he] at h; exact num_more h t
  · rename_i g
    rw [if_neg g]
    split at h
    · cases h
    · rename_i g2
      have hg : Qm.good l := fun hb => g2 (.inr ⟨hb.1, by omega⟩)
      have := Qm.decode_more l (l.drop (Lib.decodeL l).2 ++ t) hne hg
      rw [← List.append_assoc, List.take_append_drop] at this
      rw [this, if_neg g2]
      exact h
theorem unq_more : ∀ (N : Nat) (l : Tx), l.length ≤ N → ∀ q, Qm.unq l = some q → ∀ t, Qm.unq (l ++ t) = some q
  | N, l, hN, q, h, t => by
    have hl : 0 < l.length := by
      cases l with
      | nil => cases h
      | cons c r => simp
    by_cases hq : l.getD 0 0 = 34
    · rw [Qm.unq_end l hq] at h
      rw [Qm.unq_end _ (by rw [get_app l t 0 hl]; exact hq)]
      exact h
    · cases hx : Qm.nextL l with
      | none => rw [Qm.unq_none l hq hx] at h; cases h
      | some p =>
        obtain ⟨r, k⟩ := p
        obtain ⟨k1, k2, -⟩ := Qm.next_ok hx
        rw [Qm.unq_step l hq hx] at h
        rw [Qm.unq_step (l ++ t) (by rw [get_app l t 0 hl]; exact hq) (next_more hx t), List.drop_append_of_le_length k2]
        cases hu : Qm.unq (l.drop k) with
        | none => rw [hu] at h; cases h
        | some q2 =>
          rw [hu] at h
          cases N with
          | zero => omega
          | succ N =>
            rw [unq_more N (l.drop k) (by rw [List.length_drop]; omega) q2 hu t]
            exact h
theorem unquote_head {l : Tx} (h : (Qm.unquoteL l).2.2 = 0) : l.getD 0 0 = 34 ∧ 0 < l.length := by
  unfold Qm.unquoteL at h
  split at h
  · rename_i g
    refine ⟨g, ?_⟩
    cases l with
    | nil => exact absurd g (by decide)
    | cons c r => simp
  · cases h
theorem unquote_more {l : Tx} (h : (Qm.unquoteL l).2.2 = 0) (t : Tx) : Qm.unquoteL (l ++ t) = Qm.unquoteL l := by
  obtain ⟨h1, h2⟩ := unquote_head h
  unfold Qm.unquoteL at h ⊢
  rw [if_pos h1] at h
  rw [get_app l t 0 h2, if_pos h1, if_pos h1, List.drop_append_of_le_length h2]
  cases hu : Qm.unq (l.drop 1) with
  | none => rw [hu] at h; cases h
  | some q => rw [unq_more _ (l.drop 1) (Nat.le_refl _) q hu t]

/-! ### what stands first, with a blank and more behind -/
theorem pre_mem : ∀ (b l t : Tx), (32 : UInt8) ∉ b → Lib.hasPrefix (l ++ 32 :: t) b = Lib.hasPrefix l b
  | [], [], t, _ => rfl
  | [], d :: l, t, _ => rfl
  | c :: b, [], t, h => by
    show (c == 32 && b.isPrefixOf t) = false
    rw [beq_false_of_ne (fun e => h (by rw [e]; exact List.mem_cons_self))]
    rfl
  | c :: b, d :: l, t, h => by
    have h2 : b.isPrefixOf (l ++ 32 :: t) = b.isPrefixOf l := pre_mem b l t (fun e => h (List.mem_cons_of_mem _ e))
    show (c == d && b.isPrefixOf (l ++ 32 :: t)) = (c == d && b.isPrefixOf l)
    rw [h2]
theorem pre_more (b l t : Tx) (h : b.contains 32 = false) : Lib.hasPrefix (l ++ 32 :: t) b = Lib.hasPrefix l b :=
  pre_mem b l t (fun hm => by rw [show b.contains 32 = true from List.elem_eq_true_of_mem hm] at h; cases h)
theorem run_more {cs : Tx} (h : cs.contains 32 = false) (l t : Tx) : runN cs (l ++ 32 :: t) = runN cs l := by
  rw [← run_len, ← run_len]
  induction l with
  | nil => rw [List.nil_append, List.takeWhile_cons, h]; rfl
  | cons c r ih =>
    rw [List.cons_append, List.takeWhile_cons, List.takeWhile_cons]
    split
    · rw [List.length_cons, List.length_cons, ih]
    · rfl
theorem named_more (k : Nat) {pre l t : Tx} (hp : pre.contains 32 = false) : namedO k pre (l ++ 32 :: t) = namedO k pre l := by
  unfold namedO
  rw [pre_more pre l t hp]
  cases hh : Lib.hasPrefix l pre with
  | false => simp
  | true =>
    have hle := pre_le hh
    rw [List.drop_append_of_le_length hle, run_more (by decide +kernel), List.take_append_of_le_length (run_le _ _)]
theorem quoted_more {k : Nat} {pre l : Tx} {x : Tk × Nat} (hp : pre.contains 32 = false) (h : quotedO k pre l = some x) (t : Tx) : quotedO k pre (l ++ 32 :: t) = some x := by
  obtain ⟨h1, h2, rfl⟩ := quoted_some h
  unfold quotedO
  rw [pre_more pre l t hp, List.drop_append_of_le_length (pre_le h1), unquote_more h2, if_pos ⟨h1, h2⟩]
theorem part_more (l t : Tx) : ∀ (bs : List Tx), (∀ b ∈ bs, b.contains 32 = false) → partN (l ++ 32 :: t) bs = partN l bs
  | [], _ => rfl
  | b :: bs, h => by
    unfold partN
    rw [pre_more b l t (h b (by simp)), part_more l t bs (fun x hx => h x (by simp [hx]))]
    cases hh : Lib.hasPrefix l b with
    | false => simp
    | true => rw [List.drop_append_of_le_length (pre_le hh), run_more (by decide +kernel)]
theorem num3_more (l t : Tx) : num3 (l ++ 32 :: t) = num3 l := by
  have h1 : num1 (l ++ 32 :: t) = num1 l := part_more l t _ (by decide)
  have h2 : num2 (l ++ 32 :: t) = num2 l := by
    unfold num2
    rw [h1, List.drop_append_of_le_length (num1_le l), part_more _ t _ (by decide)]
  unfold num3
  rw [h2, List.drop_append_of_le_length (num2_le l), part_more _ t _ (by decide +kernel)]
theorem numO_more (l t : Tx) : numO (l ++ 32 :: t) = numO l := by
  unfold numO
  rw [num3_more, List.take_append_of_le_length (num3_le l)]
theorem signs_plain : ∀ g ∈ signs, g.contains 32 = false := by decide +kernel
theorem find_more (l t : Tx) : ∀ (gs : List Tx), (∀ g ∈ gs, g.contains 32 = false) → gs.find? (fun g => Lib.hasPrefix (l ++ 32 :: t) g) = gs.find? (fun g => Lib.hasPrefix l g)
  | [], _ => rfl
  | g :: gs, h => by
    rw [List.find?_cons, List.find?_cons, pre_more g l t (h g (by simp)), find_more l t gs (fun x hx => h x (by simp [hx]))]
theorem signO_more (l t : Tx) : signO (l ++ 32 :: t) = signO l := by
  unfold signO
  rw [find_more l t _ signs_plain]
theorem key_none {l : Tx} (h : l.getD 0 0 ≠ 46) : keyO l = none := by
  unfold keyO
  rw [named_no 3 (pre := [46]) rfl (.inl h)]
  show quotedO 3 [46] l = none
  unfold quotedO
  rw [if_neg]
  rintro ⟨h1, -⟩
  exact h (head_pre h1)
theorem text_none {l : Tx} (h : l.getD 0 0 ≠ 34) : quotedO 5 [] l = none := by
  unfold quotedO
  rw [if_neg]
  rintro ⟨-, h2⟩
  exact h (unquote_head h2).1
theorem key_split {l : Tx} (h : keyO l = none) : namedO 3 [46] l = none ∧ quotedO 3 [46] l = none := by
  unfold keyO at h
  split at h
  · cases h
  · rename_i hn; exact ⟨hn, h⟩
/-- What begins with a quote, and is read, is a text. -/
theorem quote_read {r : Tx} (h : r.getD 0 0 = 34) {y : Tk × Nat} (hr : readO r = some y) : (Qm.unquoteL r).2.2 = 0 := by
  obtain ⟨k, hk, -, hx⟩ := read_cases hr
  by_cases h4 : k < 4
  · rw [head34 h k h4] at hx; cases hx
  · rcases (show k = 4 ∨ k = 5 by omega) with rfl | rfl
    · exact (quoted_some (k := 5) (pre := []) hx).2.1
    · obtain ⟨g, hg, h2, -⟩ := sign_some hx
      have f := sign_facts g hg
      cases g with
      | nil => exact absurd rfl f.2.2.2.2.2.2.2.2
      | cons c u => exact absurd ((head_pre h2).symm.trans h) f.2.2.1
theorem read_more {l : Tx} {T : List (Tk × Nat)} (hlx : lexO l = some T) (ht : trimB l = l) (hne : l ≠ []) {x : Tk × Nat} (hr : readO l = some x) (t : Tx) : readO (l ++ 32 :: t) = some x := by
  have hl : 0 < l.length := by cases l <;> simp at hne ⊢
  obtain ⟨k, hk, hn, hx⟩ := read_cases hr
  have s0 : rdr 0 (l ++ 32 :: t) = rdr 0 l := named_more 1 (by decide)
  have s1 : rdr 1 (l ++ 32 :: t) = rdr 1 l := named_more 2 (by decide)
  have s3 : rdr 3 (l ++ 32 :: t) = rdr 3 l := numO_more l t
  have s5 : rdr 5 (l ++ 32 :: t) = rdr 5 l := signO_more l t
  have hh : (l ++ 32 :: t).getD 0 0 = l.getD 0 0 := get_app l _ 0 hl
  rcases (show k = 0 ∨ k = 1 ∨ k = 2 ∨ k = 3 ∨ k = 4 ∨ k = 5 by omega) with rfl | rfl | rfl | rfl | rfl | rfl
  · exact read_at (k := 0) (by decide) (fun j hj => absurd hj (Nat.not_lt_zero _)) (s0.trans hx)
  · refine read_at (k := 1) (by decide) (fun j hj => ?_) (s1.trans hx)
    obtain rfl : j = 0 := by omega
    exact s0.trans (hn 0 (by decide))
  · refine read_at (k := 2) (by decide) (fun j hj => ?_) ?_
    · rcases (show j = 0 ∨ j = 1 by omega) with rfl | rfl
      · exact s0.trans (hn 0 (by decide))
      · exact s1.trans (hn 1 (by decide))
    · have hx2 : keyO l = some x := hx
      show keyO (l ++ 32 :: t) = some x
      unfold keyO at hx2 ⊢
      rw [named_more 3 (by decide)]
      split at hx2
      · exact hx2
      · exact quoted_more (by decide) hx2 t
  · obtain ⟨d, hd, -⟩ := num_some hx
    have hd3 := num_head hd
    refine read_at (k := 3) (by decide) (fun j hj => ?_) (s3.trans hx)
    rcases (show j = 0 ∨ j = 1 ∨ j = 2 by omega) with rfl | rfl | rfl
    · exact s0.trans (hn 0 (by decide))
    · exact s1.trans (hn 1 (by decide))
    · refine key_none ?_
      rw [hh]
      intro e
      rw [e] at hd3
      exact absurd hd3.1 (by decide)
  · have h34 := (unquote_head (quoted_some (k := 5) (pre := []) hx).2.1).1
    exact read_at (k := 4) (by decide) (head34 (by rw [hh]; exact h34)) (quoted_more (k := 5) (pre := []) (by decide) hx t)
  · obtain ⟨g, hg, h2, hgx⟩ := sign_some (l := l) hx
    have f := sign_facts g hg
    have hgh : l.getD 0 0 = g.getD 0 0 := by
      cases g with
      | nil => exact absurd rfl f.2.2.2.2.2.2.2.2
      | cons c u => exact head_pre h2
    refine read_at (k := 5) (by decide) (fun j hj => ?_) (s5.trans hx)
    rcases (show j = 0 ∨ j = 1 ∨ j = 2 ∨ j = 3 ∨ j = 4 by omega) with rfl | rfl | rfl | rfl | rfl
    · exact s0.trans (hn 0 (by decide))
    · exact s1.trans (hn 1 (by decide))
    · obtain ⟨q1, q2⟩ := key_split (hn 2 (by decide))
      show keyO (l ++ 32 :: t) = none
      unfold keyO
      rw [named_more 3 (by decide), q1]
      show quotedO 3 [46] (l ++ 32 :: t) = none
      unfold quotedO
      rw [if_neg]
      rintro ⟨u1, u2⟩
      rw [pre_more [46] l t (by decide)] at u1
      have h46 := head_pre u1
      have hg46 : g = [46] := f.2.2.2.2.2.2.2.1 (by rw [← hgh]; exact h46)
      have u3 : (Qm.unquoteL ((l ++ 32 :: t).drop 1)).2.2 = 0 := u2
      rw [List.drop_append_of_le_length hl] at u3
      obtain ⟨v1, v2⟩ := unquote_head u3
      cases hr1 : l.drop 1 with
      | nil => rw [hr1] at v1; exact absurd v1 (by show ¬ (32 : UInt8) = 34; decide)
      | cons c r =>
        rw [hr1] at v1
        obtain rfl : c = 34 := v1
        have hne0 : ¬ trimB l = [] := by rw [ht]; exact hne
        rw [lex_next hne0 (by rw [ht]; exact hr), ht, hgx, hg46] at hlx
        obtain ⟨T2, hT2, -⟩ := Option.map_eq_some_iff.1 hlx
        have hT3 : lexO (34 :: r) = some T2 := by rw [← hr1]; exact hT2
        have ht2 : trimB (34 :: r) = 34 :: r := trimB_id (by decide)
        cases hr2 : readO (34 :: r) with
        | none => rw [lex_wrong (by rw [ht2]; simp) (by rw [ht2]; exact hr2)] at hT3; cases hT3
        | some y =>
          have hq := quote_read (r := 34 :: r) rfl hr2
          have : quotedO 3 [46] l ≠ none := by
            unfold quotedO
            rw [if_pos ⟨u1, by show (Qm.unquoteL (l.drop 1)).2.2 = 0; rw [hr1]; exact hq⟩]
            simp
          exact this q2
    · exact s3.trans (hn 3 (by decide))
    · exact text_none (by rw [hh, hgh]; exact f.2.2.1)
/-- Two texts with a blank between. -/
theorem lex_join {t : Tx} {U : List (Tk × Nat)} (hU : lexO t = some U) : ∀ (N : Nat) (l : Tx), l.length ≤ N → ∀ T, lexO l = some T → lexO (l ++ 32 :: t) = some (T.map (fun y => (y.1, y.2 + (t.length + 1))) ++ U)
  | N, [], hN, T, hT => by
    rw [lex_nil] at hT
    obtain rfl := Option.some.inj hT
    show lexO (32 :: t) = _
    rw [lex_blank (by decide), hU]
    rfl
  | 0, c :: r, hN, T, hT => by simp at hN
  | N + 1, c :: r, hN, T, hT => by
    have hN2 : r.length ≤ N := by simpa using hN
    cases hc : blanks.contains c with
    | true =>
      rw [lex_blank hc] at hT
      rw [List.cons_append, lex_blank hc]
      exact lex_join hU N r hN2 T hT
    | false =>
      have ht : trimB (c :: r) = c :: r := trimB_id hc
      have ht2 : trimB (c :: r ++ 32 :: t) = c :: r ++ 32 :: t := trimB_id hc
      cases hr : readO (c :: r) with
      | none => rw [lex_wrong (by rw [ht]; simp) (by rw [ht]; exact hr)] at hT; cases hT
      | some x =>
        have hs := read_size hr
        have hr2 := read_more hT ht (by simp) hr t
        rw [lex_next (by rw [ht]; simp) (by rw [ht]; exact hr), ht] at hT
        obtain ⟨T2, hT2, rfl⟩ := Option.map_eq_some_iff.1 hT
        rw [lex_next (by rw [ht2]; simp) (by rw [ht2]; exact hr2), ht2, List.drop_append_of_le_length hs.2]
        have hd : ((c :: r).drop x.2).length ≤ N := by rw [List.length_drop]; simp only [List.length_cons] at hN ⊢; omega
        rw [lex_join hU N _ hd T2 hT2]
        simp only [Option.map_some, List.map_cons, List.cons_append, List.length_append, List.length_cons]
        rw [show r.length + (t.length + 1) + 1 = r.length + 1 + (t.length + 1) by omega]
end Go.Proofs.YtppkknmgdahniabDoor.Lx
