/- What is proved here: plain facts on a filter's tokens: names, alone, behind a dollar and behind a point; conditions: as each theorem states. It imports nothing of any program. -/
import Derived.Test.YtppkknmgdahniabDoorNi
namespace Go.Proofs.YtppkknmgdahniabDoor.Lx
set_option maxRecDepth 100000
set_option maxRecDepth 100000
set_option linter.unusedVariables false
set_option linter.unusedSimpArgs false

theorem in_is (c : UInt8) : inNames.contains c = Cm.inB c := by
  have h : ∀ n : Fin 256, inNames.contains (UInt8.ofNat n.val) = Cm.inB (UInt8.ofNat n.val) := by decide +kernel
  have := h ⟨c.toNat, c.toNat_lt⟩
  simpa using this
theorem let_not (c : UInt8) (h : Cm.letB c = true) : blanks.contains c = false ∧ c ≠ 36 ∧ c ≠ 46 ∧ c ≠ 34 ∧ ¬ (48 ≤ c.toNat ∧ c.toNat ≤ 57) ∧ (signs.all fun g => g.getD 0 0 != c) = true := by
  have h2 : ∀ n : Fin 256, Cm.letB (UInt8.ofNat n.val) = true → blanks.contains (UInt8.ofNat n.val) = false ∧ (UInt8.ofNat n.val) ≠ 36 ∧ (UInt8.ofNat n.val) ≠ 46 ∧ (UInt8.ofNat n.val) ≠ 34 ∧ ¬ (48 ≤ (UInt8.ofNat n.val).toNat ∧ (UInt8.ofNat n.val).toNat ≤ 57) ∧ (signs.all fun g => g.getD 0 0 != (UInt8.ofNat n.val)) = true := by decide +kernel
  have := h2 ⟨c.toNat, c.toNat_lt⟩
  simp only [UInt8.ofNat_toNat] at this
  exact this h
theorem trimB_id {c : UInt8} {r : Tx} (h : blanks.contains c = false) : trimB (c :: r) = c :: r := by
  unfold trimB trimC
  rw [List.dropWhile_cons, h]
  rfl
theorem trimB_skip {c : UInt8} {r : Tx} (h : blanks.contains c = true) : trimB (c :: r) = trimB r := by
  unfold trimB trimC
  rw [List.dropWhile_cons, h]
  rfl
/-- Where the bytes of a set end. -/
theorem run_app {cs s r : Tx} (hs : s.all (fun c => cs.contains c) = true) (hr : r = [] ∨ cs.contains (r.getD 0 0) = false) : runN cs (s ++ r) = s.length := by
  rw [← run_len]
  have h : (s ++ r).takeWhile (fun c => cs.contains c) = s := by
    rw [List.takeWhile_append_of_pos (by simpa [List.all_eq_true] using hs)]
    rcases hr with rfl | hr
    · simp
    · cases r with
      | nil => simp
      | cons c t => rw [List.takeWhile_cons, show cs.contains c = false from hr]; simp
  rw [h]
theorem name_all {s : Tx} (h : Cm.nameB s = true) : s.all (fun c => inNames.contains c) = true := by
  unfold Cm.nameB at h
  simp only [Bool.and_eq_true] at h
  have := h.2
  rw [List.all_eq_true] at this ⊢
  intro c hc
  rw [in_is]; exact this c hc
theorem name_let {s : Tx} (h : Cm.nameB s = true) : Cm.letB (s.getD 0 0) = true := by
  unfold Cm.nameB at h
  simp only [Bool.and_eq_true] at h
  exact h.1.2
theorem name_cons {s : Tx} (h : Cm.nameB s = true) : ∃ c t, s = c :: t ∧ Cm.letB c = true := by
  have h1 := (name_len h).1
  have h2 := name_let h
  cases s with
  | nil => simp at h1
  | cons c t => exact ⟨c, t, rfl, h2⟩
theorem named_yes (k : Nat) {pre s r : Tx} (h : Cm.nameB s = true) (hr : r = [] ∨ inNames.contains (r.getD 0 0) = false) : namedO k pre (pre ++ (s ++ r)) = some (⟨k, s, false, [], 0⟩, pre.length + s.length) := by
  unfold namedO
  have e1 : (pre ++ (s ++ r)).drop pre.length = s ++ r := List.drop_left
  have e2 := run_app (name_all h) hr
  have e3 : (s ++ r).take s.length = s := List.take_left
  have e4 : Lib.hasPrefix (pre ++ (s ++ r)) pre = true := by
    unfold Lib.hasPrefix
    exact List.isPrefixOf_iff_prefix.2 (List.prefix_append _ _)
  rw [e1, e2, e3, if_pos ⟨e4, h⟩]
theorem named_no (k : Nat) {pre l : Tx} {c : UInt8} {p : Tx} (hp : pre = c :: p) (h : l.getD 0 0 ≠ c ∨ l = []) : namedO k pre l = none := by
  subst hp
  unfold namedO
  rw [if_neg]
  rintro ⟨h1, -⟩
  rcases h with h | h
  · exact h (head_pre h1)
  · subst h; cases h1
theorem named_none (k : Nat) {l : Tx} (h : inNames.contains (l.getD 0 0) = false ∨ l = []) : namedO k [] l = none := by
  unfold namedO
  rw [if_neg]
  rintro ⟨-, h2⟩
  have h3 : 0 < runN inNames l := name_head2 (k := 0) h2
  have := run_head h3
  rcases h with h | h
  · rw [h] at this; cases this
  · subst h
    unfold runN trimC at h3
    simp at h3
theorem lex_one {l r : Tx} {x : Tk × Nat} (ht : trimB l = l) (hne : ¬ l = []) (hr : readO l = some x) (hd : l.drop x.2 = r) : lexO l = (lexO r).map (fun q => (x.1, l.length) :: q) := by
  have := lex_next (l := l) (by rw [ht]; exact hne) (by rw [ht]; exact hr)
  rw [ht, hd] at this
  exact this
theorem lex_blank {c : UInt8} {r : Tx} (h : blanks.contains c = true) : lexO (c :: r) = lexO r := by
  by_cases ht : trimB r = []
  · rw [lex_end ht, lex_end (by rw [trimB_skip h]; exact ht)]
  · cases hr : readO (trimB r) with
    | none => rw [lex_wrong ht hr, lex_wrong (by rw [trimB_skip h]; exact ht) (by rw [trimB_skip h]; exact hr)]
    | some x => rw [lex_next ht hr, lex_next (by rw [trimB_skip h]; exact ht) (by rw [trimB_skip h]; exact hr), trimB_skip h]
theorem lex_nil : lexO [] = some [] := lex_end rfl
theorem lex_name {s r : Tx} (h : Cm.nameB s = true) (hr : r = [] ∨ inNames.contains (r.getD 0 0) = false) : lexO (s ++ r) = (lexO r).map (fun q => (⟨1, s, false, [], 0⟩, (s ++ r).length) :: q) := by
  obtain ⟨c, t, e, hc⟩ := name_cons h
  have hrd : readO (s ++ r) = some (⟨1, s, false, [], 0⟩, s.length) := read_at (k := 0) (by decide) (fun j hj => absurd hj (Nat.not_lt_zero _)) (by
    have := named_yes 1 (pre := []) h hr
    show namedO 1 [] (s ++ r) = _
    simpa using this)
  refine lex_one ?_ ?_ hrd ?_
  · rw [e]; exact trimB_id (let_not c hc).1
  · rw [e]; simp
  · exact List.drop_left
theorem lex_var {s r : Tx} (h : Cm.nameB s = true) (hr : r = [] ∨ inNames.contains (r.getD 0 0) = false) : lexO (36 :: (s ++ r)) = (lexO r).map (fun q => (⟨2, s, false, [], 0⟩, (36 :: (s ++ r)).length) :: q) := by
  have h0 : rdr 0 (36 :: (s ++ r)) = none := named_none 1 (.inl (show inNames.contains (36 : UInt8) = false by decide +kernel))
  have hrd : readO (36 :: (s ++ r)) = some (⟨2, s, false, [], 0⟩, 1 + s.length) := read_at (k := 1) (by decide) (fun j hj => by
    obtain rfl : j = 0 := by omega
    exact h0) (named_yes 2 (pre := [36]) h hr)
  refine lex_one (trimB_id (by decide)) (by simp) hrd ?_
  rw [Nat.add_comm]
  show (s ++ r).drop s.length = r
  exact List.drop_left
theorem lex_key {s r : Tx} (h : Cm.nameB s = true) (hr : r = [] ∨ inNames.contains (r.getD 0 0) = false) : lexO (46 :: (s ++ r)) = (lexO r).map (fun q => (⟨3, s, false, [], 0⟩, (46 :: (s ++ r)).length) :: q) := by
  have h0 : rdr 0 (46 :: (s ++ r)) = none := named_none 1 (.inl (show inNames.contains (46 : UInt8) = false by decide +kernel))
  have h1 : rdr 1 (46 :: (s ++ r)) = none := named_no 2 (pre := [36]) rfl (.inl (by show (46 : UInt8) ≠ 36; decide))
  have h2 : rdr 2 (46 :: (s ++ r)) = some (⟨3, s, false, [], 0⟩, 1 + s.length) := by
    show keyO _ = _
    unfold keyO
    rw [show (46 :: (s ++ r)) = [46] ++ (s ++ r) from rfl, named_yes 3 (pre := [46]) h hr]
    rfl
  have hrd : readO (46 :: (s ++ r)) = some (⟨3, s, false, [], 0⟩, 1 + s.length) := read_at (k := 2) (by decide) (fun j hj => by
    rcases (show j = 0 ∨ j = 1 by omega) with rfl | rfl
    · exact h0
    · exact h1) h2
  refine lex_one (trimB_id (by decide)) (by simp) hrd ?_
  rw [Nat.add_comm]
  show (s ++ r).drop s.length = r
  exact List.drop_left
/-- Three names: alone, behind a dollar, behind a point. -/
theorem lex_three {s t : Tx} (hs : Cm.nameB s = true) (ht : Cm.nameB t = true) : lexO ((((s ++ [32, 36]) ++ s) ++ [32, 46]) ++ t) =
    some [(⟨1, s, false, [], 0⟩, s.length + s.length + t.length + 4), (⟨2, s, false, [], 0⟩, s.length + t.length + 3), (⟨3, t, false, [], 0⟩, t.length + 1)] := by
  have e : (((s ++ [32, 36]) ++ s) ++ [32, 46]) ++ t = s ++ (32 :: 36 :: (s ++ (32 :: 46 :: (t ++ [])))) := by simp
  have b32 : inNames.contains (32 : UInt8) = false := by decide +kernel
  rw [e, lex_name hs (r := 32 :: 36 :: (s ++ (32 :: 46 :: (t ++ [])))) (.inr b32), lex_blank (by decide), lex_var hs (r := 32 :: 46 :: (t ++ [])) (.inr b32), lex_blank (by decide), lex_key ht (.inl rfl), lex_nil]
  simp only [Option.map_some, List.length_append, List.length_cons, List.length_nil]
  congr 2
  congr 1
  omega
theorem name_join {s t : Tx} (hs : Cm.nameB s = true) (ht : Cm.nameB t = true) (h : s.length + t.length ≤ 24) : Cm.nameB (s ++ t) = true := by
  have h1 := name_len hs
  obtain ⟨c, u, rfl, hc⟩ := name_cons hs
  unfold Cm.nameB at hs ht ⊢
  simp only [Bool.and_eq_true, decide_eq_true_eq, List.all_append, List.length_append] at *
  exact ⟨⟨⟨by omega, by omega⟩, hc⟩, hs.2, ht.2⟩
theorem lex_two {s t : Tx} (hs : Cm.nameB s = true) (ht : Cm.nameB t = true) (h : s.length + t.length ≤ 24) : lexO (s ++ t) = some [(⟨1, s ++ t, false, [], 0⟩, s.length + t.length)] := by
  have := lex_name (r := []) (name_join hs ht h) (.inl rfl)
  rw [List.append_nil] at this
  rw [this, lex_nil]
  simp
theorem lex_long {s t : Tx} (hs : Cm.nameB s = true) (ht : Cm.nameB t = true) (h : 24 < s.length + t.length) : lexO (s ++ t) = none := by
  obtain ⟨c, u, e, hc⟩ := name_cons hs
  obtain ⟨l1, l2, l3, l4, l5, l6⟩ := let_not c hc
  have hh : (s ++ t).getD 0 0 = c := by rw [e]; rfl
  have hall : (s ++ t).all (fun c => inNames.contains c) = true := by rw [List.all_append, name_all hs, name_all ht]; rfl
  have hrun : runN inNames (s ++ t) = (s ++ t).length := by
    have := run_app (r := []) hall (.inl rfl)
    rw [List.append_nil] at this
    exact this
  have htr : trimB (s ++ t) = s ++ t := by rw [e]; exact trimB_id l1
  refine lex_wrong (by rw [htr, e]; simp) ?_
  rw [htr]
  refine read_none (fun j hj => ?_)
  match j, hj with
  | 0, _ =>
    show namedO 1 [] (s ++ t) = none
    unfold namedO
    rw [if_neg]
    rintro ⟨-, h2⟩
    have h3 : Cm.nameB ((s ++ t).take (runN inNames (s ++ t))) = true := h2
    rw [hrun, List.take_length] at h3
    have := (name_len h3).2
    rw [List.length_append] at this
    omega
  | 1, _ => exact named_no 2 (pre := [36]) rfl (.inl (by rw [hh]; exact l2))
  | 2, _ =>
    show keyO _ = none
    unfold keyO
    rw [named_no 3 (pre := [46]) rfl (.inl (by rw [hh]; exact l3))]
    show quotedO 3 [46] _ = none
    unfold quotedO
    rw [if_neg]
    rintro ⟨h1, -⟩
    exact l3 (hh ▸ head_pre h1)
  | 3, _ =>
    show numO _ = none
    cases hx : numO (s ++ t) with
    | none => rfl
    | some x =>
      obtain ⟨d, hd, -⟩ := num_some hx
      have := num_head hd
      rw [hh] at this
      exact absurd ⟨this.1, this.2.1⟩ l5
  | 4, _ =>
    show quotedO 5 [] _ = none
    unfold quotedO
    rw [if_neg]
    rintro ⟨-, h2⟩
    change (Qm.unquoteL (s ++ t)).2.2 = 0 at h2
    unfold Qm.unquoteL at h2
    rw [hh, if_neg l4] at h2
    cases h2
  | 5, _ =>
    show signO _ = none
    cases hx : signO (s ++ t) with
    | none => rfl
    | some x =>
      obtain ⟨g, h1, h2, -⟩ := sign_some hx
      have h3 := List.all_eq_true.1 l6 g h1
      have h4 := (signs_len g h1).1
      cases g with
      | nil => simp at h4
      | cons d p =>
        have := head_pre h2
        rw [hh] at this
        subst this
        simp at h3
end Go.Proofs.YtppkknmgdahniabDoor.Lx
