/- What is proved here: plain facts on a filter's tokens: what was printed is read as it was; conditions: as each theorem states. It imports nothing of any program. -/
import Derived.Test.YtppkknmgdahniabDoorNl
namespace Go.Proofs.YtppkknmgdahniabDoor.Lx
set_option maxRecDepth 100000
set_option maxRecDepth 100000
set_option linter.unusedVariables false
set_option linter.unusedSimpArgs false

/-- A token's text. -/
def prT (t : Tk) : Tx :=
  if t.k = 2 then 36 :: t.tx else if t.k = 3 then 46 :: Qm.quoteL t.tx else if t.k = 4 then Dm.printL ⟨t.ng, t.dg, t.sc⟩ else if t.k = 5 then Qm.quoteL t.tx else t.tx
/-- What a token that was read is. -/
def tkGood (t : Tk) : Prop :=
  (t.k = 1 ∧ Cm.nameB t.tx = true ∧ t.ng = false ∧ t.dg = [] ∧ t.sc = 0) ∨ (t.k = 2 ∧ Cm.nameB t.tx = true ∧ t.ng = false ∧ t.dg = [] ∧ t.sc = 0) ∨
  (t.k = 3 ∧ Lib.validD t.tx = true ∧ t.tx.length ≤ 4096 ∧ t.ng = false ∧ t.dg = [] ∧ t.sc = 0) ∨ (t.k = 4 ∧ t.tx = [] ∧ t.ng = false ∧ Dm.May ⟨t.ng, t.dg, t.sc⟩) ∨
  (t.k = 5 ∧ Lib.validD t.tx = true ∧ t.tx.length ≤ 4096 ∧ t.ng = false ∧ t.dg = [] ∧ t.sc = 0) ∨ (t.k = 6 ∧ t.tx ∈ signs ∧ t.ng = false ∧ t.dg = [] ∧ t.sc = 0)
theorem in_ascii (c : UInt8) (h : Cm.inB c = true) : c.toNat < 128 := by
  have h2 : ∀ n : Fin 256, Cm.inB (UInt8.ofNat n.val) = true → (UInt8.ofNat n.val).toNat < 128 := by decide +kernel
  have := h2 ⟨c.toNat, c.toNat_lt⟩
  simp only [UInt8.ofNat_toNat] at this
  exact this h
theorem name_valid {l : Tx} (h : Cm.nameB l = true) : Lib.validD l = true := by
  have h2 := Qm.ascii_valid l [] (fun c hc => in_ascii c (by
    unfold Cm.nameB at h
    simp only [Bool.and_eq_true] at h
    exact List.all_eq_true.1 h.2 c hc))
  rw [List.append_nil] at h2
  rw [h2]
  decide
theorem unq_good {l : Tx} (h : (Qm.unquoteL l).2.2 = 0) : Lib.validD (Qm.unquoteL l).1 = true ∧ (Qm.unquoteL l).1.length ≤ 4096 := by
  rcases Qm.unquote_shape l with ⟨t, n, e, h1, -, -, h2⟩ | e | e
  · rw [e]; exact ⟨h1, h2⟩
  · rw [e] at h; cases h
  · rw [e] at h; cases h
theorem rdr_good {l : Tx} {x : Tk × Nat} : ∀ {k : Nat}, rdr k l = some x → tkGood x.1
  | 0, h => by obtain ⟨h1, h2, rfl⟩ := named_some h; exact .inl ⟨rfl, h2, rfl, rfl, rfl⟩
  | 1, h => by obtain ⟨h1, h2, rfl⟩ := named_some h; exact .inr (.inl ⟨rfl, h2, rfl, rfl, rfl⟩)
  | 2, h => by
    change keyO l = some x at h
    unfold keyO at h
    split at h
    · rename_i y hy
      obtain rfl := Option.some.inj h
      obtain ⟨h1, h2, rfl⟩ := named_some hy
      have h3 := (name_len h2).2
      exact .inr (.inr (.inl ⟨rfl, name_valid h2, Nat.le_trans h3 (by decide), rfl, rfl, rfl⟩))
    · obtain ⟨h1, h2, rfl⟩ := quoted_some h
      obtain ⟨a, b⟩ := unq_good h2
      exact .inr (.inr (.inl ⟨rfl, a, b, rfl, rfl, rfl⟩))
  | 3, h => by
    obtain ⟨d, hd, rfl⟩ := num_some h
    have hm := Dm.parse_may hd
    have hn := (num_head hd).2.2
    exact .inr (.inr (.inr (.inl ⟨rfl, rfl, hn, hm⟩)))
  | 4, h => by
    obtain ⟨h1, h2, rfl⟩ := quoted_some h
    obtain ⟨a, b⟩ := unq_good h2
    exact .inr (.inr (.inr (.inr (.inl ⟨rfl, a, b, rfl, rfl, rfl⟩))))
  | _ + 5, h => by
    obtain ⟨g, h1, h2, rfl⟩ := sign_some h
    exact .inr (.inr (.inr (.inr (.inr ⟨rfl, h1, rfl, rfl, rfl⟩))))
theorem lex_good : ∀ (N : Nat) (l : Tx), l.length ≤ N → ∀ T, lexO l = some T → ∀ x ∈ T, tkGood x.1
  | N, l, hN, T, hT, x, hx => by
    by_cases ht : trimB l = []
    · rw [lex_end ht] at hT
      obtain rfl := Option.some.inj hT
      cases hx
    · cases hr : readO (trimB l) with
      | none => rw [lex_wrong ht hr] at hT; cases hT
      | some y =>
        rw [lex_next ht hr] at hT
        obtain ⟨T2, h2, rfl⟩ := Option.map_eq_some_iff.1 hT
        have hs := read_size hr
        have hle : (trimB l).length ≤ l.length := trim_le l blanks
        have hd : ((trimB l).drop y.2).length = (trimB l).length - y.2 := List.length_drop
        cases N with
        | zero => omega
        | succ N =>
          rcases List.mem_cons.1 hx with rfl | hx
          · obtain ⟨k, -, -, hk⟩ := read_cases hr
            have hgd : tkGood y.1 := rdr_good hk
            exact hgd
          · exact lex_good N ((trimB l).drop y.2) (by omega) T2 h2 x hx

/-! ### what was printed, with a blank or nothing behind it -/
def ends (r : Tx) : Prop := r = [] ∨ r.getD 0 0 = 32 ∨ r.getD 0 0 = 9
theorem ends_in {r : Tx} (h : ends r) : r = [] ∨ inNames.contains (r.getD 0 0) = false := by
  rcases h with h | h | h
  · exact .inl h
  · exact .inr (by rw [h]; decide +kernel)
  · exact .inr (by rw [h]; decide +kernel)
theorem ends_dig {r : Tx} (h : ends r) : r = [] ∨ digs.contains (r.getD 0 0) = false := by
  rcases h with h | h | h
  · exact .inl h
  · exact .inr (by rw [h]; decide +kernel)
  · exact .inr (by rw [h]; decide +kernel)
theorem pre_app (p r : Tx) : Lib.hasPrefix (p ++ r) p = true := by
  unfold Lib.hasPrefix
  exact List.isPrefixOf_iff_prefix.2 (List.prefix_append _ _)
theorem quoted_yes (k : Nat) {pre s r : Tx} (h : Lib.validD s = true) (hl : s.length ≤ 4096) : quotedO k pre (pre ++ (Qm.quoteL s ++ r)) = some (⟨k, s, false, [], 0⟩, pre.length + (Qm.quoteL s).length) := by
  unfold quotedO
  have e1 : (pre ++ (Qm.quoteL s ++ r)).drop pre.length = Qm.quoteL s ++ r := List.drop_left
  rw [e1, Qm.unquote_quote s r h hl, if_pos ⟨pre_app _ _, rfl⟩]
theorem read_key {s r : Tx} (h : Lib.validD s = true) (hl : s.length ≤ 4096) : readO (46 :: (Qm.quoteL s ++ r)) = some (⟨3, s, false, [], 0⟩, 1 + (Qm.quoteL s).length) := by
  have h0 : rdr 0 (46 :: (Qm.quoteL s ++ r)) = none := named_none 1 (.inl (show inNames.contains (46 : UInt8) = false by decide +kernel))
  have h1 : rdr 1 (46 :: (Qm.quoteL s ++ r)) = none := named_no 2 (pre := [36]) rfl (.inl (by show (46 : UInt8) ≠ 36; decide))
  refine read_at (k := 2) (by decide) (fun j hj => ?_) ?_
  · rcases (show j = 0 ∨ j = 1 by omega) with rfl | rfl
    · exact h0
    · exact h1
  · show keyO _ = _
    unfold keyO
    have e : namedO 3 [46] (46 :: (Qm.quoteL s ++ r)) = none := by
      unfold namedO
      rw [if_neg]
      rintro ⟨-, h2⟩
      have h3 : Cm.nameB ((Qm.quoteL s ++ r).take (runN inNames (Qm.quoteL s ++ r))) = true := h2
      have h4 : 0 < runN inNames (Qm.quoteL s ++ r) := name_head2 (k := 0) h3
      have h5 := run_head h4
      have h6 : inNames.contains (34 : UInt8) = false := by decide +kernel
      rw [show (Qm.quoteL s ++ r).getD 0 0 = 34 from rfl, h6] at h5
      cases h5
    rw [e]
    exact quoted_yes 3 (pre := [46]) h hl
theorem head34 {l : Tx} (hh : l.getD 0 0 = 34) : ∀ j, j < 4 → rdr j l = none := by
  intro j hj
  match j, hj with
  | 0, _ => exact named_none 1 (.inl (by rw [hh]; decide +kernel))
  | 1, _ => exact named_no 2 (pre := [36]) rfl (.inl (by rw [hh]; decide))
  | 2, _ =>
    show keyO l = none
    unfold keyO
    rw [named_no 3 (pre := [46]) rfl (.inl (by rw [hh]; decide))]
    show quotedO 3 [46] l = none
    unfold quotedO
    rw [if_neg]
    rintro ⟨h1, -⟩
    have := head_pre h1
    rw [hh] at this
    exact absurd this (by decide)
  | 3, _ =>
    show numO l = none
    cases hx : numO l with
    | none => rfl
    | some x =>
      obtain ⟨d, hd, -⟩ := num_some hx
      have := num_head hd
      rw [hh] at this
      exact absurd this.1 (by decide)
theorem read_text {s r : Tx} (h : Lib.validD s = true) (hl : s.length ≤ 4096) : readO (Qm.quoteL s ++ r) = some (⟨5, s, false, [], 0⟩, (Qm.quoteL s).length) := by
  have hh : (Qm.quoteL s ++ r).getD 0 0 = 34 := rfl
  have hq := quoted_yes 5 (pre := []) (r := r) h hl
  rw [List.nil_append, List.length_nil, Nat.zero_add] at hq
  generalize Qm.quoteL s ++ r = l at hh hq ⊢
  exact read_at (k := 4) (by decide) (head34 hh) hq
theorem parse_nil : Dm.parseL [] = none := by decide +kernel
theorem run_zero {cs r : Tx} (h : r = [] ∨ cs.contains (r.getD 0 0) = false) : runN cs r = 0 := by
  have := run_app (cs := cs) (s := []) (r := r) rfl h
  simpa using this
theorem part_zero {l : Tx} : ∀ {bs : List Tx}, (∀ b ∈ bs, Lib.hasPrefix l b = true → runN digs (l.drop b.length) = 0) → partN l bs = 0
  | [], _ => rfl
  | b :: bs, h => by
    unfold partN
    rw [if_neg]
    · exact part_zero (fun b hb => h b (by simp [hb]))
    · rintro ⟨h1, h2⟩
      have := h b (by simp) h1
      omega
theorem exps_head : ∀ b ∈ exps, ∃ c p, b = c :: p ∧ (c = 101 ∨ c = 69) := by
  intro b hb
  simp only [exps, List.mem_cons, List.not_mem_nil, or_false] at hb
  rcases hb with rfl | rfl | rfl | rfl | rfl | rfl
  · exact ⟨_, _, rfl, .inl rfl⟩
  · exact ⟨_, _, rfl, .inl rfl⟩
  · exact ⟨_, _, rfl, .inl rfl⟩
  · exact ⟨_, _, rfl, .inr rfl⟩
  · exact ⟨_, _, rfl, .inr rfl⟩
  · exact ⟨_, _, rfl, .inr rfl⟩
theorem exp_zero {l : Tx} (h : l.getD 0 0 ≠ 101 ∧ l.getD 0 0 ≠ 69 ∨ l = []) : partN l exps = 0 := by
  refine part_zero (fun b hb h1 => ?_)
  obtain ⟨c, p, rfl, hc⟩ := exps_head b hb
  rcases h with h | h
  · have := head_pre h1
    rcases hc with rfl | rfl
    · exact absurd this h.1
    · exact absurd this h.2
  · subst h; cases h1
theorem dot_zero {l : Tx} (h : l.getD 0 0 ≠ 46 ∨ l = [] ∨ l.drop 1 = [] ∨ digs.contains ((l.drop 1).getD 0 0) = false) : partN l [[46]] = 0 := by
  refine part_zero (fun b hb h1 => ?_)
  obtain rfl : b = [46] := by simpa using hb
  rcases h with h | h | h
  · exact absurd (head_pre h1) h
  · subst h; cases h1
  · exact run_zero h
theorem num1_is (l : Tx) : num1 l = runN digs l := by
  unfold num1
  show (if Lib.hasPrefix l [] = true ∧ 0 < runN digs (l.drop 0) then 0 + runN digs (l.drop 0) else 0) = _
  rw [List.drop_zero]
  by_cases h : 0 < runN digs l
  · rw [if_pos ⟨by cases l <;> rfl, h⟩, Nat.zero_add]
  · rw [if_neg (fun e => h e.2)]; omega
theorem num_none {l : Tx} (h1 : l = [] ∨ digs.contains (l.getD 0 0) = false) (h2 : l.getD 0 0 ≠ 46 ∨ l = [] ∨ l.drop 1 = [] ∨ digs.contains ((l.drop 1).getD 0 0) = false) (h3 : l.getD 0 0 ≠ 101 ∧ l.getD 0 0 ≠ 69 ∨ l = []) : numO l = none := by
  have e1 : num1 l = 0 := by rw [num1_is]; exact run_zero h1
  have e2 : num2 l = 0 := by unfold num2; rw [e1, List.drop_zero, dot_zero h2]
  have e3 : num3 l = 0 := by unfold num3; rw [e2, List.drop_zero, exp_zero h3]
  unfold numO
  rw [e3, List.take_zero, parse_nil]
theorem sign_facts (g : Tx) (hg : g ∈ signs) : inNames.contains (g.getD 0 0) = false ∧ g.getD 0 0 ≠ 36 ∧ g.getD 0 0 ≠ 34 ∧ digs.contains (g.getD 0 0) = false ∧ g.getD 0 0 ≠ 101 ∧ g.getD 0 0 ≠ 69 ∧ blanks.contains (g.getD 0 0) = false ∧ (g.getD 0 0 = 46 → g = [46]) ∧ g ≠ [] := by
  have h : ∀ g ∈ signs, inNames.contains (g.getD 0 0) = false ∧ g.getD 0 0 ≠ 36 ∧ g.getD 0 0 ≠ 34 ∧ digs.contains (g.getD 0 0) = false ∧ g.getD 0 0 ≠ 101 ∧ g.getD 0 0 ≠ 69 ∧ blanks.contains (g.getD 0 0) = false ∧ (g.getD 0 0 = 46 → g = [46]) ∧ g ≠ [] := by decide +kernel
  exact h g hg
theorem sign_find (g : Tx) (hg : g ∈ signs) (c : UInt8) (hc : c = 32 ∨ c = 9) (r : Tx) : signs.find? (fun b => Lib.hasPrefix (g ++ c :: r) b) = some g ∧ signs.find? (fun b => Lib.hasPrefix g b) = some g := by
  simp only [signs, List.mem_cons, List.not_mem_nil, or_false] at hg
  rcases hc with rfl | rfl <;> rcases hg with rfl | rfl | rfl | rfl | rfl | rfl | rfl | rfl | rfl | rfl | rfl | rfl | rfl | rfl | rfl | rfl | rfl | rfl | rfl | rfl | rfl | rfl <;> exact ⟨rfl, rfl⟩
theorem ends_cases {r : Tx} (h : ends r) : r = [] ∨ ∃ c q, r = c :: q ∧ (c = 32 ∨ c = 9) := by
  rcases h with h | h
  · exact .inl h
  · cases r with
    | nil => exact .inl rfl
    | cons c q => exact .inr ⟨c, q, rfl, h⟩
theorem app_head {g r : Tx} (hg : g ≠ []) : (g ++ r).getD 0 0 = g.getD 0 0 := by
  cases g with
  | nil => exact absurd rfl hg
  | cons c t => rfl
theorem read_sign {g r : Tx} (hg : g ∈ signs) (hr : ends r) : readO (g ++ r) = some (⟨6, g, false, [], 0⟩, g.length) := by
  obtain ⟨f1, f2, f3, f4, f5, f6, f7, f8, f9⟩ := sign_facts g hg
  have hh := app_head (r := r) f9
  have hdot : (g ++ r).getD 0 0 = 46 → (g ++ r).drop 1 = r := fun e => by
    rw [hh] at e
    rw [f8 e]; rfl
  have hr34 : (Qm.unquoteL r).2.2 ≠ 0 := by
    unfold Qm.unquoteL
    rw [if_neg]
    · decide
    · rcases ends_cases hr with rfl | ⟨c, q, rfl, hc⟩
      · decide
      · show ¬ c = 34; rcases hc with rfl | rfl <;> decide
  refine read_at (k := 5) (by decide) (fun j hj => ?_) ?_
  · match j, hj with
    | 0, _ => exact named_none 1 (.inl (by rw [hh]; exact f1))
    | 1, _ => exact named_no 2 (pre := [36]) rfl (.inl (by rw [hh]; exact f2))
    | 2, _ =>
      show keyO _ = none
      by_cases e : (g ++ r).getD 0 0 = 46
      · have e2 := hdot e
        unfold keyO
        have e3 : namedO 3 [46] (g ++ r) = none := by
          unfold namedO
          rw [if_neg]
          rintro ⟨-, h2⟩
          have h3 : Cm.nameB (((g ++ r).drop 1).take (runN inNames ((g ++ r).drop 1))) = true := h2
          rw [e2, run_zero (ends_in hr)] at h3
          have := (name_len h3).1
          simp at this
        rw [e3]
        show quotedO 3 [46] (g ++ r) = none
        unfold quotedO
        rw [if_neg]
        rintro ⟨-, h2⟩
        have h3 : (Qm.unquoteL ((g ++ r).drop 1)).2.2 = 0 := h2
        rw [e2] at h3
        exact hr34 h3
      · unfold keyO
        rw [named_no 3 (pre := [46]) rfl (.inl e)]
        show quotedO 3 [46] _ = none
        unfold quotedO
        rw [if_neg]
        rintro ⟨h1, -⟩
        exact e (head_pre h1)
    | 3, _ =>
      refine num_none (.inr (by rw [hh]; exact f4)) ?_ (.inl (by rw [hh]; exact ⟨f5, f6⟩))
      by_cases e : (g ++ r).getD 0 0 = 46
      · right; right
        rw [hdot e]
        exact ends_dig hr
      · exact .inl e
    | 4, _ =>
      show quotedO 5 [] _ = none
      unfold quotedO
      rw [if_neg]
      rintro ⟨-, h2⟩
      change (Qm.unquoteL (g ++ r)).2.2 = 0 at h2
      unfold Qm.unquoteL at h2
      rw [hh, if_neg f3] at h2
      cases h2
  · show signO _ = _
    unfold signO
    rcases ends_cases hr with rfl | ⟨c, q, rfl, hc⟩
    · rw [List.append_nil, (sign_find g hg 32 (.inl rfl) []).2]
    · rw [(sign_find g hg c hc q).1]
theorem dig_blank (c : UInt8) (h : Dm.isD c = true) : blanks.contains c = false := by
  have h2 : ∀ n : Fin 256, Dm.isD (UInt8.ofNat n.val) = true → blanks.contains (UInt8.ofNat n.val) = false := by decide +kernel
  have := h2 ⟨c.toNat, c.toNat_lt⟩
  simp only [UInt8.ofNat_toNat] at this
  exact this h
theorem may_parts {d : Dm.D} (h : Dm.May d) : Dm.allD d.ds ∧ 1 ≤ d.ds.length ∧ d.ds.length ≤ 60 ∧ d.sc ≤ 60 := by
  obtain ⟨a, b, c, e⟩ := h
  refine ⟨a, ?_, b, c⟩
  rcases e with ⟨e, -⟩ | ⟨⟨x, t, e, -⟩, -⟩
  · rw [e]; decide
  · rw [e]; simp
theorem all_digs {l : Tx} (h : Dm.allD l) : l.all (fun c => digs.contains c) = true := by
  rw [List.all_eq_true]
  intro c hc
  rw [digs_isD]
  exact h c hc
theorem take_all {A r : Tx} : (A ++ r).take A.length = A := List.take_left
theorem num3_whole {A r : Tx} (hA : Dm.allD A) (h1 : 0 < A.length) (hr : ends r) : num3 (A ++ r) = A.length := by
  have e1 : num1 (A ++ r) = A.length := by rw [num1_is]; exact run_app (all_digs hA) (ends_dig hr)
  have e2 : num2 (A ++ r) = A.length := by
    unfold num2
    rw [e1, List.drop_left, dot_zero (by
      rcases ends_cases hr with rfl | ⟨c, q, rfl, hc⟩
      · exact .inr (.inl rfl)
      · exact .inl (by show c ≠ 46; rcases hc with rfl | rfl <;> decide))]
    rfl
  unfold num3
  rw [e2, List.drop_left, exp_zero (by
    rcases ends_cases hr with rfl | ⟨c, q, rfl, hc⟩
    · exact .inr rfl
    · exact .inl ⟨by show c ≠ 101; rcases hc with rfl | rfl <;> decide, by show c ≠ 69; rcases hc with rfl | rfl <;> decide⟩)]
  rfl
theorem num3_dot {A C r : Tx} (hA : Dm.allD A) (hC : Dm.allD C) (h1 : 0 < C.length) (hr : ends r) : num3 (A ++ (46 :: (C ++ r))) = A.length + (1 + C.length) := by
  have e1 : num1 (A ++ (46 :: (C ++ r))) = A.length := by rw [num1_is]; exact run_app (all_digs hA) (.inr (show digs.contains (46 : UInt8) = false by decide +kernel))
  have e3 : partN (46 :: (C ++ r)) [[46]] = 1 + C.length := by
    unfold partN
    have hrun : runN digs ((46 :: (C ++ r)).drop ([46] : Tx).length) = C.length := run_app (all_digs hC) (ends_dig hr)
    rw [hrun, if_pos ⟨pre_app [46] (C ++ r), h1⟩]
    rfl
  have e2 : num2 (A ++ (46 :: (C ++ r))) = A.length + (1 + C.length) := by
    unfold num2
    rw [e1, List.drop_left, e3]
  unfold num3
  have e4 : (A ++ (46 :: (C ++ r))).drop (A.length + (1 + C.length)) = r := by
    rw [← List.drop_drop, List.drop_left, Nat.add_comm 1]
    show (C ++ r).drop C.length = r
    exact List.drop_left
  rw [e2, e4, exp_zero (by
    rcases ends_cases hr with rfl | ⟨c, q, rfl, hc⟩
    · exact .inr rfl
    · exact .inl ⟨by show c ≠ 101; rcases hc with rfl | rfl <;> decide, by show c ≠ 69; rcases hc with rfl | rfl <;> decide⟩)]
  rfl
theorem print_form {d : Dm.D} (h : Dm.May d) (hn : d.ng = false) : ∃ A B : Tx, Dm.printL d = A ++ B ∧ Dm.allD A ∧ 0 < A.length ∧ (B = [] ∨ ∃ C, B = 46 :: C ∧ Dm.allD C ∧ 0 < C.length) := by
  obtain ⟨hall, h1, h2, h3⟩ := may_parts h
  unfold Dm.printL
  rw [hn]
  show ∃ A B : Tx, ([] ++ _) = A ++ B ∧ _
  rw [List.nil_append]
  by_cases hc : d.ds.length ≤ d.sc
  · rw [if_pos hc]
    refine ⟨[48], 46 :: (List.replicate (d.sc - d.ds.length) 48 ++ d.ds), by simp, fun c hc => by rw [List.mem_singleton.1 hc]; decide, by decide, .inr ⟨_, rfl, fun c hm => ?_, by rw [List.length_append]; omega⟩⟩
    rcases List.mem_append.1 hm with hm | hm
    · rw [(List.mem_replicate.1 hm).2]; decide
    · exact hall c hm
  · rw [if_neg hc]
    refine ⟨d.ds.take (d.ds.length - d.sc), if 0 < d.sc then 46 :: d.ds.drop (d.ds.length - d.sc) else [], rfl, fun c hm => hall c (List.mem_of_mem_take hm), by rw [List.length_take]; omega, ?_⟩
    by_cases hs : 0 < d.sc
    · rw [if_pos hs]
      exact .inr ⟨_, rfl, fun c hm => hall c (List.mem_of_mem_drop hm), by rw [List.length_drop]; omega⟩
    · rw [if_neg hs]; exact .inl rfl
theorem read_num {d : Dm.D} {r : Tx} (h : Dm.May d) (hn : d.ng = false) (hr : ends r) : readO (Dm.printL d ++ r) = some (⟨4, [], d.ng, d.ds, d.sc⟩, (Dm.printL d).length) := by
  obtain ⟨A, B, e, hA, h1, hB⟩ := print_form h hn
  have hlen : num3 (Dm.printL d ++ r) = (Dm.printL d).length := by
    rw [e]
    rcases hB with rfl | ⟨C, rfl, hC, h2⟩
    · rw [List.append_nil]; exact num3_whole hA h1 hr
    · rw [List.append_assoc, List.cons_append, num3_dot hA hC h2 hr, List.length_append, List.length_cons]; omega
  have hnum : numO (Dm.printL d ++ r) = some (⟨4, [], d.ng, d.ds, d.sc⟩, (Dm.printL d).length) := by
    unfold numO
    rw [hlen, take_all, Dm.parse_print h]
  have hh : ∃ c : UInt8, (Dm.printL d ++ r).getD 0 0 = c ∧ Dm.isD c = true := by
    rw [e]
    cases A with
    | nil => simp at h1
    | cons c t => exact ⟨c, rfl, hA c (by simp)⟩
  obtain ⟨c, hc, hd⟩ := hh
  have hcc : 48 ≤ c.toNat ∧ c.toNat ≤ 57 := by unfold Dm.isD at hd; exact of_decide_eq_true hd
  refine read_at (k := 3) (by decide) (fun j hj => ?_) hnum
  rcases (show j = 0 ∨ j = 1 ∨ j = 2 by omega) with rfl | rfl | rfl
  · show namedO 1 [] _ = none
    unfold namedO
    rw [if_neg]
    rintro ⟨-, h2⟩
    have h3 : Cm.nameB ((Dm.printL d ++ r).take (runN inNames (Dm.printL d ++ r))) = true := h2
    have h4 := name_let h3
    rw [take_getD _ _ (name_head2 (k := 0) h3), hc] at h4
    unfold Cm.letB at h4
    simp only [Bool.and_eq_true, decide_eq_true_eq] at h4
    omega
  · exact named_no 2 (pre := [36]) rfl (.inl (by rw [hc]; intro e; rw [e] at hcc; exact absurd hcc.1 (by decide)))
  · show keyO _ = none
    have hne : (Dm.printL d ++ r).getD 0 0 ≠ 46 := by rw [hc]; intro e; rw [e] at hcc; exact absurd hcc.1 (by decide)
    unfold keyO
    rw [named_no 3 (pre := [46]) rfl (.inl hne)]
    show quotedO 3 [46] _ = none
    unfold quotedO
    rw [if_neg]
    rintro ⟨h1, -⟩
    exact hne (head_pre h1)
/-- What is printed of a token, with a blank or nothing behind it, is read as it. -/
theorem read_back {t : Tk} (h : tkGood t) {r : Tx} (hr : ends r) : readO (prT t ++ r) = some (t, (prT t).length) ∧ trimB (prT t ++ r) = prT t ++ r ∧ prT t ++ r ≠ [] := by
  obtain ⟨k, tx, ng, dg, sc⟩ := t
  rcases h with ⟨e1, h1, e2, e3, e4⟩ | ⟨e1, h1, e2, e3, e4⟩ | ⟨e1, h1, h2, e2, e3, e4⟩ | ⟨e1, e0, e2, h1⟩ | ⟨e1, h1, h2, e2, e3, e4⟩ | ⟨e1, h1, e2, e3, e4⟩
  · dsimp only at e1 e2 e3 e4 h1
    subst e1 e2 e3 e4
    obtain ⟨c, u, e, hc⟩ := name_cons h1
    show readO (tx ++ r) = _ ∧ _
    refine ⟨read_at (k := 0) (by decide) (fun j hj => absurd hj (Nat.not_lt_zero _)) ?_, ?_, ?_⟩
    · show namedO 1 [] (tx ++ r) = some (_, tx.length)
      have := named_yes 1 (pre := []) h1 (ends_in hr)
      simpa using this
    · show trimB (tx ++ r) = tx ++ r
      rw [e]; exact trimB_id (let_not c hc).1
    · show tx ++ r ≠ []
      rw [e]; simp
  · dsimp only at e1 e2 e3 e4 h1
    subst e1 e2 e3 e4
    show readO (36 :: (tx ++ r)) = _ ∧ trimB (36 :: (tx ++ r)) = 36 :: (tx ++ r) ∧ 36 :: (tx ++ r) ≠ []
    refine ⟨?_, trimB_id (by decide), by simp⟩
    have h0 : rdr 0 (36 :: (tx ++ r)) = none := named_none 1 (.inl (show inNames.contains (36 : UInt8) = false by decide +kernel))
    have := read_at (k := 1) (by decide) (fun j hj => by
      obtain rfl : j = 0 := by omega
      exact h0) (named_yes 2 (pre := [36]) h1 (ends_in hr))
    rw [show (36 :: (tx ++ r)) = [36] ++ (tx ++ r) from rfl, this]
    show some (_, 1 + tx.length) = some (_, tx.length + 1)
    rw [Nat.add_comm]
  · dsimp only at e1 e2 e3 e4 h1 h2
    subst e1 e2 e3 e4
    show readO (46 :: (Qm.quoteL tx ++ r)) = _ ∧ trimB (46 :: (Qm.quoteL tx ++ r)) = 46 :: (Qm.quoteL tx ++ r) ∧ 46 :: (Qm.quoteL tx ++ r) ≠ []
    refine ⟨?_, trimB_id (by decide), by simp⟩
    rw [read_key h1 h2]
    show some (_, 1 + (Qm.quoteL tx).length) = some (_, (Qm.quoteL tx).length + 1)
    rw [Nat.add_comm]
  · dsimp only at e1 e0 e2 h1
    subst e1 e0
    show readO (Dm.printL ⟨ng, dg, sc⟩ ++ r) = _ ∧ trimB (Dm.printL ⟨ng, dg, sc⟩ ++ r) = Dm.printL ⟨ng, dg, sc⟩ ++ r ∧ Dm.printL ⟨ng, dg, sc⟩ ++ r ≠ []
    obtain ⟨A, B, e, hA, h9, hB⟩ := print_form h1 e2
    refine ⟨read_num h1 e2 hr, ?_, ?_⟩
    · rw [e]
      cases A with
      | nil => simp at h9
      | cons c u =>
        have hc : Dm.isD c = true := hA c (by simp)
        exact trimB_id (dig_blank c hc)
    · rw [e]
      cases A with
      | nil => simp at h9
      | cons c u => simp
  · dsimp only at e1 e2 e3 e4 h1 h2
    subst e1 e2 e3 e4
    show readO (Qm.quoteL tx ++ r) = _ ∧ trimB (Qm.quoteL tx ++ r) = Qm.quoteL tx ++ r ∧ Qm.quoteL tx ++ r ≠ []
    exact ⟨read_text h1 h2, trimB_id (c := 34) (by decide), by simp [Qm.quoteL]⟩
  · dsimp only at e1 e2 e3 e4 h1
    subst e1 e2 e3 e4
    show readO (tx ++ r) = _ ∧ trimB (tx ++ r) = tx ++ r ∧ tx ++ r ≠ []
    obtain ⟨f1, f2, f3, f4, f5, f6, f7, f8, f9⟩ := sign_facts tx h1
    refine ⟨read_sign h1 hr, ?_, ?_⟩
    · cases tx with
      | nil => exact absurd rfl f9
      | cons c u => exact trimB_id f7
    · cases tx with
      | nil => exact absurd rfl f9
      | cons c u => simp
/-- Tokens' texts, a blank between two. -/
def prL10 : List Tk → Tx
  | [] => []
  | [t] => prT t
  | t :: r => prT t ++ 32 :: prL10 r
theorem prL10_cons (t u : Tk) (r : List Tk) : prL10 (t :: u :: r) = prT t ++ 32 :: prL10 (u :: r) := rfl
theorem lex_tail {r : Tx} (hr : ∀ c ∈ r, blanks.contains c = true) : lexO r = some [] := by
  induction r with
  | nil => exact lex_nil
  | cons c t ih =>
    rw [lex_blank (hr c (by simp))]
    exact ih (fun d hd => hr d (by simp [hd]))
theorem lex_print : ∀ (L : List Tk), (∀ t ∈ L, tkGood t) → ∀ r : Tx, ends r → (∀ c ∈ r, blanks.contains c = true) → ∃ T, lexO (prL10 L ++ r) = some T ∧ T.map Prod.fst = L
  | [], _, r, _, hb => ⟨[], lex_tail hb, rfl⟩
  | [t], h, r, hr, hb => by
    obtain ⟨h1, h2, h3⟩ := read_back (h t (by simp)) hr
    have := lex_one h2 h3 h1 (r := r) List.drop_left
    rw [lex_tail hb] at this
    exact ⟨_, this, rfl⟩
  | t :: u :: L, h, r, hr, hb => by
    obtain ⟨T, hT, hm⟩ := lex_print (u :: L) (fun x hx => h x (by simp [hx])) r hr hb
    have e : prL10 (t :: u :: L) ++ r = prT t ++ (32 :: (prL10 (u :: L) ++ r)) := by rw [prL10_cons, List.append_assoc, List.cons_append]
    have hr2 : ends (32 :: (prL10 (u :: L) ++ r)) := .inr (.inl rfl)
    obtain ⟨h1, h2, h3⟩ := read_back (h t (by simp)) hr2
    have := lex_one h2 h3 h1 (r := 32 :: (prL10 (u :: L) ++ r)) List.drop_left
    rw [lex_blank (by decide), hT] at this
    rw [e]
    exact ⟨_, this, by rw [List.map_cons, hm]⟩
theorem lex_count : ∀ (N : Nat) (l : Tx), l.length ≤ N → ∀ T, lexO l = some T → T.length ≤ l.length
  | N, l, hN, T, hT => by
    by_cases ht : trimB l = []
    · rw [lex_end ht] at hT
      obtain rfl := Option.some.inj hT
      exact Nat.zero_le _
    · cases hr : readO (trimB l) with
      | none => rw [lex_wrong ht hr] at hT; cases hT
      | some x =>
        rw [lex_next ht hr] at hT
        obtain ⟨T2, h2, rfl⟩ := Option.map_eq_some_iff.1 hT
        have hs := read_size hr
        have hle : (trimB l).length ≤ l.length := trim_le l blanks
        have hd : ((trimB l).drop x.2).length = (trimB l).length - x.2 := List.length_drop
        cases N with
        | zero => omega
        | succ N =>
          have := lex_count N ((trimB l).drop x.2) (by omega) T2 h2
          rw [List.length_cons]
          omega
/-- Tokens that were printed, alone, and with blanks around. -/
theorem lex_back {L : List Tk} (h : ∀ t ∈ L, tkGood t) : (∃ T, lexO (prL10 L) = some T ∧ T.map Prod.fst = L) ∧ (∃ T, lexO ([32, 10] ++ prL10 L ++ [9, 32]) = some T ∧ T.map Prod.fst = L) := by
  constructor
  · have := lex_print L h [] (.inl rfl) (fun c hc => by cases hc)
    rw [List.append_nil] at this
    exact this
  · obtain ⟨T, h1, h2⟩ := lex_print L h [9, 32] (.inr (.inr rfl)) (by decide)
    refine ⟨T, ?_, h2⟩
    rw [List.append_assoc]
    show lexO (32 :: 10 :: (prL10 L ++ [9, 32])) = _
    rw [lex_blank (by decide), lex_blank (by decide)]
    exact h1
theorem prT_ne {t : Tk} (h : tkGood t) : prT t ≠ [] := by
  have := (read_back h (r := []) (.inl rfl)).2.2
  rw [List.append_nil] at this
  exact this
end Go.Proofs.YtppkknmgdahniabDoor.Lx
