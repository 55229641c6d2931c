/- What is proved here: plain facts on a filter's tokens: where each stands, and what it is; conditions: as each theorem states. It imports nothing of any program. -/
import Derived.Test.YtppkknmgdahniabDoorNa
namespace Go.Proofs.YtppkknmgdahniabDoor.Lx
set_option maxRecDepth 100000
set_option maxRecDepth 100000
set_option linter.unusedVariables false
set_option linter.unusedSimpArgs false

theorem head_pre {l : Tx} {c : UInt8} {p : Tx} (h : Lib.hasPrefix l (c :: p) = true) : l.getD 0 0 = c := by
  have := pre_split h
  rw [this]; rfl
theorem parseU_ng {u : Tx} {d : Dm.D} (h : Dm.parseU false u = some (some d)) : d.ng = false ∧ Dm.isD (u.getD 0 0) = true := by
  have hf : ∀ {L : Tx} {sc : Int} {d : Dm.D}, Dm.fitL false L sc = some d → d.ng = false := by
    intro L sc d h
    unfold Dm.fitL at h
    split at h
    · rw [← Option.some.inj h]
    · split at h
      · cases h
      · rw [← Option.some.inj h]
  unfold Dm.parseU at h
  split at h
  · cases h
  · rename_i hn
    have hd : Dm.isD (u.getD 0 0) = true := by
      cases u with
      | nil => exact absurd (.inl rfl) hn
      | cons c t =>
        cases hc : Dm.isD c with
        | true => exact hc
        | false => exact absurd (.inl (by simp [List.takeWhile_cons, hc])) hn
    refine ⟨?_, hd⟩
    split at h
    · split at h
      · cases h
      · obtain ⟨t, -, ht⟩ := Option.map_eq_some_iff.1 h
        exact hf ht
    · obtain ⟨t, -, ht⟩ := Option.map_eq_some_iff.1 h
      exact hf ht
theorem headD_getD (l : Tx) : l.headD 0 = l.getD 0 0 := by cases l <;> rfl
/-- What a token is, by the byte that it begins with. -/
def tkOk (c : UInt8) (t : Tk) : Prop :=
  (t.k = 1 ∧ 1 ≤ t.tx.length ∧ t.tx.getD 0 0 = c ∧ t.tx.length ≤ 24) ∨ (t.k = 2 ∧ c = 36 ∧ 1 ≤ t.tx.length) ∨ (t.k = 3 ∧ c = 46) ∨
  (t.k = 4 ∧ 48 ≤ c.toNat ∧ c.toNat ≤ 57 ∧ t.tx = [] ∧ t.ng = false) ∨ (t.k = 5 ∧ c = 34) ∨ (t.k = 6 ∧ 1 ≤ t.tx.length ∧ t.tx.length ≤ 2 ∧ t.tx.getD 0 0 = c)
theorem take_getD (l : Tx) (n : Nat) (h : 1 ≤ n) : (l.take n).getD 0 0 = l.getD 0 0 := by
  cases l with
  | nil => simp
  | cons c t =>
    cases n with
    | zero => omega
    | succ n => rfl
theorem digs_isD (c : UInt8) : digs.contains c = Dm.isD c := by
  have h : ∀ n : Fin 256, digs.contains (UInt8.ofNat n.val) = Dm.isD (UInt8.ofNat n.val) := by decide +kernel
  have := h ⟨c.toNat, c.toNat_lt⟩
  simpa using this
theorem run_head {cs l : Tx} (h : 0 < runN cs l) : cs.contains (l.getD 0 0) = true := by
  rw [← run_len] at h
  cases l with
  | nil => simp at h
  | cons c t =>
    cases hc : cs.contains c with
    | true => exact hc
    | false => rw [List.takeWhile_cons, hc] at h; simp at h
theorem part_head {l : Tx} : ∀ {bs : List Tx}, 0 < partN l bs → ∃ b ∈ bs, Lib.hasPrefix l b = true ∧ 0 < runN digs (l.drop b.length)
  | [], h => absurd h (Nat.lt_irrefl _)
  | b :: bs, h => by
    unfold partN at h
    split at h
    · rename_i hc; exact ⟨b, by simp, hc⟩
    · obtain ⟨b2, h2, h3⟩ := part_head h
      exact ⟨b2, by simp [h2], h3⟩
theorem num_head {l : Tx} {d : Dm.D} (h : Dm.parseL (l.take (num3 l)) = some (some d)) : 48 ≤ (l.getD 0 0).toNat ∧ (l.getD 0 0).toNat ≤ 57 ∧ d.ng = false := by
  have hpos : 1 ≤ num3 l := (num_size (x := (⟨4, [], d.ng, d.ds, d.sc⟩, num3 l)) (by unfold numO; rw [h])).1
  have key : (l.getD 0 0 ≠ 45) → 48 ≤ (l.getD 0 0).toNat ∧ (l.getD 0 0).toNat ≤ 57 ∧ d.ng = false := by
    intro hne
    unfold Dm.parseL at h
    rw [headD_getD, take_getD _ _ hpos, if_neg hne] at h
    obtain ⟨h1, h2⟩ := parseU_ng h
    rw [take_getD _ _ hpos] at h2
    unfold Dm.isD at h2
    have h3 := of_decide_eq_true h2
    exact ⟨h3.1, h3.2, h1⟩
  apply key
  intro e
  have hnd : Dm.isD (l.getD 0 0) = false := by rw [e]; decide
  have h1 : num1 l = 0 := by
    rcases Nat.eq_zero_or_pos (num1 l) with z | z
    · exact z
    · obtain ⟨b, hb, h2, h3⟩ := part_head z
      have : b = [] := by simpa using hb
      subst this
      have := run_head h3
      rw [digs_isD] at this
      rw [show l.drop ([] : Tx).length = l from rfl, hnd] at this
      cases this
  have h2 : num2 l = 0 := by
    unfold num2
    rw [h1, Nat.zero_add]
    rcases Nat.eq_zero_or_pos (partN (l.drop 0) [[46]]) with z | z
    · exact z
    · obtain ⟨b, hb, h2, h3⟩ := part_head z
      have : b = [46] := by simpa using hb
      subst this
      have := head_pre h2
      rw [List.drop_zero, e] at this
      exact absurd this (by decide)
  have h3 : num3 l = 0 := by
    unfold num3
    rw [h2, Nat.zero_add]
    rcases Nat.eq_zero_or_pos (partN (l.drop 0) exps) with z | z
    · exact z
    · obtain ⟨b, hb, h2, h3⟩ := part_head z
      have hh : ∃ c p, b = c :: p ∧ c ≠ 45 := by
        have : ∀ b ∈ exps, ∃ c p, b = c :: p ∧ c ≠ 45 := by
          intro b hb
          simp only [exps, List.mem_cons, List.not_mem_nil, or_false] at hb
          rcases hb with rfl | rfl | rfl | rfl | rfl | rfl <;> exact ⟨_, _, rfl, by decide⟩
        exact this b hb
      obtain ⟨c, p, rfl, hc⟩ := hh
      have := head_pre h2
      rw [List.drop_zero, e] at this
      exact absurd this.symm hc
  omega
theorem name_head2 {k : Nat} {l : Tx} (h : Cm.nameB (l.take (runN inNames l)) = true) : 1 ≤ runN inNames l := by
  have := (name_len h).1
  rw [List.length_take] at this
  omega
theorem rdr_ok {l : Tx} {x : Tk × Nat} : ∀ {k : Nat}, rdr k l = some x → tkOk (l.getD 0 0) x.1 ∧ (x.1.k ≠ 4 → x.1.ng = false ∧ x.1.dg = [] ∧ x.1.sc = 0)
  | 0, h => by
    obtain ⟨h1, h2, rfl⟩ := named_some h
    have h3 := name_len h2
    have h4 : (l.drop ([] : Tx).length) = l := rfl
    rw [h4] at h2 h3
    refine ⟨.inl ⟨rfl, h3.1, ?_, h3.2⟩, fun _ => ⟨rfl, rfl, rfl⟩⟩
    show (l.take (runN inNames l)).getD 0 0 = l.getD 0 0
    exact take_getD _ _ (name_head2 (k := 0) h2)
  | 1, h => by
    obtain ⟨h1, h2, rfl⟩ := named_some h
    exact ⟨.inr (.inl ⟨rfl, head_pre h1, (name_len h2).1⟩), fun _ => ⟨rfl, rfl, rfl⟩⟩
  | 2, h => by
    change keyO l = some x at h
    unfold keyO at h
    split at h
    · rename_i y hy
      obtain rfl := Option.some.inj h
      obtain ⟨h1, h2, rfl⟩ := named_some hy
      exact ⟨.inr (.inr (.inl ⟨rfl, head_pre h1⟩)), fun _ => ⟨rfl, rfl, rfl⟩⟩
    · obtain ⟨h1, h2, rfl⟩ := quoted_some h
      exact ⟨.inr (.inr (.inl ⟨rfl, head_pre h1⟩)), fun _ => ⟨rfl, rfl, rfl⟩⟩
  | 3, h => by
    obtain ⟨d, hd, rfl⟩ := num_some h
    obtain ⟨a, b, c⟩ := num_head hd
    exact ⟨.inr (.inr (.inr (.inl ⟨rfl, a, b, rfl, c⟩))), fun h => absurd rfl h⟩
  | 4, h => by
    obtain ⟨h1, h2, rfl⟩ := quoted_some h
    refine ⟨.inr (.inr (.inr (.inr (.inl ⟨rfl, ?_⟩)))), fun _ => ⟨rfl, rfl, rfl⟩⟩
    change (Qm.unquoteL l).2.2 = 0 at h2
    unfold Qm.unquoteL at h2
    split at h2
    · assumption
    · cases h2
  | _ + 5, h => by
    obtain ⟨g, h1, h2, rfl⟩ := sign_some h
    have h3 := signs_len g h1
    refine ⟨.inr (.inr (.inr (.inr (.inr ⟨rfl, h3.1, h3.2, ?_⟩)))), fun _ => ⟨rfl, rfl, rfl⟩⟩
    show g.getD 0 0 = l.getD 0 0
    cases g with
    | nil => simp at h3
    | cons c p => exact (head_pre h2).symm
theorem read_ok {l : Tx} {x : Tk × Nat} (h : readO l = some x) : tkOk (l.getD 0 0) x.1 ∧ (x.1.k ≠ 4 → x.1.ng = false ∧ x.1.dg = [] ∧ x.1.sc = 0) := by
  obtain ⟨k, -, -, hk⟩ := read_cases h
  exact rdr_ok hk
theorem trimB_drop (l : Tx) : trimB l = l.drop (l.length - (trimB l).length) := by
  have h := trim_drop l blanks
  have h2 := run_le blanks l
  have h3 := congrArg List.length h
  rw [List.length_drop] at h3
  unfold trimB
  rw [h3, show l.length - (l.length - runN blanks l) = runN blanks l by omega]
  exact h
/-- Where the tokens stand. -/
theorem lex_spec : ∀ (N : Nat) (l : Tx), l.length ≤ N → ∀ T, lexO l = some T → ∀ i, ∀ h : i < T.length,
    1 ≤ (T[i]'h).2 ∧ (T[i]'h).2 ≤ l.length ∧ (∃ n, readO (l.drop (l.length - (T[i]'h).2)) = some ((T[i]'h).1, n)) ∧ (∀ h2 : i + 1 < T.length, (T[i + 1]'h2).2 < (T[i]'h).2)
  | N, l, hN, T, hT, i, hi => by
    by_cases ht : trimB l = []
    · rw [lex_end ht] at hT
      obtain rfl := Option.some.inj hT
      exact absurd hi (Nat.not_lt_zero _)
    · cases hr : readO (trimB l) with
      | none => rw [lex_wrong ht hr] at hT; cases hT
      | some x =>
        rw [lex_next ht hr] at hT
        obtain ⟨T2, h2, rfl⟩ := Option.map_eq_some_iff.1 hT
        have hs := read_size hr
        have hle : (trimB l).length ≤ l.length := trim_le l blanks
        have hd : ((trimB l).drop x.2).length = (trimB l).length - x.2 := List.length_drop
        have hpos : 1 ≤ (trimB l).length := by omega
        cases N with
        | zero => omega
        | succ N =>
          have IH := lex_spec N ((trimB l).drop x.2) (by omega) T2 h2
          cases i with
          | zero =>
            refine ⟨hpos, hle, ⟨x.2, ?_⟩, fun h3 => ?_⟩
            · show readO (l.drop (l.length - (trimB l).length)) = some (x.1, x.2)
              rw [← trimB_drop]; exact hr
            · have h4 : 0 < T2.length := by simpa using h3
              have := (IH 0 h4).2.1
              show (T2[0]'h4).2 < (trimB l).length
              omega
          | succ i =>
            have h4 : i < T2.length := by simpa using hi
            obtain ⟨a, b, ⟨n, c⟩, d⟩ := IH i h4
            refine ⟨a, by show (T2[i]'h4).2 ≤ l.length; omega, ⟨n, ?_⟩, fun h3 => d (by simpa using h3)⟩
            show readO (l.drop (l.length - (T2[i]'h4).2)) = some ((T2[i]'h4).1, n)
            rw [← c]
            congr 1
            conv => rhs; rw [trimB_drop l, List.drop_drop, List.drop_drop]
            congr 1
            rw [← trimB_drop l, hd] 
            omega
end Go.Proofs.YtppkknmgdahniabDoor.Lx
