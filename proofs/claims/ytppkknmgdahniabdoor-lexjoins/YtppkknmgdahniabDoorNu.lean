/- What is proved here: LexBack, walked; conditions: the tables of unicode/utf8 and of signs lie. -/
import Derived.Test.YtppkknmgdahniabDoorNs
namespace Go.Proofs.YtppkknmgdahniabDoor.Lex
set_option maxRecDepth 100000
open Go.RowKit Go.Joins Go.Proofs.YtppkknmgdahniabDoor.Nc Go.Proofs.YtppkknmgdahniabDoor.Nq
set_option maxRecDepth 100000
set_option linter.unusedVariables false
set_option linter.unusedSimpArgs false

theorem tok_nil (w : World) (N : Nat) : TokIn w (.slice none 0 0) N [] := World.ownsRow_nil _ _ _ _
set_option maxHeartbeats 8000000 in
/-- Behind the first reading: the text's tokens are T. -/
theorem back_in (s : ByteArray) (T : List (Lx.Tk × Nat)) (hs6 : s.size ≤ 600) (hlx : Lx.lexO s.data.toList = some T) (w : World) (hs0 : s.size ≤ maxLen) (hT : Tabs w) (hS : Sg w) :
    ∃ (p : ByteArray) (m n f g : Int) (one two : Bool) (TM TN : List (Lx.Tk × Nat)) (qsz : Nat), p.size ≤ 16000000 ∧
      (∀ W V, TokIn W V s.size T → Calls Tryd.prog 9 #[V] W fun e w' => e = .returned (.string p) ∧ Below W.heap.size W w') ∧
      (∀ W, Below w.heap.size w W → Calls Tryd.prog 8 #[.string p] W fun e w' => ∃ V, e = .returned (.tuple #[V, .int .i64 f]) ∧ TokIn w' V p.size TM ∧ Below W.heap.size W w') ∧
      (∀ W, Below w.heap.size w W → Calls Tryd.prog 8 #[.string ((⟨#[32, 10]⟩ ++ p) ++ ⟨#[9, 32]⟩)] W fun e w' => ∃ V, e = .returned (.tuple #[V, .int .i64 g]) ∧ TokIn w' V qsz TN ∧ Below W.heap.size W w') ∧
      (∀ W V V', TokIn W V s.size T → TokIn W V' p.size TM → Calls Tryd.prog 10 #[V, V'] W fun e w' => e = .returned (.bool one) ∧ Below W.heap.size W w') ∧
      (∀ W V V', TokIn W V s.size T → TokIn W V' qsz TN → Calls Tryd.prog 10 #[V, V'] W fun e w' => e = .returned (.bool two) ∧ Below W.heap.size W w') ∧
      (2000 < p.size → f = 3) ∧ (p.size ≤ 2000 → f = 0 ∧ one = true) ∧ (p.size ≤ 1996 → g = 0 ∧ two = true) := by
  have hgd := Lx.lex_good _ s.data.toList (Nat.le_refl _) T hlx
  have hcnt := Lx.lex_count _ s.data.toList (Nat.le_refl _) T hlx
  rw [lsize] at hcnt
  have hgl : ∀ t ∈ T.map Prod.fst, Lx.tkGood t := fun t ht => by
    obtain ⟨y, hy, rfl⟩ := List.mem_map.1 ht
    exact hgd y hy
  obtain ⟨p, hp⟩ := ex_txt (Lx.prL10 (T.map Prod.fst))
  have hpl : p.size ≤ 16000000 := by
    have h1 := prL10_len _ hgl
    rw [hp, lsize, List.length_map] at h1
    have h2 := Nat.mul_le_mul_right 25001 (show T.length ≤ 600 by omega)
    omega
  have hne : 1996 < p.size → T.length ≠ ([] : List (Lx.Tk × Nat)).length := fun h1 h2 => by
    have : T = [] := List.eq_nil_of_length_eq_zero h2
    subst this
    have h3 : p.data.toList = [] := hp.symm
    have := congrArg List.length h3
    rw [lsize] at this
    simp only [List.length_nil] at this
    omega
  have hqs : ((⟨#[32, 10]⟩ ++ p) ++ ⟨#[9, 32]⟩ : ByteArray).size = p.size + 4 := by
    rw [ByteArray.size_append, ByteArray.size_append]
    show 2 + p.size + 2 = _
    omega
  have hql : ((⟨#[32, 10]⟩ ++ p) ++ ⟨#[9, 32]⟩ : ByteArray).data.toList = [32, 10] ++ p.data.toList ++ [9, 32] := by rw [dapp, dapp]
  obtain ⟨⟨T1, h1, hm1⟩, ⟨T2, h2, hm2⟩⟩ := Lx.lex_back hgl
  rw [hp] at h1 h2
  rw [← hql] at h2
  have hl1 : T1.length = T.length := by have := congrArg List.length hm1; simpa using this
  have hl2 : T2.length = T.length := by have := congrArg List.length hm2; simpa using this
  have CP : ∀ W V, TokIn W V s.size T → Calls Tryd.prog 9 #[V] W fun e w' => e = .returned (.string p) ∧ Below W.heap.size W w' := fun W V h => print10_any T hgd (by omega) V s.size p hp W h
  have big : ∀ (x : ByteArray), 2000 < x.size → x.size ≤ 20000000 → ∀ W, Below w.heap.size w W → Calls Tryd.prog 8 #[.string x] W fun e w' => ∃ V, e = .returned (.tuple #[V, .int .i64 3]) ∧ TokIn w' V x.size [] ∧ Below W.heap.size W w' := fun x h1 h2 W _ => by
    refine (all_big x h1 (by omega) W).mono ?_
    rintro e w' ⟨rfl, rfl⟩
    exact ⟨_, rfl, tok_nil _ _, Below.refl _ _⟩
  have small : ∀ (x : ByteArray) (T' : List (Lx.Tk × Nat)), x.size ≤ 2000 → Lx.lexO x.data.toList = some T' → T'.length ≤ 600 → ∀ W, Below w.heap.size w W → Calls Tryd.prog 8 #[.string x] W fun e w' => ∃ V, e = .returned (.tuple #[V, .int .i64 0]) ∧ TokIn w' V x.size T' ∧ Below W.heap.size W w' := fun x T' h1 h2 h3 W hW => by
    obtain ⟨e1, e2⟩ := err_some (l := x.data.toList) (by rw [lsize]; omega) h2 h3
    have := all_any x (by omega) W (Nq.Tabs.step hT hW) (Sg.below hS hW)
    rw [e1, e2] at this
    exact this
  have no : ∀ (q : Nat), 1996 < p.size → ∀ W V V', TokIn W V s.size T → TokIn W V' q [] → Calls Tryd.prog 10 #[V, V'] W fun e w' => e = .returned (.bool false) ∧ Below W.heap.size W w' := fun q h W V V' a b => same10_no T [] V V' _ _ W a b (hne h)
  have yes : ∀ (q : Nat) (T' : List (Lx.Tk × Nat)), T'.map Prod.fst = T.map Prod.fst → ∀ W V V', TokIn W V s.size T → TokIn W V' q T' → Calls Tryd.prog 10 #[V, V'] W fun e w' => e = .returned (.bool true) ∧ Below W.heap.size W w' := fun q T' h W V V' a b => same10_yes T T' V V' _ _ W a b h.symm (by omega)
  by_cases c1 : 2000 < p.size
  · exact ⟨p, 0, 0, 3, 3, false, false, [], [], _, hpl, CP, big p c1 (by omega), big _ (by rw [hqs]; omega) (by rw [hqs]; omega), no _ (by omega), no _ (by omega), fun _ => rfl, fun h => absurd h (by omega), fun h => absurd h (by omega)⟩
  · by_cases c2 : 1996 < p.size
    · exact ⟨p, 0, 0, 0, 3, true, false, T1, [], _, hpl, CP, small p T1 (by omega) h1 (by omega), big _ (by rw [hqs]; omega) (by rw [hqs]; omega), yes _ T1 hm1, no _ c2, fun h => absurd h c1, fun _ => ⟨rfl, rfl⟩, fun h => absurd h (by omega)⟩
    · exact ⟨p, 0, 0, 0, 0, true, true, T1, T2, _, hpl, CP, small p T1 (by omega) h1 (by omega), small _ T2 (by rw [hqs]; omega) h2 (by omega), yes _ T1 hm1, yes _ T2 hm2, fun h => absurd h c1, fun _ => ⟨rfl, rfl⟩, fun _ => ⟨rfl, rfl⟩⟩
end Go.Proofs.YtppkknmgdahniabDoor.Lex
