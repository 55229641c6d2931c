/- What is proved here: Same of the document's own answer of layer 10, of rows of the same tokens and of rows of unlike lengths, walked; conditions: the rows lie. Written by same10_gen.py. -/
import Derived.Test.YtppkknmgdahniabDoorNj
import Derived.Deep.RegionHeld3
namespace Go.Proofs.YtppkknmgdahniabDoor.Lex
set_option maxRecDepth 100000
open Go.RowKit Go.Proofs.YtppkknmgdahniabDoor.Nc Go.Proofs.YtppkknmgdahniabDoor.Nq
set_option maxRecDepth 100000
set_option linter.unusedVariables false
set_option linter.unusedSimpArgs false

theorem sbne (u : ByteArray) : (u.toList != u.toList) = false := bne_self_eq_false _
theorem same10_no (T T' : List (Lx.Tk × Nat)) (V V' : Value) (N N' : Nat) (w : World) (h : TokIn w V N T) (h' : TokIn w V' N' T') (hne : T.length ≠ T'.length) :
    Calls Tryd.prog 10 #[V, V'] w fun e w' => e = .returned (.bool false) ∧ Below w.heap.size w w' := by
  obtain ⟨a, c, rfl⟩ := h.shape
  obtain ⟨a', c', rfl⟩ := h'.shape
  have e1 : ¬ (T.length : Int) = (T'.length : Int) := by omega
  clear h h' hne
  go_enter Tryd.func10, Tryd.ntmps10
  go_wp2_with fail
  go_ret
  exact ⟨rfl, Below.refl _ _⟩
set_option maxHeartbeats 4000000 in
theorem same10_yes (T T' : List (Lx.Tk × Nat)) (V V' : Value) (N N' : Nat) (w : World) (h : TokIn w V N T) (h' : TokIn w V' N' T') (he : T.map Prod.fst = T'.map Prod.fst) (h6 : T.length ≤ 100000) :
    Calls Tryd.prog 10 #[V, V'] w fun e w' => e = .returned (.bool true) ∧ Below w.heap.size w w' := by
  obtain ⟨a, c, rfl⟩ := h.shape
  obtain ⟨a', c', rfl⟩ := h'.shape
  have hl : T.length = T'.length := by have := congrArg List.length he; simpa using this
  obtain ⟨n, hn⟩ : ∃ n, T.length = n := ⟨_, rfl⟩
  have hn' : T'.length = n := by omega
  have HH := lhide h
  have HH' := lhide h'
  have HE := lhide he
  have HN := lhide (And.intro hn hn')
  rw [hn, hn']
  rw [hn] at h6
  clear h h' he hl hn hn'
  go_enter Tryd.func10, Tryd.ntmps10
  go_wp2_with fail
  go_loopw [5] (fun I wr => ∃ k : Nat, I = .int .i64 (k : Int) ∧ k ≤ n ∧ Below w.heap.size w wr) (fun I _ => n - (intOf I).toNat)
  case atStart => exact ⟨0, rfl, Nat.zero_le _, Below.refl _ _⟩
  case round =>
    obtain ⟨k, rfl, hk9, hB⟩ := hrel
    by_cases hlt : k < n
    · obtain ⟨hn, hn'⟩ := lunhide HN
      have hk1 : k < T.length := by omega
      have hk2 : k < T'.length := by omega
      obtain ⟨g, e1, -, hg, c0, -, c2, c3, c4, c5⟩ := tok_at (lunhide HH) k hk1
      obtain ⟨g2, e2, -, hg2, d0, -, d2, d3, d4, d5⟩ := tok_at (lunhide HH') k hk2
      have he : (T'[k]'hk2).1 = (T[k]'hk1).1 := by
        have := congrArg (fun l : List Lx.Tk => l[k]?) (lunhide HE)
        simp only [List.getElem?_map, List.getElem?_eq_getElem hk1, List.getElem?_eq_getElem hk2, Option.map_some, Option.some.injEq] at this
        exact this.symm
      rw [he] at d0 d2 d3 d4 d5
      obtain ⟨⟨tk, tx, ng, dg, sc⟩, ht⟩ : ∃ x, (T[k]'hk1).1 = x := ⟨_, rfl⟩
      rw [ht] at c0 c2 c3 c4 c5 d0 d2 d3 d4 d5
      dsimp only at c0 c2 c3 c4 c5 d0 d2 d3 d4 d5
      obtain ⟨x, hx⟩ := ex_txt tx
      obtain ⟨y, hy⟩ := ex_txt dg
      subst hx hy
      rw [mk_of] at c2 c4 d2 d4
      have HS : Hid (∀ W, Below wr.heap.size wr W → (W.cell? ⟨g, k * 6, none⟩ = some (.int .i64 (tk : Int)) ∧ W.cell? ⟨g, k * 6 + 2, none⟩ = some (.string x) ∧ W.cell? ⟨g, k * 6 + 3, none⟩ = some (.bool ng) ∧ W.cell? ⟨g, k * 6 + 4, none⟩ = some (.string y) ∧ W.cell? ⟨g, k * 6 + 5, none⟩ = some (.int .i64 (sc : Int)) ∧ W.cell? ⟨g2, k * 6, none⟩ = some (.int .i64 (tk : Int)) ∧ W.cell? ⟨g2, k * 6 + 2, none⟩ = some (.string x) ∧ W.cell? ⟨g2, k * 6 + 3, none⟩ = some (.bool ng) ∧ W.cell? ⟨g2, k * 6 + 4, none⟩ = some (.string y) ∧ W.cell? ⟨g2, k * 6 + 5, none⟩ = some (.int .i64 (sc : Int)))) := lhide (fun W hW => by
        have key : ∀ {b i : Nat} {v : Value}, b < w.heap.size → w.cell? ⟨b, i, none⟩ = some v → W.cell? ⟨b, i, none⟩ = some v := fun hb hc => by
          have h1 := (hB.cell (p := ⟨_, _, none⟩) hb).trans hc
          exact (hW.cell (World.block_lt_of_cell? _ _ h1)).trans h1
        exact ⟨key hg c0, key hg c2, key hg c3, key hg c4, key hg c5, key hg2 d0, key hg2 d2, key hg2 d3, key hg2 d4, key hg2 d5⟩)
      subst e1 e2
      have hki : (k : Int) < (n : Int) := by omega
      have f1 := sbne x
      have f2 := sbne y
      have f3 := sbeq y
      have HB := lhide hB
      clear hB c0 c2 c3 c4 c5 d0 d2 d3 d4 d5 he ht hg hg2 hn hn' hk1 hk2
      go_upto_region 6 with fail
      have hS : Below wr.heap.size wr wr.drew := (Below.refl _ _).drew
      refine wp_region_held_drew (S := (fun W => W.cell? ⟨g, k * 6, none⟩ = some (.int .i64 (tk : Int)) ∧ W.cell? ⟨g, k * 6 + 2, none⟩ = some (.string x) ∧ W.cell? ⟨g, k * 6 + 3, none⟩ = some (.bool ng) ∧ W.cell? ⟨g, k * 6 + 4, none⟩ = some (.string y) ∧ W.cell? ⟨g, k * 6 + 5, none⟩ = some (.int .i64 (sc : Int)) ∧ W.cell? ⟨g2, k * 6, none⟩ = some (.int .i64 (tk : Int)) ∧ W.cell? ⟨g2, k * 6 + 2, none⟩ = some (.string x) ∧ W.cell? ⟨g2, k * 6 + 3, none⟩ = some (.bool ng) ∧ W.cell? ⟨g2, k * 6 + 4, none⟩ = some (.string y) ∧ W.cell? ⟨g2, k * 6 + 5, none⟩ = some (.int .i64 (sc : Int)))) (by kernel_rfl) ?hS0q1x (fun hHeld => ?restq1x0)
      case hS0q1x => first | (dsimp only; (exact lunhide HS _ hS)) | (exact lunhide HS _ hS)
      case restq1x0 =>
      refine wpAnyH_take (i := 0) (v := ?vq1x0) rfl (by kernel_rfl) (by kernel_rfl) (by kernel_rfl) (fun _ _ _ h => h) (Or.inl ⟨by rfl, ?hyq1x0⟩) (by assumption) ?restq1x1
      case hyq1x0 => ((intro w hSw; (try dsimp only at hSw); go_simp) <;> with_reducible rfl)
      case restq1x1 =>
      try simp only [Act.put, List.getElem_toArray, List.getElem_cons_zero, List.getElem_cons_succ, List.setIfInBounds_toArray, List.set_cons_zero, List.set_cons_succ]
      refine wpAnyH_take (i := 1) (v := ?vq1x1) rfl (by kernel_rfl) (by kernel_rfl) (by kernel_rfl) (fun _ _ _ h => h) (Or.inl ⟨by rfl, ?hyq1x1⟩) (by assumption) ?restq1x2
      case hyq1x1 => ((intro w hSw; (try dsimp only at hSw); go_simp) <;> with_reducible rfl)
      case restq1x2 =>
      try simp only [Act.put, List.getElem_toArray, List.getElem_cons_zero, List.getElem_cons_succ, List.setIfInBounds_toArray, List.set_cons_zero, List.set_cons_succ]
      refine wpAnyH_take (i := 2) (v := ?vq1x2) rfl (by kernel_rfl) (by kernel_rfl) (by kernel_rfl) (fun _ _ _ h => h) (Or.inl ⟨by rfl, ?hyq1x2⟩) (by assumption) ?restq1x3
      case hyq1x2 => ((intro w hSw; (try dsimp only at hSw); go_simp) <;> with_reducible rfl)
      case restq1x3 =>
      try simp only [Act.put, List.getElem_toArray, List.getElem_cons_zero, List.getElem_cons_succ, List.setIfInBounds_toArray, List.set_cons_zero, List.set_cons_succ]
      refine wpAnyH_take (i := 3) (v := ?vq1x3) rfl (by kernel_rfl) (by kernel_rfl) (by kernel_rfl) (fun _ _ _ h => h) (Or.inl ⟨by rfl, ?hyq1x3⟩) (by assumption) ?restq1x4
      case hyq1x3 => ((intro w hSw; (try dsimp only at hSw); go_simp) <;> with_reducible rfl)
      case restq1x4 =>
      try simp only [Act.put, List.getElem_toArray, List.getElem_cons_zero, List.getElem_cons_succ, List.setIfInBounds_toArray, List.set_cons_zero, List.set_cons_succ]
      refine wpAnyH_take (i := 4) (v := ?vq1x4) rfl (by kernel_rfl) (by kernel_rfl) (by kernel_rfl) (fun _ _ _ h => h) (Or.inl ⟨by rfl, ?hyq1x4⟩) (by assumption) ?restq1x5
      case hyq1x4 => ((intro w hSw; (try dsimp only at hSw); go_simp) <;> with_reducible rfl)
      case restq1x5 =>
      try simp only [Act.put, List.getElem_toArray, List.getElem_cons_zero, List.getElem_cons_succ, List.setIfInBounds_toArray, List.set_cons_zero, List.set_cons_succ]
      refine wpAnyH_take (i := 5) (v := ?vq1x5) rfl (by kernel_rfl) (by kernel_rfl) (by kernel_rfl) (fun _ _ _ h => h) (Or.inl ⟨by rfl, ?hyq1x5⟩) (by assumption) ?restq1x6
      case hyq1x5 => ((intro w hSw; (try dsimp only at hSw); go_simp) <;> with_reducible rfl)
      case restq1x6 =>
      try simp only [Act.put, List.getElem_toArray, List.getElem_cons_zero, List.getElem_cons_succ, List.setIfInBounds_toArray, List.set_cons_zero, List.set_cons_succ]
      refine wpAnyH_take (i := 6) (v := ?vq1x6) rfl (by kernel_rfl) (by kernel_rfl) (by kernel_rfl) (fun _ _ _ h => h) (Or.inl ⟨by rfl, ?hyq1x6⟩) (by assumption) ?restq1x7
      case hyq1x6 => ((intro w hSw; (try dsimp only at hSw); go_simp) <;> with_reducible rfl)
      case restq1x7 =>
      try simp only [Act.put, List.getElem_toArray, List.getElem_cons_zero, List.getElem_cons_succ, List.setIfInBounds_toArray, List.set_cons_zero, List.set_cons_succ]
      refine wpAnyH_take (i := 7) (v := ?vq1x7) rfl (by kernel_rfl) (by kernel_rfl) (by kernel_rfl) (fun _ _ _ h => h) (Or.inl ⟨by rfl, ?hyq1x7⟩) (by assumption) ?restq1x8
      case hyq1x7 => ((intro w hSw; (try dsimp only at hSw); go_simp) <;> with_reducible rfl)
      case restq1x8 =>
      try simp only [Act.put, List.getElem_toArray, List.getElem_cons_zero, List.getElem_cons_succ, List.setIfInBounds_toArray, List.set_cons_zero, List.set_cons_succ]
      refine wpAnyH_take (i := 8) (v := ?vq1x8) rfl (by kernel_rfl) (by kernel_rfl) (by kernel_rfl) (fun _ _ _ h => h) (Or.inl ⟨by rfl, ?hyq1x8⟩) (by assumption) ?restq1x9
      case hyq1x8 => ((intro w hSw; (try dsimp only at hSw); go_simp) <;> with_reducible rfl)
      case restq1x9 =>
      try simp only [Act.put, List.getElem_toArray, List.getElem_cons_zero, List.getElem_cons_succ, List.setIfInBounds_toArray, List.set_cons_zero, List.set_cons_succ]
      refine wpAnyH_take (i := 9) (v := ?vq1x9) rfl (by kernel_rfl) (by kernel_rfl) (by kernel_rfl) (fun _ _ _ h => h) (Or.inl ⟨by rfl, ?hyq1x9⟩) (by assumption) ?restq1x10
      case hyq1x9 => ((intro w hSw; (try dsimp only at hSw); go_simp) <;> with_reducible rfl)
      case restq1x10 =>
      try simp only [Act.put, List.getElem_toArray, List.getElem_cons_zero, List.getElem_cons_succ, List.setIfInBounds_toArray, List.set_cons_zero, List.set_cons_succ]
      refine wpAnyH_take (i := 10) (v := ?vq1x10) rfl (by kernel_rfl) (by kernel_rfl) (by kernel_rfl) (fun _ _ _ h => h) (Or.inl ⟨by rfl, ?hyq1x10⟩) (by assumption) ?restq1x11
      case hyq1x10 => ((intro w hSw; (try dsimp only at hSw); go_simp) <;> with_reducible rfl)
      case restq1x11 =>
      try simp only [Act.put, List.getElem_toArray, List.getElem_cons_zero, List.getElem_cons_succ, List.setIfInBounds_toArray, List.set_cons_zero, List.set_cons_succ]
      refine wpAnyH_take (i := 11) (v := ?vq1x11) rfl (by kernel_rfl) (by kernel_rfl) (by kernel_rfl) (fun _ _ _ h => h) (Or.inl ⟨by rfl, ?hyq1x11⟩) (by assumption) ?restq1x12
      case hyq1x11 => ((intro w hSw; (try dsimp only at hSw); go_simp) <;> with_reducible rfl)
      case restq1x12 =>
      try simp only [Act.put, List.getElem_toArray, List.getElem_cons_zero, List.getElem_cons_succ, List.setIfInBounds_toArray, List.set_cons_zero, List.set_cons_succ]
      refine wpAnyH_take (i := 12) (v := ?vq1x12) rfl (by kernel_rfl) (by kernel_rfl) (by kernel_rfl) (fun _ _ _ h => h) (Or.inl ⟨by rfl, ?hyq1x12⟩) (by assumption) ?restq1x13
      case hyq1x12 => ((intro w hSw; (try dsimp only at hSw); go_simp) <;> with_reducible rfl)
      case restq1x13 =>
      try simp only [Act.put, List.getElem_toArray, List.getElem_cons_zero, List.getElem_cons_succ, List.setIfInBounds_toArray, List.set_cons_zero, List.set_cons_succ]
      refine wpAnyH_take (i := 13) (v := ?vq1x13) rfl (by kernel_rfl) (by kernel_rfl) (by kernel_rfl) (fun _ _ _ h => h) (Or.inl ⟨by rfl, ?hyq1x13⟩) (by assumption) ?restq1x14
      case hyq1x13 => ((intro w hSw; (try dsimp only at hSw); go_simp) <;> with_reducible rfl)
      case restq1x14 =>
      try simp only [Act.put, List.getElem_toArray, List.getElem_cons_zero, List.getElem_cons_succ, List.setIfInBounds_toArray, List.set_cons_zero, List.set_cons_succ]
      refine wpAnyH_take (i := 14) (v := ?vq1x14) rfl (by kernel_rfl) (by kernel_rfl) (by kernel_rfl) (fun _ _ _ h => h) (Or.inl ⟨by rfl, ?hyq1x14⟩) (by assumption) ?restq1x15
      case hyq1x14 => ((intro w hSw; (try dsimp only at hSw); go_simp) <;> with_reducible rfl)
      case restq1x15 =>
      try simp only [Act.put, List.getElem_toArray, List.getElem_cons_zero, List.getElem_cons_succ, List.setIfInBounds_toArray, List.set_cons_zero, List.set_cons_succ]
      refine wpAnyH_take (i := 15) (v := ?vq1x15) rfl (by kernel_rfl) (by kernel_rfl) (by kernel_rfl) (fun _ _ _ h => h) (Or.inl ⟨by rfl, ?hyq1x15⟩) (by assumption) ?restq1x16
      case hyq1x15 => ((intro w hSw; (try dsimp only at hSw); go_simp) <;> with_reducible rfl)
      case restq1x16 =>
      try simp only [Act.put, List.getElem_toArray, List.getElem_cons_zero, List.getElem_cons_succ, List.setIfInBounds_toArray, List.set_cons_zero, List.set_cons_succ]
      refine wpAnyH_take (i := 16) (v := ?vq1x16) rfl (by kernel_rfl) (by kernel_rfl) (by kernel_rfl) (fun _ _ _ h => h) (Or.inl ⟨by rfl, ?hyq1x16⟩) (by assumption) ?restq1x17
      case hyq1x16 => ((intro w hSw; (try dsimp only at hSw); go_simp) <;> with_reducible rfl)
      case restq1x17 =>
      try simp only [Act.put, List.getElem_toArray, List.getElem_cons_zero, List.getElem_cons_succ, List.setIfInBounds_toArray, List.set_cons_zero, List.set_cons_succ]
      refine wpAnyH_take (i := 17) (v := ?vq1x17) rfl (by kernel_rfl) (by kernel_rfl) (by kernel_rfl) (fun _ _ _ h => h) (Or.inl ⟨by rfl, ?hyq1x17⟩) (by assumption) ?restq1x18
      case hyq1x17 => ((intro w hSw; (try dsimp only at hSw); go_simp) <;> with_reducible rfl)
      case restq1x18 =>
      try simp only [Act.put, List.getElem_toArray, List.getElem_cons_zero, List.getElem_cons_succ, List.setIfInBounds_toArray, List.set_cons_zero, List.set_cons_succ]
      refine wpAnyH_take (i := 18) (v := ?vq1x18) rfl (by kernel_rfl) (by kernel_rfl) (by kernel_rfl) (fun _ _ _ h => h) (Or.inl ⟨by rfl, ?hyq1x18⟩) (by assumption) ?restq1x19
      case hyq1x18 => ((intro w hSw; (try dsimp only at hSw); go_simp) <;> with_reducible rfl)
      case restq1x19 =>
      try simp only [Act.put, List.getElem_toArray, List.getElem_cons_zero, List.getElem_cons_succ, List.setIfInBounds_toArray, List.set_cons_zero, List.set_cons_succ]
      refine wpAnyH_take (i := 19) (v := ?vq1x19) rfl (by kernel_rfl) (by kernel_rfl) (by kernel_rfl) (fun _ _ _ h => h) (Or.inl ⟨by rfl, ?hyq1x19⟩) (by assumption) ?restq1x20
      case hyq1x19 => ((intro w hSw; (try dsimp only at hSw); go_simp) <;> with_reducible rfl)
      case restq1x20 =>
      try simp only [Act.put, List.getElem_toArray, List.getElem_cons_zero, List.getElem_cons_succ, List.setIfInBounds_toArray, List.set_cons_zero, List.set_cons_succ]
      refine wpAnyH_take (i := 20) (v := ?vq1x20) rfl (by kernel_rfl) (by kernel_rfl) (by kernel_rfl) (fun _ _ _ h => h) (Or.inl ⟨by rfl, ?hyq1x20⟩) (by assumption) ?restq1x21
      case hyq1x20 => ((intro w hSw; (try dsimp only at hSw); go_simp) <;> with_reducible rfl)
      case restq1x21 =>
      try simp only [Act.put, List.getElem_toArray, List.getElem_cons_zero, List.getElem_cons_succ, List.setIfInBounds_toArray, List.set_cons_zero, List.set_cons_succ]
      refine wpAnyH_take (i := 21) (v := ?vq1x21) rfl (by kernel_rfl) (by kernel_rfl) (by kernel_rfl) (fun _ _ _ h => h) (Or.inl ⟨by rfl, ?hyq1x21⟩) (by assumption) ?restq1x22
      case hyq1x21 => ((intro w hSw; (try dsimp only at hSw); go_simp) <;> with_reducible rfl)
      case restq1x22 =>
      try simp only [Act.put, List.getElem_toArray, List.getElem_cons_zero, List.getElem_cons_succ, List.setIfInBounds_toArray, List.set_cons_zero, List.set_cons_succ]
      refine wpAnyH_take (i := 22) (v := ?vq1x22) rfl (by kernel_rfl) (by kernel_rfl) (by kernel_rfl) (fun _ _ _ h => h) (Or.inl ⟨by rfl, ?hyq1x22⟩) (by assumption) ?restq1x23
      case hyq1x22 => ((intro w hSw; (try dsimp only at hSw); go_simp) <;> with_reducible rfl)
      case restq1x23 =>
      try simp only [Act.put, List.getElem_toArray, List.getElem_cons_zero, List.getElem_cons_succ, List.setIfInBounds_toArray, List.set_cons_zero, List.set_cons_succ]
      refine wpAnyH_take (i := 23) (v := ?vq1x23) rfl (by kernel_rfl) (by kernel_rfl) (by kernel_rfl) (fun _ _ _ h => h) (Or.inl ⟨by rfl, ?hyq1x23⟩) (by assumption) ?restq1x24
      case hyq1x23 => ((intro w hSw; (try dsimp only at hSw); go_simp) <;> with_reducible rfl)
      case restq1x24 =>
      try simp only [Act.put, List.getElem_toArray, List.getElem_cons_zero, List.getElem_cons_succ, List.setIfInBounds_toArray, List.set_cons_zero, List.set_cons_succ]
      refine wpAnyH_take (i := 24) (v := ?vq1x24) rfl (by kernel_rfl) (by kernel_rfl) (by kernel_rfl) (fun _ _ _ h => h) (Or.inl ⟨by rfl, ?hyq1x24⟩) (by assumption) ?restq1x25
      case hyq1x24 => ((intro w hSw; (try dsimp only at hSw); go_simp) <;> with_reducible rfl)
      case restq1x25 =>
      try simp only [Act.put, List.getElem_toArray, List.getElem_cons_zero, List.getElem_cons_succ, List.setIfInBounds_toArray, List.set_cons_zero, List.set_cons_succ]
      refine wpAnyH_take (i := 25) (v := ?vq1x25) rfl (by kernel_rfl) (by kernel_rfl) (by kernel_rfl) (fun _ _ _ h => h) (Or.inl ⟨by rfl, ?hyq1x25⟩) (by assumption) ?restq1x26
      case hyq1x25 => ((intro w hSw; (try dsimp only at hSw); go_simp) <;> with_reducible rfl)
      case restq1x26 =>
      try simp only [Act.put, List.getElem_toArray, List.getElem_cons_zero, List.getElem_cons_succ, List.setIfInBounds_toArray, List.set_cons_zero, List.set_cons_succ]
      refine wpAnyH_take (i := 26) (v := ?vq1x26) rfl (by kernel_rfl) (by kernel_rfl) (by kernel_rfl) (fun _ _ _ h => h) (Or.inl ⟨by rfl, ?hyq1x26⟩) (by assumption) ?restq1x27
      case hyq1x26 => ((intro w hSw; (try dsimp only at hSw); go_simp) <;> with_reducible rfl)
      case restq1x27 =>
      try simp only [Act.put, List.getElem_toArray, List.getElem_cons_zero, List.getElem_cons_succ, List.setIfInBounds_toArray, List.set_cons_zero, List.set_cons_succ]
      refine wpAnyH_take (i := 27) (v := ?vq1x27) rfl (by kernel_rfl) (by kernel_rfl) (by kernel_rfl) (fun _ _ _ h => h) (Or.inl ⟨by rfl, ?hyq1x27⟩) (by assumption) ?restq1x28
      case hyq1x27 => ((intro w hSw; (try dsimp only at hSw); go_simp) <;> with_reducible rfl)
      case restq1x28 =>
      try simp only [Act.put, List.getElem_toArray, List.getElem_cons_zero, List.getElem_cons_succ, List.setIfInBounds_toArray, List.set_cons_zero, List.set_cons_succ]
      refine wpAnyH_take (i := 28) (v := ?vq1x28) rfl (by kernel_rfl) (by kernel_rfl) (by kernel_rfl) (fun _ _ _ h => h) (Or.inl ⟨by rfl, ?hyq1x28⟩) (by assumption) ?restq1x29
      case hyq1x28 => ((intro w hSw; (try dsimp only at hSw); go_simp) <;> with_reducible rfl)
      case restq1x29 =>
      try simp only [Act.put, List.getElem_toArray, List.getElem_cons_zero, List.getElem_cons_succ, List.setIfInBounds_toArray, List.set_cons_zero, List.set_cons_succ]
      refine wpAnyH_take (i := 29) (v := ?vq1x29) rfl (by kernel_rfl) (by kernel_rfl) (by kernel_rfl) (fun _ _ _ h => h) (Or.inl ⟨by rfl, ?hyq1x29⟩) (by assumption) ?restq1x30
      case hyq1x29 => ((intro w hSw; (try dsimp only at hSw); go_simp) <;> with_reducible rfl)
      case restq1x30 =>
      try simp only [Act.put, List.getElem_toArray, List.getElem_cons_zero, List.getElem_cons_succ, List.setIfInBounds_toArray, List.set_cons_zero, List.set_cons_succ]
      refine wpAnyH_take (i := 30) (v := ?vq1x30) rfl (by kernel_rfl) (by kernel_rfl) (by kernel_rfl) (fun _ _ _ h => h) (Or.inl ⟨by rfl, ?hyq1x30⟩) (by assumption) ?restq1x31
      case hyq1x30 => ((intro w hSw; (try dsimp only at hSw); go_simp) <;> with_reducible rfl)
      case restq1x31 =>
      try simp only [Act.put, List.getElem_toArray, List.getElem_cons_zero, List.getElem_cons_succ, List.setIfInBounds_toArray, List.set_cons_zero, List.set_cons_succ]
      refine wpAnyH_take (i := 31) (v := ?vq1x31) rfl (by kernel_rfl) (by kernel_rfl) (by kernel_rfl) (fun _ _ _ h => h) (Or.inl ⟨by rfl, ?hyq1x31⟩) (by assumption) ?restq1x32
      case hyq1x31 => ((intro w hSw; (try dsimp only at hSw); go_simp) <;> with_reducible rfl)
      case restq1x32 =>
      try simp only [Act.put, List.getElem_toArray, List.getElem_cons_zero, List.getElem_cons_succ, List.setIfInBounds_toArray, List.set_cons_zero, List.set_cons_succ]
      refine wpAnyH_take (i := 32) (v := ?vq1x32) rfl (by kernel_rfl) (by kernel_rfl) (by kernel_rfl) (fun _ _ _ h => h) (Or.inl ⟨by rfl, ?hyq1x32⟩) (by assumption) ?restq1x33
      case hyq1x32 => ((intro w hSw; (try dsimp only at hSw); go_simp) <;> with_reducible rfl)
      case restq1x33 =>
      try simp only [Act.put, List.getElem_toArray, List.getElem_cons_zero, List.getElem_cons_succ, List.setIfInBounds_toArray, List.set_cons_zero, List.set_cons_succ]
      refine wpAnyH_take (i := 33) (v := ?vq1x33) rfl (by kernel_rfl) (by kernel_rfl) (by kernel_rfl) (fun _ _ _ h => h) (Or.inl ⟨by rfl, ?hyq1x33⟩) (by assumption) ?restq1x34
      case hyq1x33 => ((intro w hSw; (try dsimp only at hSw); go_simp) <;> with_reducible rfl)
      case restq1x34 =>
      try simp only [Act.put, List.getElem_toArray, List.getElem_cons_zero, List.getElem_cons_succ, List.setIfInBounds_toArray, List.set_cons_zero, List.set_cons_succ]
      refine wpAnyH_take (i := 34) (v := ?vq1x34) rfl (by kernel_rfl) (by kernel_rfl) (by kernel_rfl) (fun _ _ _ h => h) (Or.inl ⟨by rfl, ?hyq1x34⟩) (by assumption) ?restq1x35
      case hyq1x34 => ((intro w hSw; (try dsimp only at hSw); go_simp) <;> with_reducible rfl)
      case restq1x35 =>
      try simp only [Act.put, List.getElem_toArray, List.getElem_cons_zero, List.getElem_cons_succ, List.setIfInBounds_toArray, List.set_cons_zero, List.set_cons_succ]
      refine wpAnyH_take (i := 35) (v := ?vq1x35) rfl (by kernel_rfl) (by kernel_rfl) (by kernel_rfl) (fun _ _ _ h => h) (Or.inl ⟨by rfl, ?hyq1x35⟩) (by assumption) ?restq1x36
      case hyq1x35 => ((intro w hSw; (try dsimp only at hSw); go_simp) <;> with_reducible rfl)
      case restq1x36 =>
      try simp only [Act.put, List.getElem_toArray, List.getElem_cons_zero, List.getElem_cons_succ, List.setIfInBounds_toArray, List.set_cons_zero, List.set_cons_succ]
      refine wpAnyH_take (i := 36) (v := ?vq1x36) rfl (by kernel_rfl) (by kernel_rfl) (by kernel_rfl) (fun _ _ _ h => h) (Or.inl ⟨by rfl, ?hyq1x36⟩) (by assumption) ?restq1x37
      case hyq1x36 => ((intro w hSw; (try dsimp only at hSw); go_simp) <;> with_reducible rfl)
      case restq1x37 =>
      try simp only [Act.put, List.getElem_toArray, List.getElem_cons_zero, List.getElem_cons_succ, List.setIfInBounds_toArray, List.set_cons_zero, List.set_cons_succ]
      refine wpAnyH_done (by kernel_rfl) ?_ _
      have HB2 := lhide ((lunhide HB).trans (hS.mono (lunhide HB).size))
      clear hS HS
      go_wp2_with fail
      go_roundw
      case rel => exact ⟨k + 1, by go_num, hlt, lunhide HB2⟩
      case measure => simp [intOf]; omega
    · have hki : ¬ (k : Int) < (n : Int) := by omega
      have HB := lhide hB
      clear hB
      go_wp2_with fail
      go_ret
      exact ⟨rfl, lunhide HB⟩
end Go.Proofs.YtppkknmgdahniabDoor.Lex
