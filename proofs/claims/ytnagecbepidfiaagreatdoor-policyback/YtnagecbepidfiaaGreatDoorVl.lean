/- What is proved here: few of the laws of layer 8, walked: whatever policy comes in, it answers one of bounded size; conditions: the policy lies. -/
import Derived.Test.YtnagecbepidfiaaGreatDoorVk
import Derived.Deep.CutBlock
import Derived.Deep.CutRange
import Derived.Deep.LoopGhost
namespace Go.Proofs.YtnagecbepidfiaaGreatDoor.Pol
set_option maxRecDepth 100000
open Go.RowKit Go.Proofs.YtnagecbepidfiaaGreatDoor.Nc Go.Proofs.YtnagecbepidfiaaGreatDoor.Np Go.Proofs.YtnagecbepidfiaaGreatDoor.Nq
set_option linter.unusedVariables false
set_option linter.unusedSimpArgs false

/-- A policy of bounded size. -/
structure Bnd (p : Po) : Prop where
  cats : p.cats.length ≤ 70
  names : ∀ x ∈ p.cats, x.length ≤ 40
  marks : p.marks.length ≤ 20
  paths : ∀ m ∈ p.marks, m.path.length ≤ 12
  token : p.token.length ≤ 100
def encT (l : Tx) : Value := .string ⟨l.toArray⟩
theorem info9t : (Tryz.prog.info? 9).map (fun i => (i.zero, i.size, i.bytes)) = some (some (.string ⟨#[]⟩), 1, 16) := by kernel_rfl
theorem cutT (k : Nat) (s : ByteArray) : ∃ t : ByteArray, t.size ≤ k ∧ ((k < s.size ∧ s.extract 0 k = t) ∨ (¬ k < s.size ∧ t = s)) := by
  by_cases h : k < s.size
  · exact ⟨s.extract 0 k, by rw [ByteArray.size_extract]; omega, .inl ⟨h, rfl⟩⟩
  · exact ⟨s, by omega, .inr ⟨h, rfl⟩⟩
theorem rowo_of {w : World} {base g k cap : Nat} {L : List Tx} (h : w.ownsRow base 9 1 (.slice (some ⟨g, 0, none⟩) k cap) k (L.map encT)) : RowO w g 0 L := by
  refine ⟨(h.lt g rfl).2, fun i hi => ?_⟩
  have h0 := h.cells (g := g) rfl i (encT (L[i]'hi)) (by simp [hi])
  rw [addM] at h0
  exact h0
/-- A row of marks of one's own; their paths are short. -/
structure MR12 (W : World) (base : Nat) (v : Value) (D : List Dk) : Prop where
  own : W.ownsRow base 59 2 v D.length (rowM D)
  each : ∀ d ∈ D, (d.m.mask < 18446744073709551616 ∧ d.m.path.length ≤ 12) ∧ StF W base v.ownBlock d.a d.n d.m.path
theorem MR12.keep {W W' : World} {base : Nat} {v : Value} {D : List Dk} (h : MR12 W base v D) (hk : Kp base none W W') : MR12 W' base v D :=
  ⟨ownM_block h.own (fun g hg => hk.2 g (h.own.lt g hg).1 (h.own.lt g hg).2 (by simp)), fun d hd => ⟨(h.each d hd).1, (h.each d hd).2.keep ⟨hk.1, fun k a b _ => hk.2 k a b (by simp)⟩⟩⟩
theorem marks_of12 {W : World} {base k : Nat} {v : Value} {D : List Dk} (h : W.ownsRow base 59 2 v k (rowM D)) (hk : D.length = k) (hd : ∀ d ∈ D, d.m.mask < 18446744073709551616 ∧ StF W base v.ownBlock d.a d.n d.m.path) :
    ∃ a c, v = .slice a k c ∧ MarksF W base a k (D.map (·.m)) := by
  by_cases h0 : k = 0
  · rcases h.2 with ⟨e, _⟩ | ⟨g, cap, cur, hv, _⟩
    · exact ⟨none, 0, by rw [e, h0], by simp [hk], .inl h0⟩
    · exact ⟨_, cap, hv, by simp [hk], .inl h0⟩
  · obtain ⟨g, cap, rfl, hb, hg⟩ := h.form (by omega)
    refine ⟨_, cap, rfl, by simp [hk], .inr ⟨g, 0, rfl, hb, hg, fun i hi => ?_⟩⟩
    have hi2 : i < D.length := by simpa using hi
    have e0 := h.cells (g := g) rfl (i * 2) (.slice (D[i]'hi2).a (D[i]'hi2).n (D[i]'hi2).c) (by have := rowM_at D i 0 (by omega) hi2; rw [Nat.add_zero] at this; rw [this]; rfl)
    have e1 := h.cells (g := g) rfl (i * 2 + 1) (.int .u64 ((D[i]'hi2).m.mask : Int)) (by rw [rowM_at D i 1 (by omega) hi2]; rfl)
    rw [addM] at e0 e1
    rw [Nat.zero_add] at e0 e1
    obtain ⟨d1, d2⟩ := hd _ (List.getElem_mem hi2)
    simp only [List.getElem_map, Nat.zero_add]
    exact ⟨d1, _, _, _, e0, e1, d2.low (Nat.le_refl _)⟩
set_option maxHeartbeats 8000000 in
theorem few8 (v : Value) (p : Po) (w : World) (hI : PolIn w v p) :
    Calls Tryz.prog 10 #[v] w fun e w' => Below w.heap.size w w' ∧ ∃ v' p', e = .returned v' ∧ PolF w' w.heap.size v' p' ∧ Bnd p' := by
  obtain ⟨i9, hi9, hz90, hz91, hz92⟩ := info_parts info9t
  obtain ⟨iM, hiM, hzM0, hzM1, hzM2⟩ := info_parts infoM
  obtain ⟨iS, hiS, hzS0, hzS1, hzS2⟩ := info_parts infoS
  obtain ⟨a, n, c, b, m, d, tok, rfl, htok, hC, hM⟩ := hI
  obtain ⟨C, M, T, fu, qu⟩ := p
  simp only at *
  have hcn := hC.1
  have hmn := hM.1
  obtain ⟨tk, htk, hcut⟩ := cutT 100 tok
  have b1 : Below w.heap.size w (w.alloc (.cells #[.slice a n c, .slice b m d, .string tok, .int .i64 fu, .int .i64 qu] 25)) := (Below.refl _ _).alloc (Nat.le_refl _) _
  have f1 := Five.new w (.slice a n c) (.slice b m d) (.string tok) (.int .i64 fu) (.int .i64 qu) 25
  have s1 : (w.alloc (.cells #[.slice a n c, .slice b m d, .string tok, .int .i64 fu, .int .i64 qu] 25)).heap.size = w.heap.size + 1 := by simp
  go_enter Tryz.func10, Tryz.ntmps10
  go_upto_region 2 with fail
  have s2 : ((w.alloc (.cells #[.slice a n c, .slice b m d, .string tok, .int .i64 fu, .int .i64 qu] 25)).alloc (.cells #[.slice none 0 0, .slice none 0 0, .string ⟨#[]⟩, .int .i64 0, .int .i64 0] 25)).heap.size = w.heap.size + 1 + 1 := by simp
  have b2 := b1.alloc b1.size (.cells #[.slice none 0 0, .slice none 0 0, .string ⟨#[]⟩, .int .i64 0, .int .i64 0] 25)
  have f2 := f1.step ((Below.refl _ (w.alloc (.cells #[.slice a n c, .slice b m d, .string tok, .int .i64 fu, .int .i64 qu] 25))).alloc (Nat.le_refl _) (.cells #[.slice none 0 0, .slice none 0 0, .string ⟨#[]⟩, .int .i64 0, .int .i64 0] 25))
  have g2 := Five.new (w.alloc (.cells #[.slice a n c, .slice b m d, .string tok, .int .i64 fu, .int .i64 qu] 25)) (.slice none 0 0) (.slice none 0 0) (.string ⟨#[]⟩) (.int .i64 0) (.int .i64 0) 25
  rw [s1] at g2
  generalize (w.alloc (.cells #[.slice a n c, .slice b m d, .string tok, .int .i64 fu, .int .i64 qu] 25)).alloc (.cells #[.slice none 0 0, .slice none 0 0, .string ⟨#[]⟩, .int .i64 0, .int .i64 0] 25) = W1 at *
  have b3 := b2.alloc b2.size (.cells #[.slice none 0 0, .slice none 0 0, .string tok, .int .i64 fu, .int .i64 qu] 25)
  have al := (Below.refl _ W1).alloc (Nat.le_refl _) (.cells #[.slice none 0 0, .slice none 0 0, .string tok, .int .i64 fu, .int .i64 qu] 25)
  have f3 := f2.step al
  have g3 := g2.step al
  have h3 := Five.new W1 (.slice none 0 0) (.slice none 0 0) (.string tok) (.int .i64 fu) (.int .i64 qu) 25
  have s3 : (W1.alloc (.cells #[.slice none 0 0, .slice none 0 0, .string tok, .int .i64 fu, .int .i64 qu] 25)).heap.size = w.heap.size + 3 := by simp; omega
  rw [s2] at h3
  generalize W1.alloc (.cells #[.slice none 0 0, .slice none 0 0, .string tok, .int .i64 fu, .int .i64 qu] 25) = W2 at *
  rw [s2] at *
  clear b1 f1 s1 b2 f2 g2 al
  generalize hqb : w.heap.size = qb at *
  have HQB := phide hqb
  clear hqb s2
  obtain ⟨-, x0, x1, x2, x3, x4, x5⟩ := id h3
  have xf := x5 2
  have HTOK := phide htok
  clear htok
  go_upto_if 22 with fail
  go_cut [] from 23 to 26 (fun wx => Below (qb + 2) W2 wx ∧ Five wx (qb + 1 + 1) (.slice none 0 0) (.slice none 0 0) (.string tk) (.int .i64 fu) (.int .i64 qu))
  case first =>
    rcases hcut with ⟨h1, h2⟩ | ⟨h1, h2⟩
    · have d1 : decide ((100 : Int) < (tok.size : Int)) = true := decide_eq_true (by omega)
      have c2 : (100 : Int) ≤ (tok.size : Int) := by omega
      have hp := (h3.put (.string tk)).2.2.1
      have hb := (Below.refl (qb + 2) W2).setCell (p := ⟨qb + 1 + 1, 2, none⟩) (Nat.le_refl _) (.string tk)
      clear hC hM
      go_wp2_with fail
      go_meet
      exact ⟨hb, hp⟩
    · have d1 : decide ((100 : Int) < (tok.size : Int)) = false := decide_eq_false (by omega)
      subst h2
      clear hC hM
      go_wp2_with fail
      go_meet
      exact ⟨Below.refl _ _, h3⟩
  case rest =>
  obtain ⟨hb, hO⟩ := hcut
  have hbs := hb.size
  have hqs := f3.lt
  have HF : Hid (∀ W, Below (qb + 3) wc W → Five W qb (.slice a n c) (.slice b m d) (.string tok) (.int .i64 fu) (.int .i64 qu) ∧ Five W (qb + 1) (.slice none 0 0) (.slice none 0 0) (.string ⟨#[]⟩) (.int .i64 0) (.int .i64 0) ∧ Five W (qb + 1 + 1) (.slice none 0 0) (.slice none 0 0) (.string tk) (.int .i64 fu) (.int .i64 qu) ∧ TxIn W a n C ∧ MarksIn W b m M ∧ Below qb w W) := phide (fun W hW => by
    have h0 : Below (qb + 2) W2 W := hb.trans (hW.mono (by omega))
    have hw : Below qb w W := b3.trans (h0.mono (by omega))
    have hw' : Below w.heap.size w W := by rw [punhide HQB]; exact hw
    exact ⟨f3.blk h0.size (h0.block _ (by omega)), g3.blk h0.size (h0.block _ (by omega)), hO.blk hW.size (hW.block _ (by omega)), hC.step hw', hM.step hw', hw⟩)
  have hz : qb + 3 ≤ wc.heap.size := by omega
  clear hb hO f3 g3 h3 hC hM b3 x0 x1 x2 x3 x4 x5 xf hbs hqs hcut s3
  go_upto_block 0 with fail
  go_cut [4, 5, 6] from 28 to 52 (fun v4 v5 v6 wx => ∃ (g cap : Nat) (L : List Tx), v4 = .slice (some ⟨g, 0, none⟩) L.length cap ∧ L.length ≤ 70 ∧ (∀ x ∈ L, x.length ≤ 40) ∧ wx.ownsRow (qb + 3) 9 1 (.slice (some ⟨g, 0, none⟩) L.length cap) L.length (L.map encT) ∧ Below (qb + 3) wc wx)
  case first =>
    go_wp2_with fail
    go_loopw [4, 5] (fun o i wr => ∃ (k g cap : Nat) (L : List Tx), i = .int .i64 (k : Int) ∧ o = .slice (some ⟨g, 0, none⟩) k cap ∧ k ≤ n ∧ k ≤ 70 ∧ L.length = k ∧ (∀ x ∈ L, x.length ≤ 40) ∧ wr.ownsRow (qb + 3) 9 1 (.slice (some ⟨g, 0, none⟩) k cap) k (L.map encT) ∧ Below (qb + 3) wc wr) (fun _ i _ => 70 - (intOf i).toNat)
    case atStart =>
      refine ⟨0, wc.heap.size, 0, [], rfl, rfl, by omega, by omega, rfl, (fun x hx => by cases hx), ⟨rfl, .inr ⟨wc.heap.size, 0, #[], rfl, hz, ?_, Nat.le_refl _, by unfold maxLen; omega, rfl, rfl⟩⟩, (Below.refl _ _).alloc hz _⟩
      exact heap_alloc_new wc _
    case round =>
      obtain ⟨k, g, cap, L, rfl, rfl, hkn, hk7, hLk, hLl, hown, hB⟩ := hrel
      obtain ⟨hQ, -, -, hCr, -, -⟩ := punhide HF wr hB
      obtain ⟨-, x0, x1, x2, x3, x4, -⟩ := hQ
      by_cases hlt : k < n
      case pos =>
        by_cases h70 : k < 70
        case pos =>
          obtain ⟨cg, co, rfl, hrow⟩ := hCr.get (by omega)
          obtain ⟨s, hs, -, -⟩ := txt (C[k]'(by omega))
          have hc := hrow.2 k (by omega)
          rw [hs] at hc
          obtain ⟨t, ht, hcut⟩ := cutT 40 s
          have hzr := Nat.le_trans hz hB.size
          have hLm : (L ++ [t.data.toList]).map encT = L.map encT ++ [.string t] := by rw [List.map_append]; simp [encT]
          have HLM := phide hLm
          have hLk2 : (L ++ [t.data.toList]).length = k + 1 := by rw [List.length_append, hLk]; rfl
          have hLl2 : ∀ x ∈ L ++ [t.data.toList], x.length ≤ 40 := by
            intro x hx
            rcases List.mem_append.1 hx with hx | hx
            · exact hLl x hx
            · rw [List.mem_singleton] at hx; rw [hx, len_size]; exact ht
          have HL1 := phide hLk2
          have HL2 := phide hLl2
          have hst : wr.heap.size < (wr.alloc (.cells #[.string t] 9)).heap.size := by simp
          clear hs hrow hLm hLk2 hLl2 hLl hLk
          rcases hcut with ⟨h1, h2⟩ | ⟨h1, h2⟩
          · have d1 : decide ((40 : Int) < (s.size : Int)) = true := decide_eq_true (by omega)
            have c2 : (40 : Int) ≤ (s.size : Int) := by omega
            go_wp2_with (at_builtin; refine wpList_append_lies _ rfl _ _ 22 rfl (qb + 3) 9 i9 (.string ⟨#[]⟩) 1 16 Tryz.underlying22 hi9 hz90 hz91 hz92 rfl (by decide) _ k _ rfl (hown.alloc _) ⟨wr.heap.size, 0, none⟩ 1 1 [.string t] rfl rfl (World.news_of_block (alloc_at _ _)) (by intro u hu; rw [List.mem_singleton] at hu; rw [hu]; rfl) (by decide) (by unfold maxLen; omega) (by omega) (by simp; omega) _ rfl ?_)
            intro g2 cap2 w1 hown2 hgrow hat hlt2
            have hown3 : w1.ownsRow (qb + 3) 9 1 (.slice (some ⟨g2, 0, none⟩) (k + 1) cap2) (k + 1) ((L ++ [t.data.toList]).map encT) := by rw [punhide HLM]; exact hown2
            have hgrow2 : wr.grownBy w1 (some g) := (World.grownBy_alloc wr _ (some g)).trans hgrow
            have hB2 : Below (qb + 3) wc w1 := hB.grown hgrow2 hzr (fun j hj => by cases hj; exact (hown.lt g rfl).1)
            clear hown hgrow hgrow2 hat hc hB hown2 x0 x1 x2 x3 x4
            go_wp2
            go_roundw
            case rel => exact ⟨k + 1, g2, cap2, _, by go_num, rfl, by omega, by omega, punhide HL1, punhide HL2, hown3, hB2⟩
            case measure => simp [intOf]; omega
          · subst h2
            have d1 : decide ((40 : Int) < (t.size : Int)) = false := decide_eq_false (by omega)
            go_wp2_with (at_builtin; refine wpList_append_lies _ rfl _ _ 22 rfl (qb + 3) 9 i9 (.string ⟨#[]⟩) 1 16 Tryz.underlying22 hi9 hz90 hz91 hz92 rfl (by decide) _ k _ rfl (hown.alloc _) ⟨wr.heap.size, 0, none⟩ 1 1 [.string t] rfl rfl (World.news_of_block (alloc_at _ _)) (by intro u hu; rw [List.mem_singleton] at hu; rw [hu]; rfl) (by decide) (by unfold maxLen; omega) (by omega) (by simp; omega) _ rfl ?_)
            intro g2 cap2 w1 hown2 hgrow hat hlt2
            have hown3 : w1.ownsRow (qb + 3) 9 1 (.slice (some ⟨g2, 0, none⟩) (k + 1) cap2) (k + 1) ((L ++ [t.data.toList]).map encT) := by rw [punhide HLM]; exact hown2
            have hgrow2 : wr.grownBy w1 (some g) := (World.grownBy_alloc wr _ (some g)).trans hgrow
            have hB2 : Below (qb + 3) wc w1 := hB.grown hgrow2 hzr (fun j hj => by cases hj; exact (hown.lt g rfl).1)
            clear hown hgrow hgrow2 hat hc hB hown2 x0 x1 x2 x3 x4
            go_wp2
            go_roundw
            case rel => exact ⟨k + 1, g2, cap2, _, by go_num, rfl, by omega, by omega, punhide HL1, punhide HL2, hown3, hB2⟩
            case measure => simp [intOf]; omega
        case neg =>
          have hk : k = 70 := by omega
          have d1 : decide ((k : Int) < 70) = false := decide_eq_false (by omega)
          clear hk
          go_wp2
          go_meet
          exact ⟨g, cap, L, by rw [hLk], by omega, hLl, by rw [hLk]; exact hown, hB⟩
      case neg =>
        have d1 : decide ((k : Int) < (n : Int)) = false := decide_eq_false (by omega)
        go_wp2
        go_meet
        exact ⟨g, cap, L, by rw [hLk], by omega, hLl, by rw [hLk]; exact hown, hB⟩
  case rest =>
  obtain ⟨g1, cap1, L1, rfl, hL70, hL40, hown1, hB1⟩ := hcut
  have hz1 := Nat.le_trans hz hB1.size
  replace HF := phide (fun W hW => punhide HF W (hB1.trans hW))
  obtain ⟨n1, hn1⟩ : ∃ n1, L1.length = n1 := ⟨_, rfl⟩
  rw [hn1] at hown1 hL70
  rw [hn1]
  have HN1 := phide hn1
  have HL40 := phide hL40
  clear hz hB1 hn1 hL40
  go_upto_block 2 with fail
  go_cut [7, 8, 9, 10, 11] from 54 to 112 (fun v7 v8 v9 v10 v11 wx => ∃ (g cap : Nat) (D : List Dk), v7 = .slice (some ⟨g, 0, none⟩) D.length cap ∧ D.length ≤ 20 ∧ MR12 wx (qb + 3) (.slice (some ⟨g, 0, none⟩) D.length cap) D ∧ TxF wx (qb + 3) (some g) (some ⟨g1, 0, none⟩) n1 L1 ∧ Below (qb + 3) wc wx)
  case first =>
    have hcat0 : TxF (wc.alloc (.cells #[] 59)) (qb + 3) (some wc.heap.size) (some ⟨g1, 0, none⟩) n1 L1 :=
      (TxF.of (x := some wc.heap.size) (base := qb + 3) ⟨punhide HN1, .inr ⟨g1, 0, rfl, rowo_of hown1⟩⟩ (fun g o e => by
        cases e
        have := hown1.lt g1 rfl
        exact ⟨this.1, fun e2 => by have := Option.some.inj e2; omega⟩)).keep (Kp.of_below ((Below.refl _ _).alloc (Nat.le_refl _) _))
    have HCAT := phide hcat0
    clear hcat0 hown1
    go_wp2_with fail
    go_loopg [7, 8] 20 (fun gj v7 i wr => ∃ (j g cap : Nat) (D : List Dk), gj = 20 - j ∧ i = .int .i64 (j : Int) ∧ v7 = .slice (some ⟨g, 0, none⟩) j cap ∧ j ≤ m ∧ j ≤ 20 ∧ Hid (D.length = j) ∧ MR12 wr (qb + 3) (.slice (some ⟨g, 0, none⟩) D.length cap) D ∧ TxF wr (qb + 3) (some g) (some ⟨g1, 0, none⟩) n1 L1 ∧ Below (qb + 3) wc wr)
    case atStart =>
      refine ⟨0, wc.heap.size, 0, [], rfl, rfl, rfl, by omega, by omega, phide rfl, ⟨⟨rfl, .inr ⟨wc.heap.size, 0, #[], rfl, hz1, ?_, Nat.le_refl _, by unfold maxLen; omega, rfl, rfl⟩⟩, fun d hd => by cases hd⟩, punhide HCAT, (Below.refl _ _).alloc hz1 _⟩
      exact heap_alloc_new wc _
    case round =>
      obtain ⟨j, g, cap, D, rfl, rfl, rfl, hjm, hj20, HJ, hMR, hcat, hB⟩ := hrel
      obtain ⟨w7, rfl⟩ : ∃ w7, w7 = wr := ⟨_, rfl⟩
      obtain ⟨hQ, -, -, -, hMr, -⟩ := punhide HF w7 hB
      obtain ⟨hq9, x0, x1, x2, x3, x4, -⟩ := id hQ
      have hzr := Nat.le_trans hz1 hB.size
      by_cases hlt : j < m
      case pos =>
        by_cases h20 : j < 20
        case pos =>
          have d20 : decide ((j : Int) < 20) = true := decide_eq_true (by omega)
          obtain ⟨pg, po, rfl, hpg, hrow⟩ := hMr.2.resolve_left (by omega)
          obtain ⟨hmk, pa, pn, pc, c0, c1, hst⟩ := hrow j (by omega)
          obtain ⟨mk, hmke⟩ : ∃ mk, M[j]'(by omega) = mk := ⟨_, rfl⟩
          rw [hmke] at hmk c1 hst
          have hpl := hst.1
          clear hrow hmke hMr
          go_upto_block 4 with fail
          go_cut [9, 10, 11] from 54 to 112 (fun v9 v10 v11 wx => ∃ (g3 cap3 : Nat) (X : List Pm.St), v9 = .slice (some ⟨g3, 0, none⟩) X.length cap3 ∧ X.length ≤ 12 ∧ wx.ownsRow w7.heap.size 57 3 (.slice (some ⟨g3, 0, none⟩) X.length cap3) X.length (rowS X) ∧ Below w7.heap.size w7 wx)
          case first =>
            have HQ := phide hQ
            clear hMR hcat hQ hB HCAT
            go_wp2_with fail
            go_loopg [9, 10] 12 (fun gk v i wr => ∃ (k g3 cap3 : Nat) (X : List Pm.St), gk = 12 - k ∧ i = .int .i64 (k : Int) ∧ v = .slice (some ⟨g3, 0, none⟩) k cap3 ∧ k ≤ pn ∧ k ≤ 12 ∧ Hid (X.length = k) ∧ wr.ownsRow w7.heap.size 57 3 (.slice (some ⟨g3, 0, none⟩) k cap3) k (rowS X) ∧ Below w7.heap.size w7 wr)
            case atStart =>
              refine ⟨0, w7.heap.size, 0, [], rfl, rfl, rfl, by omega, by omega, phide rfl, ⟨rfl, .inr ⟨w7.heap.size, 0, #[], rfl, Nat.le_refl _, ?_, Nat.le_refl _, by unfold maxLen; omega, rfl, rfl⟩⟩, (Below.refl _ _).alloc (Nat.le_refl _) _⟩
              exact heap_alloc_new w7 _
            case round =>
              obtain ⟨k, g3, cap3, X, rfl, rfl, rfl, hkp, hk12, HK, hown, hBi⟩ := hrel
              have e0 := (hBi.cell (p := ⟨pg, po + j * 2, none⟩) hpg).trans c0
              clear x0 x1 x2 x3 x4 c0 c1 hq9
              obtain ⟨-, x0, x1, x2, x3, x4, -⟩ := (punhide HQ).step hBi
              by_cases hl2 : k < pn
              case pos =>
                by_cases h12 : k < 12
                case pos =>
                  obtain ⟨sb, so, rfl, hsr⟩ := (hst.step hBi).2.resolve_left (by omega)
                  obtain ⟨s0, s1, s2⟩ := hsr.2 k (by rw [hpl]; exact hl2)
                  obtain ⟨t, ht⟩ : ∃ t, mk.path[k]'(by rw [hpl]; exact hl2) = t := ⟨_, rfl⟩
                  rw [ht] at s0 s1 s2
                  obtain ⟨tn, ts, ti⟩ := t
                  simp only at s0 s1 s2
                  obtain ⟨tc, htc, hcut⟩ := cutT 40 ts
                  have al : Below wr.heap.size wr (wr.alloc (.cells #[.int .i64 tn, .string ts, .int .i64 ti] 57)) := (Below.refl _ _).alloc (Nat.le_refl _) _
                  have y0 : (wr.alloc (.cells #[.int .i64 tn, .string ts, .int .i64 ti] 57)).cell? ⟨wr.heap.size, 0, none⟩ = some (.int .i64 tn) := World.cell?_alloc_at _ _ _ _ rfl
                  have y1 : (wr.alloc (.cells #[.int .i64 tn, .string ts, .int .i64 ti] 57)).cell? ⟨wr.heap.size, 1, none⟩ = some (.string ts) := World.cell?_alloc_at _ _ _ _ rfl
                  have y2 : (wr.alloc (.cells #[.int .i64 tn, .string ts, .int .i64 ti] 57)).cell? ⟨wr.heap.size, 2, none⟩ = some (.int .i64 ti) := World.cell?_alloc_at _ _ _ _ rfl
                  have yf : (wr.alloc (.cells #[.int .i64 tn, .string ts, .int .i64 ti] 57)).frozen? ⟨wr.heap.size, 1, none⟩ = false := World.frozen?_alloc_new _ _ _ _
                  have ys : wr.heap.size < (wr.alloc (.cells #[.int .i64 tn, .string ts, .int .i64 ti] 57)).heap.size := by simp
                  clear ht hsr
                  go_upto_if 93 with fail
                  clear s0 s1 s2 e0 x0 x1 x2 x3 x4
                  generalize wr.alloc (.cells #[.int .i64 tn, .string ts, .int .i64 ti] 57) = Wa at *
                  generalize hxb : wr.heap.size = xb at *
                  have HXB := phide hxb
                  clear hxb
                  go_cut [] from 66 to 101 (fun wx => Below xb wr wx ∧ xb < wx.heap.size ∧ wx.cell? ⟨xb, 0, none⟩ = some (.int .i64 tn) ∧ wx.cell? ⟨xb, 1, none⟩ = some (.string tc) ∧ wx.cell? ⟨xb, 2, none⟩ = some (.int .i64 ti))
                  case first =>
                    clear hown hBi
                    rcases hcut with ⟨h1, h2⟩ | ⟨h1, h2⟩
                    · have d1 : decide ((40 : Int) < (ts.size : Int)) = true := decide_eq_true (by omega)
                      have c2 : (40 : Int) ≤ (ts.size : Int) := by omega
                      have q0 : (Wa.setCell ⟨xb, 1, none⟩ (.string tc)).cell? ⟨xb, 0, none⟩ = some (.int .i64 tn) := by rw [World.cell?_setCell_other _ _ _ _ (fun e => by simp at e)]; exact y0
                      have q1 : (Wa.setCell ⟨xb, 1, none⟩ (.string tc)).cell? ⟨xb, 1, none⟩ = some (.string tc) := World.cell?_setCell_same _ _ _ y1
                      have q2 : (Wa.setCell ⟨xb, 1, none⟩ (.string tc)).cell? ⟨xb, 2, none⟩ = some (.int .i64 ti) := by rw [World.cell?_setCell_other _ _ _ _ (fun e => by simp at e)]; exact y2
                      have qb2 := al.setCell (p := ⟨xb, 1, none⟩) (Nat.le_refl _) (.string tc)
                      have qs : xb < (Wa.setCell ⟨xb, 1, none⟩ (.string tc)).heap.size := by simp [World.setCell]; exact ys
                      go_wp2_with fail
                      go_meet
                      exact ⟨qb2, qs, q0, q1, q2⟩
                    · have d1 : decide ((40 : Int) < (ts.size : Int)) = false := decide_eq_false (by omega)
                      subst h2
                      go_wp2_with fail
                      go_meet
                      exact ⟨al, ys, y0, y1, y2⟩
                  case rest =>
                    obtain ⟨hbx, hsx, z0, z1, z2⟩ := hcut
                    clear al y0 y1 y2 yf ys
                    have hbx2 : Below wr.heap.size wr wc := by rw [punhide HXB]; exact hbx
                    have ho2 := ownS_step hown (hbx2.alloc hbx2.size (.cells #[.int .i64 tn, .string tc, .int .i64 ti] 57))
                    have hBz : Below w7.heap.size w7 (wc.alloc (.cells #[.int .i64 tn, .string tc, .int .i64 ti] 57)) := hBi.trans ((hbx2.alloc hbx2.size _).mono hBi.size)
                    have hRS : rowS (X ++ [⟨tn, tc, ti⟩]) = rowS X ++ cellsS ⟨tn, tc, ti⟩ := rowS_snoc _ _
                    have HRS := phide hRS
                    have hzz := hBz.size
                    have hK1 : Hid ((X ++ [(⟨tn, tc, ti⟩ : Pm.St)]).length = k + 1) := phide (by rw [List.length_append, punhide HK]; rfl)
                    clear hown hbx hBi hbx2 hRS
                    go_wp2_with (at_builtin; refine wpList_append_lies _ rfl _ _ 52 rfl w7.heap.size 57 iS (.agg #[.int .i64 0, .string ⟨#[]⟩, .int .i64 0]) 3 32 Tryz.underlying52 hiS hzS0 hzS1 hzS2 rfl (by decide) _ k _ rfl ho2 ⟨wc.heap.size, 0, none⟩ 1 1 (cellsS ⟨tn, tc, ti⟩) rfl rfl (newS wc ⟨tn, tc, ti⟩ _) (by intro u hu; simp only [cellsS, List.mem_cons, List.not_mem_nil, or_false] at hu; rcases hu with rfl | rfl | rfl <;> rfl) (by decide) (by unfold maxLen; omega) (by omega) hzz _ rfl ?_)
                    intro g4 cap4 w5 hown5 hgrow5 hat5 hlt5
                    have hown6 : w5.ownsRow w7.heap.size 57 3 (.slice (some ⟨g4, 0, none⟩) (k + 1) cap4) (k + 1) (rowS (X ++ [⟨tn, tc, ti⟩])) := by rw [punhide HRS]; exact hown5
                    have hB6 := hBz.grown hgrow5 hzz (fun q hq => (ho2.lt q hq).1)
                    clear hown5 hgrow5 hat5 ho2 hBz hzz z0 z1 z2
                    go_wp2
                    go_roundg (12 - (k + 1))
                    case measure => omega
                    case rel => exact ⟨k + 1, g4, cap4, _, rfl, by go_num, rfl, by omega, by omega, hK1, hown6, hB6⟩
                case neg =>
                  have d1 : decide ((k : Int) < 12) = false := decide_eq_false (by omega)
                  go_wp2
                  go_meet
                  exact ⟨g3, cap3, X, by rw [punhide HK], by rw [punhide HK]; omega, by rw [punhide HK]; exact hown, hBi⟩
              case neg =>
                have d1 : decide ((k : Int) < (pn : Int)) = false := decide_eq_false (by omega)
                go_wp2
                go_meet
                exact ⟨g3, cap3, X, by rw [punhide HK], by rw [punhide HK]; omega, by rw [punhide HK]; exact hown, hBi⟩
          case rest =>
            obtain ⟨g3, cap3, X, rfl, hX12, hown3, hB3⟩ := hcut
            have hQc := hQ.step hB3
            clear x0 x1 x2 x3 x4
            obtain ⟨-, x0, x1, x2, x3, x4, -⟩ := id hQc
            have e1 := (hB3.cell (p := ⟨pg, po + j * 2 + 1, none⟩) hpg).trans c1
            have hlo := hown3.lt g3 rfl
            have hlg := hMR.own.lt g rfl
            obtain ⟨kx, hkx⟩ : ∃ kx, X.length = kx := ⟨_, rfl⟩
            have hMRc := hMR.keep (Kp.of_below hB3)
            have hcatc := hcat.keep (Kp.of_below hB3)
            obtain ⟨hOc, hEc⟩ := hMRc
            rw [punhide HJ] at hOc hEc
            have hst3 : StF wc (qb + 3) (some g) (some ⟨g3, 0, none⟩) kx X := StF.of ⟨hkx, .inr ⟨g3, 0, rfl, rowst_of hown3⟩⟩ (fun q o e => by
              cases e
              exact ⟨Nat.le_trans hzr hlo.1, fun e2 => by have := Option.some.inj e2; have := hlg.2; have := hlo.1; omega⟩)
            rw [hkx] at hX12
            rw [hkx]
            have al : Below wc.heap.size wc (wc.alloc (.cells #[.slice (some ⟨g3, 0, none⟩) kx cap3, .int .u64 (mk.mask : Int)] 59)) := (Below.refl _ _).alloc (Nat.le_refl _) _
            have hOa := ownM_block (w' := wc.alloc (.cells #[.slice (some ⟨g3, 0, none⟩) kx cap3, .int .u64 (mk.mask : Int)] 59)) hOc (fun q hq => al.block q (hOc.lt q hq).2)
            have hBa := hB.trans ((hB3.trans (al.mono hB3.size)).mono hzr)
            have hza := hBa.size
            have hza2 : qb + 3 ≤ (wc.alloc (.cells #[.slice (some ⟨g3, 0, none⟩) kx cap3, .int .u64 (mk.mask : Int)] 59)).heap.size := Nat.le_trans hzr (hB3.trans (al.mono hB3.size)).size
            have hRM : rowM (D ++ [⟨some ⟨g3, 0, none⟩, kx, cap3, ⟨X, mk.mask⟩⟩]) = rowM D ++ cellsM ⟨some ⟨g3, 0, none⟩, kx, cap3, ⟨X, mk.mask⟩⟩ := rowM_snoc _ _
            have HRM := phide hRM
            have HEC := phide hEc
            have HS3 := phide hst3
            have HAL := phide al
            have HCC := phide hcatc
            have hlen : (D ++ [(⟨some ⟨g3, 0, none⟩, kx, cap3, ⟨X, mk.mask⟩⟩ : Dk)]).length = j + 1 := by rw [List.length_append, punhide HJ]; rfl
            have HLEN := phide hlen
            clear hB hB3 hlo hlg hMR hcat hOc hEc hst3 hown3 hcatc hQc hQ hkx hst hRM hlen al c0 c1
            go_wp2_with (at_builtin; refine wpList_append_lies _ rfl _ _ 23 rfl (qb + 3) 59 iM (.agg #[.slice none 0 0, .int .u64 0]) 2 32 Tryz.underlying23 hiM hzM0 hzM1 hzM2 rfl (by decide) _ j _ rfl hOa ⟨wc.heap.size, 0, none⟩ 1 1 (cellsM ⟨some ⟨g3, 0, none⟩, kx, cap3, ⟨X, mk.mask⟩⟩) rfl rfl (newM wc ⟨some ⟨g3, 0, none⟩, kx, cap3, ⟨X, mk.mask⟩⟩ _) (by intro u hu; simp only [cellsM, List.mem_cons, List.not_mem_nil, or_false] at hu; rcases hu with rfl | rfl <;> rfl) (by decide) (by unfold maxLen; omega) (by omega) hza2 _ rfl ?_)
            intro g5 cap5 w6 hown6 hgrow6 hat6 hlt6
            have hat7 : some g = some g5 ∨ g5 = (wc.alloc (.cells #[.slice (some ⟨g3, 0, none⟩) kx cap3, .int .u64 (mk.mask : Int)] 59)).heap.size := hat6.imp id (fun h => h.trans (by simp))
            have hka : Kp (qb + 3) (some g) wc (wc.alloc (.cells #[.slice (some ⟨g3, 0, none⟩) kx cap3, .int .u64 (mk.mask : Int)] 59)) := Kp.of_below (punhide HAL)
            have hL6 := ((punhide HCC).keep hka).app hgrow6 hat7
            have hE6 : ∀ d ∈ D ++ [(⟨some ⟨g3, 0, none⟩, kx, cap3, ⟨X, mk.mask⟩⟩ : Dk)], (d.m.mask < 18446744073709551616 ∧ d.m.path.length ≤ 12) ∧ StF w6 (qb + 3) (some g5) d.a d.n d.m.path := by
              intro d hd
              rcases List.mem_append.1 hd with hd | hd
              · obtain ⟨q1, q2⟩ := punhide HEC d hd
                exact ⟨q1, (q2.keep hka).app hgrow6 hat7⟩
              · rw [List.mem_singleton] at hd
                rw [hd]
                exact ⟨⟨hmk, by show X.length ≤ 12; have := (punhide HS3).1; omega⟩, ((punhide HS3).keep hka).app hgrow6 hat7⟩
            have hB6 := hBa.grown hgrow6 hza2 (fun q hq => (hOa.lt q hq).1)
            have HE6 := phide hE6
            have HL6 := phide hL6
            have hM6 : MR12 w6 (qb + 3) (.slice (some ⟨g5, 0, none⟩) (D ++ [(⟨some ⟨g3, 0, none⟩, kx, cap3, ⟨X, mk.mask⟩⟩ : Dk)]).length cap5) (D ++ [⟨some ⟨g3, 0, none⟩, kx, cap3, ⟨X, mk.mask⟩⟩]) := ⟨by rw [punhide HLEN, punhide HRM]; exact hown6, by rw [punhide HLEN]; exact punhide HE6⟩
            have HM6 := phide hM6
            clear hown6 hgrow6 hat6 hat7 hOa hBa hka hL6 hE6 hM6 x0 x1 x2 x3 x4 e1
            go_wp2
            go_roundg (20 - (j + 1))
            case measure => omega
            case rel => exact ⟨j + 1, g5, cap5, _, rfl, by go_num, rfl, by omega, by omega, HLEN, punhide HM6, punhide HL6, hB6⟩
        case neg =>
          have d1 : decide ((j : Int) < 20) = false := decide_eq_false (by omega)
          go_wp2
          go_meet
          exact ⟨g, cap, D, by rw [punhide HJ], by rw [punhide HJ]; omega, hMR, hcat, hB⟩
      case neg =>
        have d1 : decide ((j : Int) < (m : Int)) = false := decide_eq_false (by omega)
        go_wp2
        go_meet
        exact ⟨g, cap, D, by rw [punhide HJ], by rw [punhide HJ]; omega, hMR, hcat, hB⟩
  case rest =>
    obtain ⟨g, cap, D, rfl, hD20, hM2, hcat2, hB2⟩ := hcut
    obtain ⟨-, hR, hO, -, -, hw⟩ := punhide HF wc hB2
    obtain ⟨mz, hmz⟩ : ∃ mz, D.length = mz := ⟨_, rfl⟩
    obtain ⟨hO2, hE2⟩ := hM2
    rw [hmz] at hO2 hE2 hD20
    rw [hmz]
    obtain ⟨-, x0, x1, x2, x3, x4, x5⟩ := id hO
    have xf0 := x5 0
    have xf1 := x5 1
    have o1 := (hO.put (.slice (some ⟨g1, 0, none⟩) n1 cap1)).1
    have xg1 := o1.f 1
    have xc1 := o1.c1
    have o2 := (o1.put (.slice (some ⟨g, 0, none⟩) mz cap)).2.1
    have r1 := hR.other ⟨qb + 1 + 1, 0, none⟩ (by show qb + 1 ≠ qb + 1 + 1; omega) (.slice (some ⟨g1, 0, none⟩) n1 cap1)
    have r2 := r1.other ⟨qb + 1 + 1, 1, none⟩ (by show qb + 1 ≠ qb + 1 + 1; omega) (.slice (some ⟨g, 0, none⟩) mz cap)
    have hko : Kp (qb + 3) none wc ((wc.setCell ⟨qb + 1 + 1, 0, none⟩ (.slice (some ⟨g1, 0, none⟩) n1 cap1)).setCell ⟨qb + 1 + 1, 1, none⟩ (.slice (some ⟨g, 0, none⟩) mz cap)) := (Kp.of_set ⟨qb + 1 + 1, 0, none⟩ _ (by show qb + 1 + 1 < qb + 3; omega)).trans (Kp.of_set ⟨qb + 1 + 1, 1, none⟩ _ (by show qb + 1 + 1 < qb + 3; omega))
    have hbo := (hw.setCell (p := ⟨qb + 1 + 1, 0, none⟩) (by show qb ≤ qb + 1 + 1; omega) (.slice (some ⟨g1, 0, none⟩) n1 cap1)).setCell (p := ⟨qb + 1 + 1, 1, none⟩) (by show qb ≤ qb + 1 + 1; omega) (.slice (some ⟨g, 0, none⟩) mz cap)
    have hcat3 := hcat2.keep hko.any
    have hO3 := ownM_block (w' := (wc.setCell ⟨qb + 1 + 1, 0, none⟩ (.slice (some ⟨g1, 0, none⟩) n1 cap1)).setCell ⟨qb + 1 + 1, 1, none⟩ (.slice (some ⟨g, 0, none⟩) mz cap)) hO2 (fun q hq => hko.2 q (hO2.lt q hq).1 (hO2.lt q hq).2 (by simp))
    have hE3 : ∀ d ∈ D, (d.m.mask < 18446744073709551616 ∧ d.m.path.length ≤ 12) ∧ StF ((wc.setCell ⟨qb + 1 + 1, 0, none⟩ (.slice (some ⟨g1, 0, none⟩) n1 cap1)).setCell ⟨qb + 1 + 1, 1, none⟩ (.slice (some ⟨g, 0, none⟩) mz cap)) (qb + 3) (some g) d.a d.n d.m.path := fun d hd => ⟨(hE2 d hd).1, (hE2 d hd).2.keep hko.any⟩
    clear hO r1 hR hko hcat2 hO2 hE2 hw hB2 x5 o1
    go_upto_region 27 with fail
    generalize (wc.setCell ⟨qb + 1 + 1, 0, none⟩ (.slice (some ⟨g1, 0, none⟩) n1 cap1)).setCell ⟨qb + 1 + 1, 1, none⟩ (.slice (some ⟨g, 0, none⟩) mz cap) = W9 at *
    clear x0 x1 x2 x3 x4 xf0 xf1 xg1 xc1
    obtain ⟨-, x0, x1, x2, x3, x4, -⟩ := o2
    obtain ⟨-, r0, r1, r3, r4, r5, r6⟩ := id r2
    have g0 := r6 0
    have g1' := r6 1
    have g2 := r6 2
    have g3 := r6 3
    have g4 := r6 4
    have p1 := (r2.put (.slice (some ⟨g1, 0, none⟩) n1 cap1)).1
    have p2 := (p1.put (.slice (some ⟨g, 0, none⟩) mz cap)).2.1
    have p3 := (p2.put (.string tk)).2.2.1
    have p4 := (p3.put (.int .i64 fu)).2.2.2.1
    have p5 := (p4.put (.int .i64 qu)).2.2.2.2
    have k1 := p1.c0
    have k2 := p2.c1
    have k3 := p3.c2
    have k4 := p4.c3
    have k5 := p5.c4
    have hkr : ∀ (W : World) (i : Nat) (u : Value), Kp (qb + 3) none W (W.setCell ⟨qb + 1, i, none⟩ u) := fun W i u => Kp.of_set _ _ (by show qb + 1 < qb + 3; omega)
    have hKF := ((((hkr W9 0 (.slice (some ⟨g1, 0, none⟩) n1 cap1)).trans (hkr _ 1 (.slice (some ⟨g, 0, none⟩) mz cap))).trans (hkr _ 2 (.string tk))).trans (hkr _ 3 (.int .i64 fu))).trans (hkr _ 4 (.int .i64 qu))
    have hcz := phide (hcat3.keep hKF.any)
    have hOz := phide (ownM_block hO3 (fun q hq => hKF.2 q (hO3.lt q hq).1 (hO3.lt q hq).2 (by simp)))
    have hEz := phide (fun d (hd : d ∈ D) => (⟨(hE3 d hd).1, (hE3 d hd).2.keep hKF.any⟩ : (d.m.mask < 18446744073709551616 ∧ d.m.path.length ≤ 12) ∧ StF _ (qb + 3) (some g) d.a d.n d.m.path))
    have hBz := phide (((((hbo.setCell (p := ⟨qb + 1, 0, none⟩) (by show qb ≤ qb + 1; omega) (.slice (some ⟨g1, 0, none⟩) n1 cap1)).setCell (p := ⟨qb + 1, 1, none⟩) (by show qb ≤ qb + 1; omega) (.slice (some ⟨g, 0, none⟩) mz cap)).setCell (p := ⟨qb + 1, 2, none⟩) (by show qb ≤ qb + 1; omega) (.string tk)).setCell (p := ⟨qb + 1, 3, none⟩) (by show qb ≤ qb + 1; omega) (.int .i64 fu)).setCell (p := ⟨qb + 1, 4, none⟩) (by show qb ≤ qb + 1; omega) (.int .i64 qu))
    clear p1 p2 p3 p4 p5 hkr hKF hcat3 hO3 hE3 hbo r2 r6
    go_wp2
    refine bodyPost_ret (v := .agg #[.slice (some ⟨g1, 0, none⟩) n1 cap1, .slice (some ⟨g, 0, none⟩) mz cap, .string tk, .int .i64 fu, .int .i64 qu]) (by simp [results, Tryz.results10, go_sem, k1, k2, k3, k4, k5]) rfl ?_
    obtain ⟨ma, mc, ev, hmm⟩ := marks_of12 (punhide hOz) hmz (fun d hd => ⟨(punhide hEz d hd).1.1, (punhide hEz d hd).2⟩)
    injection ev with e1 e2 e3
    subst e1
    refine ⟨by rw [punhide HQB]; exact punhide hBz, _, ⟨L1, D.map (·.m), tk.data.toList, fu, qu⟩, rfl, ⟨_, n1, cap1, _, mz, cap, tk, rfl, rfl, (punhide hcz).low (by have := punhide HQB; omega), hmm.low (by have := punhide HQB; omega)⟩, by show L1.length ≤ 70; rw [punhide HN1]; exact hL70, punhide HL40, by show (D.map (·.m)).length ≤ 20; rw [List.length_map, hmz]; exact hD20, fun x hx => (by obtain ⟨d, hd, rfl⟩ := List.mem_map.1 hx; exact (punhide hEz d hd).1.2), by show tk.data.toList.length ≤ 100; rw [len_size]; exact htk⟩
end Go.Proofs.YtnagecbepidfiaaGreatDoor.Pol
