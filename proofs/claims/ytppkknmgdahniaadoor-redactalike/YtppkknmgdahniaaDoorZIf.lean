/- What is proved here: the document's own Alike of any two, walked; conditions: the values lie, with no more than a million keys and kids anywhere. Written by ralike_gen.py. -/
import Derived.Test.YtppkknmgdahniaaDoorZIe
import Derived.Test.YtppkknmgdahniaaDoorZYd
import Derived.Test.YtppkknmgdahniaaDoorZYf
namespace Go.Proofs.YtppkknmgdahniaaDoor.Pol
set_option maxRecDepth 100000
open Go.RowKit Go.Proofs.YtppkknmgdahniaaDoor.Nc Go.Proofs.YtppkknmgdahniaaDoor.Np Go.Proofs.YtppkknmgdahniaaDoor.Nq
set_option maxRecDepth 100000
set_option linter.unusedVariables false
set_option linter.unusedSimpArgs false

set_option maxHeartbeats 8000000 in
theorem ralike_any (ok ok' : Nat → Prop) (cl : Nat) (hcl : cl < 18446744073709551616) : ∀ (n : Nat) (va vb : Value) (ta tb : Tr) (q : Bool) (w : World), likeB (hidU cl) n ta tb = q → Lies ok w n va ta → Lies ok' w n vb tb → okT n ta → okT n tb →
    Calls Tryd.prog 22 #[va, vb, .int .u64 (cl : Int)] w fun e w' => e = .returned (.bool q) ∧ Below w.heap.size w w'
  | 0, _, _, _, _, _, _, _, h, _, _, _ => h.elim
  | n + 1, va, vb, ta, tb, q, w, hq, h1, h2, ho, ho' => by
    obtain ⟨⟨k, m, ng, dg, sc, tx, ks, cd⟩, l, ka, kc, da, dc, rfl, rfl, hm64, hkc, hdc, hks, hkid⟩ := id h1.node
    obtain ⟨⟨k', m', ng', dg', sc', tx', ks', cd'⟩, l', ka', kc', da', dc', rfl, rfl, hm64', hkc', hdc', hks', hkid'⟩ := id h2.node
    change m < 18446744073709551616 at hm64
    change m' < 18446744073709551616 at hm64'
    have hkl : ks.length ≤ 1000000 := ho.1
    have hkl' : ks'.length ≤ 1000000 := ho'.1
    have hll : l.length ≤ 1000000 := ho.2.1
    have hll' : l'.length ≤ 1000000 := ho'.2.1
    have IH := phide (fun va vb ta tb q W => ralike_any ok ok' cl hcl n va vb ta tb q W)
    have HO := phide ho.2.2
    have HO' := phide ho'.2.2
    have HK := phide hkid
    have HK' := phide hkid'
    obtain ⟨w1, e1, z1, g1, x1⟩ := alloc_facts w #[.int .i64 k, .int .u64 (m : Int), .bool ng, .string dg, .int .i64 sc, .string tx, .slice ka ks.length kc, .slice da l.length dc, .int .i64 cd] 31
    obtain ⟨w2, e2, z2, g2, x2⟩ := alloc_facts w1 #[.int .i64 k', .int .u64 (m' : Int), .bool ng', .string dg', .int .i64 sc', .string tx', .slice ka' ks'.length kc', .slice da' l'.length dc', .int .i64 cd'] 31
    have hg : Below w.heap.size w w2 := g1.trans (g2.mono (by omega))
    rw [z1] at x2
    have HX : Hid (∀ W, Below w2.heap.size w2 W → Bx W w.heap.size #[.int .i64 k, .int .u64 (m : Int), .bool ng, .string dg, .int .i64 sc, .string tx, .slice ka ks.length kc, .slice da l.length dc, .int .i64 cd] 31 ∧ Bx W (w.heap.size + 1) #[.int .i64 k', .int .u64 (m' : Int), .bool ng', .string dg', .int .i64 sc', .string tx', .slice ka' ks'.length kc', .slice da' l'.length dc', .int .i64 cd'] 31) := phide (fun W hW => ⟨(x1.below g2).below hW, x2.below hW⟩)
    have HBW : Hid (∀ W, Below w2.heap.size w2 W → Below w.heap.size w W) := phide (fun W hW => below_next hg hW)
    obtain ⟨qa, hqa⟩ : ∃ qa, hidU cl m = qa := ⟨_, rfl⟩
    obtain ⟨qb, hqb⟩ : ∃ qb, hidU cl m' = qb := ⟨_, rfl⟩
    have hl1 := h1.below hg
    have hl2 := h2.below hg
    have HCA : Hid (∀ W, Below w2.heap.size w2 W → _) := phide (fun W hW => rhidden_any ok (n + 1) _ (Tr.mk ⟨k, m, ng, dg, sc, tx, ks, cd⟩ l) cl hcl qa hqa W (hl1.below hW))
    have HCB : Hid (∀ W, Below w2.heap.size w2 W → _) := phide (fun W hW => rhidden_any ok' (n + 1) _ (Tr.mk ⟨k', m', ng', dg', sc', tx', ks', cd'⟩ l') cl hcl qb hqb W (hl2.below hW))
    obtain ⟨bh, hbh⟩ : ∃ b, hdB ⟨k, m, ng, dg, sc, tx, ks, cd⟩ ⟨k', m', ng', dg', sc', tx', ks', cd'⟩ = b := ⟨_, rfl⟩
    have HCS : Hid (∀ W, Below w2.heap.size w2 W → Calls Tryd.prog 31 #[.agg #[.int .i64 k, .int .u64 (m : Int), .bool ng, .string dg, .int .i64 sc, .string tx, .slice ka ks.length kc, .slice none 0 0, .int .i64 cd], .agg #[.int .i64 k', .int .u64 (m' : Int), .bool ng', .string dg', .int .i64 sc', .string tx', .slice ka' ks'.length kc', .slice none 0 0, .int .i64 cd']] W fun e w' => e = .returned (.bool bh) ∧ Below W.heap.size W w') := phide (fun W hW => by
      have k1 : Lies ok W 1 (.agg #[.int .i64 k, .int .u64 (m : Int), .bool ng, .string dg, .int .i64 sc, .string tx, .slice ka ks.length kc, .slice none 0 0, .int .i64 cd]) (Tr.mk ⟨k, m, ng, dg, sc, tx, ks, cd⟩ []) := Lies.mk (n := 0) (hd := ⟨k, m, ng, dg, sc, tx, ks, cd⟩) (l := []) hm64 hkc ⟨Nat.le_refl _, fun _ => rfl⟩ (fun i hi => by
        obtain ⟨b, o, e, h3, h4, h5⟩ := hks i hi
        have hW2 := below_next hg hW
        exact ⟨b, o, e, h3, Nat.lt_of_lt_of_le h4 hW2.size, by rw [hW2.cell (p := ⟨b, o + i, none⟩) h4]; exact h5⟩) (fun i hi => absurd hi (by simp))
      have k2 : Lies ok' W 1 (.agg #[.int .i64 k', .int .u64 (m' : Int), .bool ng', .string dg', .int .i64 sc', .string tx', .slice ka' ks'.length kc', .slice none 0 0, .int .i64 cd']) (Tr.mk ⟨k', m', ng', dg', sc', tx', ks', cd'⟩ []) := Lies.mk (n := 0) (hd := ⟨k', m', ng', dg', sc', tx', ks', cd'⟩) (l := []) hm64' hkc' ⟨Nat.le_refl _, fun _ => rfl⟩ (fun i hi => by
        obtain ⟨b, o, e, h3, h4, h5⟩ := hks' i hi
        have hW2 := below_next hg hW
        exact ⟨b, o, e, h3, Nat.lt_of_lt_of_le h4 hW2.size, by rw [hW2.cell (p := ⟨b, o + i, none⟩) h4]; exact h5⟩) (fun i hi => absurd hi (by simp))
      refine rsame_any ok ok' 1 _ _ (Tr.mk ⟨k, m, ng, dg, sc, tx, ks, cd⟩ []) (Tr.mk ⟨k', m', ng', dg', sc', tx', ks', cd'⟩ []) bh W ?_ k1 k2 ⟨hkl, Nat.zero_le _, fun k hk => by cases hk⟩ ⟨hkl', Nat.zero_le _, fun k hk => by cases hk⟩
      show (hdB ⟨k, m, ng, dg, sc, tx, ks, cd⟩ ⟨k', m', ng', dg', sc', tx', ks', cd'⟩ && true) = bh
      rw [hbh, Bool.and_true])
    have HL : Hid (w.alloc (.cells #[.int .i64 k, .int .u64 (m : Int), .bool ng, .string dg, .int .i64 sc, .string tx, .slice ka ks.length kc, .slice da l.length dc, .int .i64 cd] 31) = w1 ∧ w1.alloc (.cells #[.int .i64 k', .int .u64 (m' : Int), .bool ng', .string dg', .int .i64 sc', .string tx', .slice ka' ks'.length kc', .slice da' l'.length dc', .int .i64 cd'] 31) = w2) := phide ⟨e1, e2⟩
    have hqq : (if qa || qb then qa && qb else bh && rowsB (likeB (hidU cl) n) l l') = q := by rw [← hqa, ← hqb, ← hbh]; exact hq
    have HQ := phide hqq
    have hB : Below w2.heap.size w2 w2 := Below.refl _ _
    clear hq hqq e1 e2 z1 z2 g1 g2 x1 x2 hg hl1 hl2 h1 h2 hks hkid hks' hkid' ho ho' hqa hqb hkc hdc hkc' hdc' hbh
    go_enter Tryd.func22, Tryd.ntmps22
    go_upto_region 1 with fail
    rw [(punhide HL).1, (punhide HL).2]
    clear HL
    obtain ⟨x1, x2⟩ := punhide HX _ hB
    obtain ⟨a0, a1, a2, a3, a4, a5, a6, a7, a8⟩ : _ ∧ _ ∧ _ ∧ _ ∧ _ ∧ _ ∧ _ ∧ _ ∧ _ := ⟨(x1).cell 0, (x1).cell 1, (x1).cell 2, (x1).cell 3, (x1).cell 4, (x1).cell 5, (x1).cell 6, (x1).cell 7, (x1).cell 8⟩
    obtain ⟨b0, b1, b2, b3, b4, b5, b6, b7, b8⟩ : _ ∧ _ ∧ _ ∧ _ ∧ _ ∧ _ ∧ _ ∧ _ ∧ _ := ⟨(x2).cell 0, (x2).cell 1, (x2).cell 2, (x2).cell 3, (x2).cell 4, (x2).cell 5, (x2).cell 6, (x2).cell 7, (x2).cell 8⟩
    clear x1 x2
    go_wp2_with fail
    refine (punhide HCA _ hB).mono ?_
    rintro e9 w3 ⟨rfl, bb⟩
    clear a0 a1 a2 a3 a4 a5 a6 a7 a8 b0 b1 b2 b3 b4 b5 b6 b7 b8
    replace hB := below_next hB bb
    clear bb
    obtain ⟨x1, x2⟩ := punhide HX _ hB
    obtain ⟨a0, a1, a2, a3, a4, a5, a6, a7, a8⟩ : _ ∧ _ ∧ _ ∧ _ ∧ _ ∧ _ ∧ _ ∧ _ ∧ _ := ⟨(x1).cell 0, (x1).cell 1, (x1).cell 2, (x1).cell 3, (x1).cell 4, (x1).cell 5, (x1).cell 6, (x1).cell 7, (x1).cell 8⟩
    obtain ⟨b0, b1, b2, b3, b4, b5, b6, b7, b8⟩ : _ ∧ _ ∧ _ ∧ _ ∧ _ ∧ _ ∧ _ ∧ _ ∧ _ := ⟨(x2).cell 0, (x2).cell 1, (x2).cell 2, (x2).cell 3, (x2).cell 4, (x2).cell 5, (x2).cell 6, (x2).cell 7, (x2).cell 8⟩
    clear x1 x2
    go_wp2_with fail
    refine (punhide HCB _ hB).mono ?_
    rintro e9 w4 ⟨rfl, bb⟩
    clear a0 a1 a2 a3 a4 a5 a6 a7 a8 b0 b1 b2 b3 b4 b5 b6 b7 b8
    replace hB := below_next hB bb
    clear bb
    obtain ⟨x1, x2⟩ := punhide HX _ hB
    obtain ⟨a0, a1, a2, a3, a4, a5, a6, a7, a8⟩ : _ ∧ _ ∧ _ ∧ _ ∧ _ ∧ _ ∧ _ ∧ _ ∧ _ := ⟨(x1).cell 0, (x1).cell 1, (x1).cell 2, (x1).cell 3, (x1).cell 4, (x1).cell 5, (x1).cell 6, (x1).cell 7, (x1).cell 8⟩
    obtain ⟨b0, b1, b2, b3, b4, b5, b6, b7, b8⟩ : _ ∧ _ ∧ _ ∧ _ ∧ _ ∧ _ ∧ _ ∧ _ ∧ _ := ⟨(x2).cell 0, (x2).cell 1, (x2).cell 2, (x2).cell 3, (x2).cell 4, (x2).cell 5, (x2).cell 6, (x2).cell 7, (x2).cell 8⟩
    clear x1 x2
    cases qa with
    | true =>
      have HQF : Hid (q = qb) := phide (by have := punhide HQ; simpa using this.symm)
      cases qb with
      | true =>
        go_wp2_with fail
        go_ret
        exact ⟨by rw [punhide HQF]; rfl, punhide HBW _ hB⟩
      | false =>
        go_wp2_with fail
        go_ret
        exact ⟨by rw [punhide HQF]; rfl, punhide HBW _ hB⟩
    | false =>
      cases qb with
      | true =>
        have HQF : Hid (q = false) := phide (by have := punhide HQ; simpa using this.symm)
        go_wp2_with fail
        go_ret
        exact ⟨by rw [punhide HQF]; rfl, punhide HBW _ hB⟩
      | false =>
        have HSZ := phide hB.size
        have HQ3 : Hid ((bh && rowsB (likeB (hidU cl) n) l l') = q) := phide (by have := punhide HQ; simpa using this)
        obtain ⟨w5, e5, z5, g5, x5⟩ := alloc_facts w4 #[.int .i64 k, .int .u64 (m : Int), .bool ng, .string dg, .int .i64 sc, .string tx, .slice ka ks.length kc, .slice da l.length dc, .int .i64 cd] 31
        have hB5 := below_next hB g5
        have HE := phide e5
        have HF := phide (And.intro hB5 x5)
        clear e5 g5 x5 hB5 HQ
        go_upto_region 6 with fail
        rw [punhide HE]
        clear HE hB
        clear a0 a1 a2 a3 a4 a5 a6 a7 a8 b0 b1 b2 b3 b4 b5 b6 b7 b8
        obtain ⟨hB5, x5⟩ := punhide HF
        have hpl := x5.lt
        obtain ⟨x1, x2⟩ := punhide HX _ hB5
        obtain ⟨b0, b1, b2, b3, b4, b5, b6, b7, b8⟩ : _ ∧ _ ∧ _ ∧ _ ∧ _ ∧ _ ∧ _ ∧ _ ∧ _ := ⟨(x2).cell 0, (x2).cell 1, (x2).cell 2, (x2).cell 3, (x2).cell 4, (x2).cell 5, (x2).cell 6, (x2).cell 7, (x2).cell 8⟩
        clear x1 x2
        obtain ⟨w6, e6, z6, g6, x6⟩ := alloc_facts w5 #[.int .i64 k', .int .u64 (m' : Int), .bool ng', .string dg', .int .i64 sc', .string tx', .slice ka' ks'.length kc', .slice da' l'.length dc', .int .i64 cd'] 31
        have hB6 := below_next hB5 g6
        have x5' := x5.below g6
        rw [z5] at x6
        have HE := phide e6
        have hne : w4.heap.size ≠ w4.heap.size + 1 := by omega
        have hne2 : w4.heap.size + 1 ≠ w4.heap.size := by omega
        have y5 : Bx (w6.setCell ⟨w4.heap.size, 7, none⟩ (.slice none 0 0)) w4.heap.size #[.int .i64 k, .int .u64 (m : Int), .bool ng, .string dg, .int .i64 sc, .string tx, .slice ka ks.length kc, .slice none 0 0, .int .i64 cd] 31 := x5'.setAt (.slice none 0 0) rfl
        have y6 : Bx (w6.setCell ⟨w4.heap.size, 7, none⟩ (.slice none 0 0)) (w4.heap.size + 1) #[.int .i64 k', .int .u64 (m' : Int), .bool ng', .string dg', .int .i64 sc', .string tx', .slice ka' ks'.length kc', .slice da' l'.length dc', .int .i64 cd'] 31 := x6.setX hne2
        have hBX : Below w2.heap.size w2 (w6.setCell ⟨w4.heap.size, 7, none⟩ (.slice none 0 0)) := hB6.setCell (p := ⟨w4.heap.size, 7, none⟩) (punhide HSZ) _
        have p7 := x5'.cell 7
        have pf := x5'.free 7
        have HF2 := phide (And.intro y5 (And.intro y6 hBX))
        clear e6 z6 g6 x6 x5' hB6 hB5 x5 y5 y6 hBX HF
        go_upto_region 7 with fail
        rw [punhide HE]
        clear HE b0 b1 b2 b3 b4 b5 b6 b7 b8
        go_upto_region 8 with fail
        obtain ⟨y5, y6, hBX⟩ := punhide HF2
        clear HF2 p7 pf
        generalize w6.setCell ⟨w4.heap.size, 7, none⟩ (.slice none 0 0) = X1 at y5 y6 hBX ⊢
        have q7 := y6.cell 7
        have qf := y6.free 7
        have hw45 : w2.heap.size ≤ w4.heap.size + 1 := by have := punhide HSZ; omega
        have z5 : Bx (X1.setCell ⟨w4.heap.size + 1, 7, none⟩ (.slice none 0 0)) w4.heap.size #[.int .i64 k, .int .u64 (m : Int), .bool ng, .string dg, .int .i64 sc, .string tx, .slice ka ks.length kc, .slice none 0 0, .int .i64 cd] 31 := y5.setX hne
        have z6 : Bx (X1.setCell ⟨w4.heap.size + 1, 7, none⟩ (.slice none 0 0)) (w4.heap.size + 1) #[.int .i64 k', .int .u64 (m' : Int), .bool ng', .string dg', .int .i64 sc', .string tx', .slice ka' ks'.length kc', .slice none 0 0, .int .i64 cd'] 31 := y6.setAt (.slice none 0 0) rfl
        have hBY : Below w2.heap.size w2 (X1.setCell ⟨w4.heap.size + 1, 7, none⟩ (.slice none 0 0)) := hBX.setCell (p := ⟨w4.heap.size + 1, 7, none⟩) hw45 _
        have HF3 := phide (And.intro z5 (And.intro z6 hBY))
        clear y5 y6 hBX z5 z6 hBY hw45
        go_upto_region 9 with fail
        obtain ⟨z5, z6, hB6⟩ := punhide HF3
        clear HF3 q7 qf
        generalize X1.setCell ⟨w4.heap.size + 1, 7, none⟩ (.slice none 0 0) = X2 at z5 z6 hB6 ⊢
        obtain ⟨c0, c1, c2, c3, c4, c5, c6, c7, c8⟩ : _ ∧ _ ∧ _ ∧ _ ∧ _ ∧ _ ∧ _ ∧ _ ∧ _ := ⟨(z5).cell 0, (z5).cell 1, (z5).cell 2, (z5).cell 3, (z5).cell 4, (z5).cell 5, (z5).cell 6, (z5).cell 7, (z5).cell 8⟩
        obtain ⟨d0, d1, d2, d3, d4, d5, d6, d7, d8⟩ : _ ∧ _ ∧ _ ∧ _ ∧ _ ∧ _ ∧ _ ∧ _ ∧ _ := ⟨(z6).cell 0, (z6).cell 1, (z6).cell 2, (z6).cell 3, (z6).cell 4, (z6).cell 5, (z6).cell 6, (z6).cell 7, (z6).cell 8⟩
        clear z5 z6
        go_wp2_with fail
        refine (punhide HCS _ hB6).mono ?_
        rintro e9 w7 ⟨rfl, bb⟩
        clear c0 c1 c2 c3 c4 c5 c6 c7 c8 d0 d1 d2 d3 d4 d5 d6 d7 d8
        have hB := below_next hB6 bb
        clear bb hB6
        obtain ⟨x1, x2⟩ := punhide HX _ hB
        obtain ⟨a0, a1, a2, a3, a4, a5, a6, a7, a8⟩ : _ ∧ _ ∧ _ ∧ _ ∧ _ ∧ _ ∧ _ ∧ _ ∧ _ := ⟨(x1).cell 0, (x1).cell 1, (x1).cell 2, (x1).cell 3, (x1).cell 4, (x1).cell 5, (x1).cell 6, (x1).cell 7, (x1).cell 8⟩
        obtain ⟨b0, b1, b2, b3, b4, b5, b6, b7, b8⟩ : _ ∧ _ ∧ _ ∧ _ ∧ _ ∧ _ ∧ _ ∧ _ ∧ _ := ⟨(x2).cell 0, (x2).cell 1, (x2).cell 2, (x2).cell 3, (x2).cell 4, (x2).cell 5, (x2).cell 6, (x2).cell 7, (x2).cell 8⟩
        clear x1 x2
        cases bh with
        | false =>
          have HQF : Hid (q = false) := phide (by have := punhide HQ3; simpa using this.symm)
          go_wp2_with fail
          go_ret
          exact ⟨by rw [punhide HQF]; rfl, punhide HBW _ hB⟩
        | true =>
          have HQ2 : Hid (rowsB (likeB (hidU cl) n) l l' = q) := phide (by have := punhide HQ3; simpa using this)
          by_cases hln : l.length = l'.length
          · obtain ⟨N, hN⟩ : ∃ n, l.length = n := ⟨_, rfl⟩
            have hN' : l'.length = N := by omega
            have HLN := phide hln
            rw [hN] at a7 hll
            rw [hN'] at b7
            have HB1 := phide hB
            clear hln hB
            go_wp2_with fail
            go_loopw [12] (fun i wr => ∃ k0 : Nat, i = .int .i64 (k0 : Int) ∧ k0 ≤ N ∧ rowsB (likeB (hidU cl) n) (l.take k0) (l'.take k0) = true ∧ Below w7.heap.size w7 wr) (fun i _ => N - (intOf i).toNat)
            case atStart => exact ⟨0, rfl, by omega, by simp [rowsB], Below.refl _ _⟩
            case round =>
              obtain ⟨k0, rfl, hk9, hp, hBr⟩ := hrel
              clear a0 a1 a2 a3 a4 a5 a6 a7 a8 b0 b1 b2 b3 b4 b5 b6 b7 b8
              have hB := below_next (punhide HB1) hBr
              have hBw := punhide HBW _ hB
              obtain ⟨x1, x2⟩ := punhide HX _ hB
              rw [hN] at x1
              rw [hN'] at x2
              have a7 := x1.cell 7
              have b7 := x2.cell 7
              clear x1 x2
              by_cases hlt : k0 < N
              · obtain ⟨b, o, hd2, ka2, kn2, kc2, da2, dn2, dc2, hao, hb, ⟨c0, c1, c2, c3, c4, c5, c6, c7, c8⟩, hlies⟩ := kid_at (punhide HK) hBw k0 (by omega)
                obtain ⟨b', o', hd2', ka2', kn2', kc2', da2', dn2', dc2', hao', hb', ⟨c0', c1', c2', c3', c4', c5', c6', c7', c8'⟩, hlies'⟩ := kid_at (punhide HK') hBw k0 (by omega)
                subst hao
                subst hao'
                obtain ⟨bq, hbq⟩ : ∃ bq, likeB (hidU cl) n (l[k0]'(by omega)) (l'[k0]'(by omega)) = bq := ⟨_, rfl⟩
                have hk1 : k0 < l.length := by omega
                have hk2 : k0 < l'.length := by omega
                have C := fun W hW => punhide IH _ _ (l[k0]'hk1) (l'[k0]'hk2) bq W hbq (Lies.below hW hlies) (Lies.below hW hlies') (punhide HO _ (List.getElem_mem hk1)) (punhide HO' _ (List.getElem_mem hk2))
                clear hk1 hk2
                have HC := phide C
                have HB2 := phide hB
                have HBR := phide hBr
                have hi : (k0 : Int) < (N : Int) := by omega
                have hr := rowsB_take (f := likeB (hidU cl) n) l l' k0 hp (by omega) (by omega)
                rw [hbq] at hr
                have HR := phide hr
                clear C hBr hBw hlies hlies' hr hbq hp hN hN' hB
                cases bq with
                | true =>
                  go_wp2_with fail
                  go_region_with (go_at_call 22; refine (punhide HC _ ((Below.refl _ _).drew)).mono ?_; rintro e W2 ⟨rfl, hb2⟩)
                  all_goals
                    have hBR2 : Below w7.heap.size w7 W2 := (punhide HBR).trans ((Below.drew (Below.refl w7.heap.size wr)).trans (hb2.mono (punhide HBR).size))
                    clear hb2 a7 b7
                    go_wp2_with fail
                    go_roundw
                    case rel => exact ⟨k0 + 1, by go_num, hlt, punhide HR, hBR2⟩
                    case measure => simp [intOf]; omega
                | false =>
                  go_wp2_with fail
                  go_region_with (go_at_call 22; refine (punhide HC _ ((Below.refl _ _).drew)).mono ?_; rintro e W2 ⟨rfl, hb2⟩)
                  all_goals
                    have hBR2 : Below w7.heap.size w7 W2 := (punhide HBR).trans ((Below.drew (Below.refl w7.heap.size wr)).trans (hb2.mono (punhide HBR).size))
                    have HB3 := phide (punhide HBW _ (below_next (punhide HB1) hBR2))
                    have HF : Hid (q = false) := phide (by rw [← punhide HQ2]; exact rowsB_cut l l' (k0 + 1) (punhide HR) (punhide HLN))
                    clear hb2 a7 b7
                    go_wp2_with fail
                    go_ret
                    exact ⟨by rw [punhide HF]; rfl, punhide HB3⟩
              · have HBW2 := phide hBw
                have HF : Hid (q = true) := phide (by
                  have h := hp
                  rw [List.take_of_length_le (by omega), List.take_of_length_le (by omega)] at h
                  rw [← punhide HQ2]; exact h)
                have hi : ¬ (k0 : Int) < (N : Int) := by omega
                clear hBw hBr hB
                go_wp2_with fail
                go_ret
                exact ⟨by rw [punhide HF]; rfl, punhide HBW2⟩
          · have HF : Hid (q = false) := phide (by
              rw [← punhide HQ2]
              cases e : rowsB (likeB (hidU cl) n) l l'
              · rfl
              · exact absurd (rowsB_len e) hln)
            have hli : ¬ (l.length : Int) = (l'.length : Int) := by omega
            clear hln
            go_wp2_with fail
            all_goals
              go_ret
              exact ⟨by rw [punhide HF]; rfl, punhide HBW _ hB⟩
end Go.Proofs.YtppkknmgdahniaaDoor.Pol
