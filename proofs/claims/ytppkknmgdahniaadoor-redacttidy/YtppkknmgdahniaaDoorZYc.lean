/- What is proved here: how package redact visits the kids of a node with each of its closures, walked; conditions: the value lies, the node is one of a row's. Written by each_gen.py. -/
import Derived.Test.YtppkknmgdahniaaDoorZYb
import Derived.Test.YtppkknmgdahniaaDoorZYa
import Derived.Laws.EntriesVeiled
namespace Go.Proofs.YtppkknmgdahniaaDoor.Pol
set_option maxRecDepth 100000
open Go.RowKit Go.Proofs.YtppkknmgdahniaaDoor.Nc Go.Proofs.YtppkknmgdahniaaDoor.Np Go.Proofs.YtppkknmgdahniaaDoor.Nq
set_option maxRecDepth 100000
set_option linter.unusedVariables false
set_option linter.unusedSimpArgs false

theorem step_list {h : Hd} (e : h.k = 6) (k : Nat) : Np.valS (stepT h k) = .agg #[.int .i64 2, .string ⟨#[]⟩, .int .i64 (k : Int)] := by unfold stepT; rw [if_pos e]; rfl
theorem step_obj {h : Hd} (e : h.k = 7) (k : Nat) (hk : k < h.ks.length) : Np.valS (stepT h k) = .agg #[.int .i64 1, .string (h.ks[k]'hk), .int .i64 0] := by
  unfold stepT; rw [if_neg (by rw [e]; decide), if_pos e, dif_pos hk]; rfl
theorem kids_of {ok : Nat → Prop} {w : World} {n : Nat} {h : Hd} {l : List Tr} {k m : Int} {ng : Bool} {dg : ByteArray} {sc : Int} {tx : ByteArray} {ka da : Option Addr} {kn kc dn dc : Nat} {cd : Int}
    (hl : Lies ok w (n + 1) (.agg #[.int .i64 k, .int .u64 m, .bool ng, .string dg, .int .i64 sc, .string tx, .slice ka kn kc, .slice da dn dc, .int .i64 cd]) (Tr.mk h l)) :
    (∀ i, ∀ hi : i < h.ks.length, ∃ b o, ka = some ⟨b, o, none⟩ ∧ ok b ∧ b < w.heap.size ∧ w.cell? ⟨b, o + i, none⟩ = some (.string (h.ks[i]'hi))) ∧
    (∀ i, ∀ hi : i < l.length, ∃ b o cs, da = some ⟨b, o, none⟩ ∧ ok b ∧ b < w.heap.size ∧ Row9 w b (o + i * 9) cs ∧ Lies ok w n (.agg cs) (l[i]'hi)) := by
  obtain ⟨h', l', ka', kc', da', dc', ht, he, -, -, -, hks, hkid⟩ := hl.node
  obtain ⟨rfl, rfl⟩ := Tr.mk_inj ht
  have h2 := congrArg Array.toList (Value.agg.inj he)
  simp only [List.cons.injEq, Value.slice.injEq, and_true] at h2
  obtain ⟨-, -, -, -, -, -, ⟨rfl, -, -⟩, ⟨rfl, -, -⟩, -⟩ := h2
  exact ⟨hks, hkid⟩
set_option maxHeartbeats 4000000 in
theorem eachS_any (ok : Nat → Prop) (n : Nat) (v : Value) (h : Hd) (l : List Tr) (w : World) (hl : Lies ok w (n + 1) v (Tr.mk h l)) (hg : goodH h l.length) (c1 c2 c3 : Value) (Inv : Nat → World → Prop) (R : World → World → Prop)
    (h0 : ∀ W, Below w.heap.size w W → Inv 0 W) (hext : ∀ k W W', Inv k W → Below W.heap.size W W' → Inv k W')
    (rbx : ∀ W W', R W W' → ∀ cs, Bx W w.heap.size cs 31 → Bx W' w.heap.size cs 31) (rk : ∀ W W', R W W' → Kept ok W W')
    (C : ∀ k, ∀ hk : k < l.length, ∀ v2 W, Inv k W → Lies ok W n v2 (l[k]'hk) → Calls Tryd.prog 48 #[Np.valS (stepT h k), v2, c1, c2, c3] W fun e W' => e = .returned (.tuple #[]) ∧ Inv (k + 1) W' ∧ R W W') :
    Calls Tryd.prog 41 #[v, .func (Fn.func 48) #[] #[c1, c2, c3]] w fun e w' => e = .returned (.tuple #[]) ∧ Inv l.length w' := by
  obtain ⟨h', l', ka, kc, da, dc, ht, rfl, hm64, hkc, hdc, -, -⟩ := hl.node
  obtain ⟨rfl, rfl⟩ := Tr.mk_inj ht
  have hbx0 := Bx.new w #[.int .i64 h.k, .int .u64 (h.m : Int), .bool h.ng, .string h.dg, .int .i64 h.sc, .string h.tx, .slice ka h.ks.length kc, .slice da l.length dc, .int .i64 h.cd] 31
  have hB0 : Below w.heap.size w (w.alloc (.cells #[.int .i64 h.k, .int .u64 (h.m : Int), .bool h.ng, .string h.dg, .int .i64 h.sc, .string h.tx, .slice ka h.ks.length kc, .slice da l.length dc, .int .i64 h.cd] 31)) := (Below.refl _ _).alloc (Nat.le_refl _) _
  have hi0 := h0 _ hB0
  have hl0 := hl.below hB0
  have hlen : l.length ≤ 7 := hg.1.2.2.1
  have HEXT := phide hext
  have HRB := phide rbx
  have HRK := phide rk
  have HC := phide C
  clear ht h0 hext rbx rk C hl hB0
  by_cases h6 : h.k = 6
  · have H6 := phide h6
    rw [h6] at hbx0 ⊢
    have c0 := hbx0.cell 0
    have c7 := hbx0.cell 7
    have HL0 : Hid (Lies ok (w.alloc (.cells #[.int .i64 6, .int .u64 (h.m : Int), .bool h.ng, .string h.dg, .int .i64 h.sc, .string h.tx, .slice ka h.ks.length kc, .slice da l.length dc, .int .i64 h.cd] 31)) (n + 1) (.agg #[.int .i64 6, .int .u64 (h.m : Int), .bool h.ng, .string h.dg, .int .i64 h.sc, .string h.tx, .slice ka h.ks.length kc, .slice da l.length dc, .int .i64 h.cd]) (Tr.mk h l)) := phide (by rw [h6] at hl0; exact hl0)
    have HI0 : Hid (Inv 0 (w.alloc (.cells #[.int .i64 6, .int .u64 (h.m : Int), .bool h.ng, .string h.dg, .int .i64 h.sc, .string h.tx, .slice ka h.ks.length kc, .slice da l.length dc, .int .i64 h.cd] 31))) := phide (by rw [h6] at hi0; exact hi0)
    clear hl0 hi0 h6 hg
    go_enter Tryd.func41, Tryd.ntmps41
    go_wp2_with fail
    go_loopw [14] (fun I wr => ∃ k : Nat, I = .int .i64 (k : Int) ∧ k ≤ l.length ∧ Lies ok wr (n + 1) (.agg #[.int .i64 6, .int .u64 (h.m : Int), .bool h.ng, .string h.dg, .int .i64 h.sc, .string h.tx, .slice ka h.ks.length kc, .slice da l.length dc, .int .i64 h.cd]) (Tr.mk h l) ∧ Inv k wr) (fun I _ => l.length - (intOf I).toNat)
    case atStart => exact ⟨0, rfl, Nat.zero_le _, punhide HL0, punhide HI0⟩
    case round =>
      obtain ⟨k, rfl, hk9, hlr, hir⟩ := hrel
      clear hbx0 c0 c7
      by_cases hlt : k < l.length
      · obtain ⟨b, o, hd2, ka2, kn2, kc2, da2, dn2, dc2, rfl, hb, ⟨c0, c1, c2, c3, c4, c5, c6, c7, c8⟩, hlies⟩ := kid_at (kids_of hlr).2 (Below.refl _ wr) k hlt
        have CK := punhide HC k hlt
        rw [step_list (punhide H6)] at CK
        have HCK := phide CK
        have hi : (k : Int) < (l.length : Int) := by omega
        have HLR := phide hlr
        have HIR := phide hir
        have HLK := phide hlies
        clear CK hlr hir hlies
        go_wp2_with fail
        refine (punhide HCK _ _ (punhide HEXT _ _ _ (punhide HIR) ((Below.refl _ _).alloc (Nat.le_refl _) _)) ((punhide HLK).below ((Below.refl _ _).alloc (Nat.le_refl _) _))).mono ?_
        rintro e W ⟨rfl, hi2, hR⟩
        have hl2 := ((punhide HLR).below ((Below.refl _ _).alloc (Nat.le_refl _) _)).keep (punhide HRK _ _ hR) (fun _ _ h => h)
        clear c0 c1 c2 c3 c4 c5 c6 c7 c8 hR
        go_wp2_with fail
        go_roundw
        case rel => exact ⟨k + 1, by go_num, hlt, hl2, hi2⟩
        case measure => simp [intOf]; omega
      · have e1 : ¬ (k : Int) < (l.length : Int) := by omega
        obtain rfl : k = l.length := by omega
        clear hlr
        go_wp2_with fail
        go_returns
        exact ⟨rfl, hir⟩
  · by_cases h7 : h.k = 7
    · have hkl : h.ks.length = l.length := (hg.2.1 h7).1
      have H7 := phide h7
      rw [h7] at hl0 hi0 hbx0 ⊢
      rw [hkl] at hl0 hi0 hbx0 ⊢
      have c0 := hbx0.cell 0
      have c6 := hbx0.cell 6
      have c7 := hbx0.cell 7
      have HL0 := phide (And.intro hl0 (And.intro hi0 hbx0))
      clear hl0 hi0 h7 hg h6
      go_enter Tryd.func41, Tryd.ntmps41
      go_wp2_with fail
      go_loopw [34] (fun I wr => ∃ k : Nat, I = .int .i64 (k : Int) ∧ k ≤ l.length ∧ Lies ok wr (n + 1) (.agg #[.int .i64 7, .int .u64 (h.m : Int), .bool h.ng, .string h.dg, .int .i64 h.sc, .string h.tx, .slice ka l.length kc, .slice da l.length dc, .int .i64 h.cd]) (Tr.mk h l) ∧ Inv k wr ∧
        Bx wr w.heap.size #[.int .i64 7, .int .u64 (h.m : Int), .bool h.ng, .string h.dg, .int .i64 h.sc, .string h.tx, .slice ka l.length kc, .slice da l.length dc, .int .i64 h.cd] 31) (fun I _ => l.length - (intOf I).toNat)
      case atStart => exact ⟨0, rfl, Nat.zero_le _, punhide HL0⟩
      case round =>
        obtain ⟨k, rfl, hk9, hlr, hir, hbr⟩ := hrel
        clear hbx0 c0 c6 c7
        by_cases hlt : k < l.length
        · obtain ⟨kb, ko, hka, hkok, hkb, hkc9⟩ := (kids_of hlr).1 k (by omega)
          obtain ⟨b, o, cs, hda, hbok, hb, hrow, hlies⟩ := (kids_of hlr).2 k hlt
          subst hka hda
          obtain ⟨hd2, ka2, kn2, kc2, da2, dn2, dc2, he⟩ := hlies.shape
          obtain rfl := Value.agg.inj he
          obtain ⟨s, hs⟩ : ∃ s, h.ks[k]'(by omega) = s := ⟨_, rfl⟩
          rw [hs] at hkc9
          have CK := punhide HC k hlt
          rw [step_obj (punhide H7) k (by omega), hs] at CK
          have HCK := phide CK
          have hi : (k : Int) < (l.length : Int) := by omega
          have HSB : Hid (∀ W, Bx W w.heap.size #[.int .i64 7, .int .u64 (h.m : Int), .bool h.ng, .string h.dg, .int .i64 h.sc, .string h.tx, .slice (some ⟨kb, ko, none⟩) l.length kc, .slice (some ⟨b, o, none⟩) l.length dc, .int .i64 h.cd] 31 → Kept ok wr W →
              (W.cell? ⟨w.heap.size, 6, none⟩ = some (.slice (some ⟨kb, ko, none⟩) l.length kc) ∧ W.cell? ⟨w.heap.size, 7, none⟩ = some (.slice (some ⟨b, o, none⟩) l.length dc) ∧ W.cell? ⟨kb, ko + k, none⟩ = some (.string s) ∧
              W.cell? ⟨b, o + k * 9, none⟩ = some (.int .i64 hd2.k) ∧ W.cell? ⟨b, o + k * 9 + 1, none⟩ = some (.int .u64 (hd2.m : Int)) ∧ W.cell? ⟨b, o + k * 9 + 2, none⟩ = some (.bool hd2.ng) ∧ W.cell? ⟨b, o + k * 9 + 3, none⟩ = some (.string hd2.dg) ∧ W.cell? ⟨b, o + k * 9 + 4, none⟩ = some (.int .i64 hd2.sc) ∧
              W.cell? ⟨b, o + k * 9 + 5, none⟩ = some (.string hd2.tx) ∧ W.cell? ⟨b, o + k * 9 + 6, none⟩ = some (.slice ka2 kn2 kc2) ∧ W.cell? ⟨b, o + k * 9 + 7, none⟩ = some (.slice da2 dn2 dc2) ∧ W.cell? ⟨b, o + k * 9 + 8, none⟩ = some (.int .i64 hd2.cd))) := phide (fun W g1 g2 =>
            ⟨g1.cell 6, g1.cell 7, (g2.cell hkok hkb).trans hkc9, Row9.cells (h := hd2) (kv := .slice ka2 kn2 kc2) (dv := .slice da2 dn2 dc2) (Row9.keep (ok := ok) hrow hbok hb g2)⟩)
          obtain ⟨x6, x7, xk, c0, c1, c2, c3, c4, c5, c6, c7, c8⟩ := punhide HSB wr hbr (Kept.refl _ _)
          have HBR := phide hbr
          have HSD : Hid (∀ W, Below wr.heap.size wr W → _) := phide (fun W hW => punhide HSB W ((punhide HBR).below hW) (Kept.of_below hW))
          have HSE : Hid (∀ W W', Below wr.heap.size wr W → R W W' → _) := phide (fun W W' hW hR => punhide HSB W' (punhide HRB _ _ hR _ ((punhide HBR).below hW)) ((Kept.of_below hW).trans (punhide HRK _ _ hR)))
          have HSG : Hid (∀ W W', Below wr.heap.size wr W → R W W' → Lies ok W' (n + 1) (.agg #[.int .i64 7, .int .u64 (h.m : Int), .bool h.ng, .string h.dg, .int .i64 h.sc, .string h.tx, .slice (some ⟨kb, ko, none⟩) l.length kc, .slice (some ⟨b, o, none⟩) l.length dc, .int .i64 h.cd]) (Tr.mk h l) ∧
              Bx W' w.heap.size #[.int .i64 7, .int .u64 (h.m : Int), .bool h.ng, .string h.dg, .int .i64 h.sc, .string h.tx, .slice (some ⟨kb, ko, none⟩) l.length kc, .slice (some ⟨b, o, none⟩) l.length dc, .int .i64 h.cd] 31) := phide (fun W W' hW hR => ⟨(hlr.below hW).keep (punhide HRK _ _ hR) (fun _ _ h => h), punhide HRB _ _ hR _ ((punhide HBR).below hW)⟩)
          have HIR := phide hir
          have HLK := phide hlies
          have hS : Below wr.heap.size wr wr.drew := (Below.refl _ _).drew
          clear CK hlr hir hlies hrow hbr hs he hkc9
          go_upto_region 12 with fail
          go_region_held3 (fun W => W.cell? ⟨w.heap.size, 6, none⟩ = some (.slice (some ⟨kb, ko, none⟩) l.length kc) ∧ W.cell? ⟨w.heap.size, 7, none⟩ = some (.slice (some ⟨b, o, none⟩) l.length dc) ∧ W.cell? ⟨kb, ko + k, none⟩ = some (.string s) ∧
              W.cell? ⟨b, o + k * 9, none⟩ = some (.int .i64 hd2.k) ∧ W.cell? ⟨b, o + k * 9 + 1, none⟩ = some (.int .u64 (hd2.m : Int)) ∧ W.cell? ⟨b, o + k * 9 + 2, none⟩ = some (.bool hd2.ng) ∧ W.cell? ⟨b, o + k * 9 + 3, none⟩ = some (.string hd2.dg) ∧ W.cell? ⟨b, o + k * 9 + 4, none⟩ = some (.int .i64 hd2.sc) ∧
              W.cell? ⟨b, o + k * 9 + 5, none⟩ = some (.string hd2.tx) ∧ W.cell? ⟨b, o + k * 9 + 6, none⟩ = some (.slice ka2 kn2 kc2) ∧ W.cell? ⟨b, o + k * 9 + 7, none⟩ = some (.slice da2 dn2 dc2) ∧ W.cell? ⟨b, o + k * 9 + 8, none⟩ = some (.int .i64 hd2.cd))
            (first | exact punhide HSD _ hS | exact hSE)
            (first
              | (refine (punhide HCK _ _ (punhide HEXT _ _ _ (punhide HIR) hS) ((punhide HLK).below hS)).mono ?_
                 rintro e9 w2 ⟨rfl, hi2, hR⟩
                 have hSE := punhide HSE _ _ hS hR
                 have hSG := punhide HSG _ _ hS hR))
          all_goals
            clear c0 c1 c2 c3 c4 c5 c6 c7 c8 x6 x7 xk hSE
            go_wp2_with fail
            go_roundw
            case rel => exact ⟨k + 1, by go_num, hlt, hSG.1, hi2, hSG.2⟩
            case measure => simp [intOf]; omega
        · have e1 : ¬ (k : Int) < (l.length : Int) := by omega
          obtain rfl : k = l.length := by omega
          clear hlr hbr
          go_wp2_with fail
          go_returns
          exact ⟨rfl, hir⟩
    · have hd6 : decide (h.k = 6) = false := decide_eq_false h6
      have hd7 : decide (h.k = 7) = false := decide_eq_false h7
      have hln : l.length = 0 := hg.1.2.2.2.1 h6 h7
      have HI : Hid (Inv l.length (w.alloc (.cells #[.int .i64 h.k, .int .u64 (h.m : Int), .bool h.ng, .string h.dg, .int .i64 h.sc, .string h.tx, .slice ka h.ks.length kc, .slice da l.length dc, .int .i64 h.cd] 31))) := phide (by rw [hln]; rw [hln] at hi0; exact hi0)
      clear hi0 hl0 hbx0 hln hg
      go_enter Tryd.func41, Tryd.ntmps41
      go_wp2_with fail
      go_returns
      exact ⟨rfl, punhide HI⟩
end Go.Proofs.YtppkknmgdahniaaDoor.Pol
/- What is proved here: Show and View of package redact, walked; conditions: the value lies, and is one of a row's. -/
namespace Go.Proofs.YtppkknmgdahniaaDoor.Pol
set_option maxRecDepth 100000
open Go.RowKit Go.Proofs.YtppkknmgdahniaaDoor.Nc Go.Proofs.YtppkknmgdahniaaDoor.Np Go.Proofs.YtppkknmgdahniaaDoor.Nq
set_option maxRecDepth 100000
set_option linter.unusedVariables false
set_option linter.unusedSimpArgs false

/-- All but two blocks, and those of bytes. -/
def FrT (B bb : Nat) (w w' : World) : Prop := Below B w w' ∧ ∀ k o, w.heap[k]? = some o → k ≠ B → k ≠ bb → (∀ c fz, o ≠ .cells c 5 fz) → w'.heap[k]? = some o
theorem FrT.refl (B bb : Nat) (w : World) : FrT B bb w w := ⟨Below.refl _ _, fun _ _ h _ _ _ => h⟩
theorem FrT.trans {B bb : Nat} {a b c : World} (h : FrT B bb a b) (g : FrT B bb b c) : FrT B bb a c := ⟨h.1.trans g.1, fun k o hk h1 h2 h3 => g.2 k o (h.2 k o hk h1 h2 h3) h1 h2 h3⟩
theorem FrT.of {B bb : Nat} {a b : World} (h : Fr B a b) : FrT B bb a b := ⟨h.1, fun k o hk h1 h2 h3 => h.2 k o hk (fun e => h1 (Option.some.inj e)) h3⟩
theorem FrT.back {B bb : Nat} {a b : World} (h : FrT B bb a b) (hb : a.heap.size ≤ bb) : Fr B a b := ⟨h.1, fun k o hk h1 h3 => h.2 k o hk (fun e => h1 (by rw [e])) (fun e => by
  subst e
  rw [Array.getElem?_eq_none hb] at hk
  cases hk) h3⟩
theorem Bx.frt {W W' : World} {B bb b : Nat} {cs : Array Value} {t : TypeId} (h : Bx W b cs t) (g : FrT B bb W W') (ht : t ≠ 5) (hb : b ≠ B) (hb2 : b ≠ bb) : Bx W' b cs t :=
  g.2 b _ h hb hb2 (fun c fz e => by cases e; exact ht rfl)
theorem FrT.set {B bb : Nat} {w : World} (hb : B ≤ bb) (v : Value) (i : Nat) : FrT B bb w (w.setCell ⟨bb, i, none⟩ v) := by
  refine ⟨(Below.refl _ _).setCell (p := ⟨bb, i, none⟩) hb v, fun k o hk h1 h2 h3 => ?_⟩
  exact (Below.heap_setCell _ _ _ _ h2).trans hk
theorem Bx.set1 {W : World} {b : Nat} {t : TypeId} {x : Value} (h : Bx W b #[x] t) (v : Value) : Bx (W.setCell ⟨b, 0, none⟩ v) b #[v] t := by
  unfold Bx at *
  simp [World.setCell, Array.getElem?_modify, h]
theorem isW_set {B bb : Nat} {l : List UInt8} {W : World} {x y : Value} {t : TypeId} (h : IsW B l W) (hx : Bx W bb #[x] t) (ht : t ≠ 5) (hne : bb ≠ B) : IsW B l (W.setCell ⟨bb, 0, none⟩ y) := by
  have one : ∀ p, Lib.BuilderAtF 83 5 B B p (Lib.byteCells l) W → Lib.BuilderAtF 83 5 B B p (Lib.byteCells l) (W.setCell ⟨bb, 0, none⟩ y) := fun p g => by
    obtain ⟨g1, v, g2, g3, g4⟩ := g
    refine ⟨g1, v, (Below.heap_setCell _ _ _ _ (fun e => hne e.symm)).trans g2, ?_, g4⟩
    refine g3.kept (row := some bb) ⟨rfl, rfl, rfl, by simp [World.setCell], fun k _ hk => Below.heap_setCell _ _ _ _ (fun e => hk (by simp [e]))⟩ (.inr ?_)
    exact Lib.ownBlock_neF g3 hx ht
  rcases h with h | h
  · exact .inl (one _ h)
  · exact .inr (one _ h)
/-- The boxes that the closures of Show share. -/
def Env (B bc bh bw br cl : Nat) (hole : ByteArray) (W : World) : Prop :=
  Bx W bc #[.int .u64 (cl : Int)] 23 ∧ Bx W bh #[.string hole] 9 ∧
  Bx W bw #[.func (Fn.func 51) #[] #[.pointer (some ⟨bc, 0, none⟩), .pointer (some ⟨B, 0, none⟩), .pointer (some ⟨bh, 0, none⟩), .pointer (some ⟨br, 0, none⟩)]] 84 ∧
  Bx W br #[.func (Fn.func 46) #[] #[.pointer (some ⟨B, 0, none⟩), .pointer (some ⟨bw, 0, none⟩)]] 90 ∧
  (bc < B ∧ bh < B ∧ B < bw ∧ bw < br) ∧ ∃ w0, Pow w0 ∧ Below w0.heap.size w0 W ∧ w0.heap.size ≤ B
theorem Env.frt {B bb bc bh bw br cl : Nat} {hole : ByteArray} {W W' : World} (h : Env B bc bh bw br cl hole W) (g : FrT B bb W W') (h1 : B < bb) (h2 : bb ≠ bw) (h3 : bb ≠ br) : Env B bc bh bw br cl hole W' := by
  obtain ⟨a1, a2, a3, a4, a5, w0, p1, p2, p3⟩ := h
  exact ⟨a1.frt g (by decide) (by omega) (by omega), a2.frt g (by decide) (by omega) (by omega), a3.frt g (by decide) (by omega) (by omega), a4.frt g (by decide) (by omega) (by omega), a5, w0, p1, p2.trans (g.1.mono p3), p3⟩
theorem Env.fr {B bc bh bw br cl : Nat} {hole : ByteArray} {W W' : World} (h : Env B bc bh bw br cl hole W) (g : Fr B W W') : Env B bc bh bw br cl hole W' :=
  h.frt (bb := B + bw + br + 1) (FrT.of g) (by omega) (by omega) (by omega)
theorem Env.below {B bc bh bw br cl : Nat} {hole : ByteArray} {W W' : World} (h : Env B bc bh bw br cl hole W) (g : Below W.heap.size W W') : Env B bc bh bw br cl hole W' := by
  have hb := h.2.2.2.1.lt
  have := h.2.2.2.2.1
  exact h.fr (Fr.of g (by omega))
theorem Env.pow {B bc bh bw br cl : Nat} {hole : ByteArray} {W : World} (h : Env B bc bh bw br cl hole W) : Pow W := by
  obtain ⟨-, -, -, -, -, w0, p1, p2, -⟩ := h
  exact p1.next p2
/-- What the closure that writes a node does. -/
def WriteC (B bc bh bw br cl : Nat) (hole : ByteArray) (n : Nat) : Prop := ∀ (v : Value) (t : Tr) (L : List UInt8) (w : World), Lies (fun b => b < B) w n v t → goodT n t → Env B bc bh bw br cl hole w → IsW B L w → (L ++ showL (hidU cl) hole.data.toList n t).length ≤ 1000000000 →
  Calls Tryd.prog 51 #[v, .pointer (some ⟨bc, 0, none⟩), .pointer (some ⟨B, 0, none⟩), .pointer (some ⟨bh, 0, none⟩), .pointer (some ⟨br, 0, none⟩)] w fun e w' => e = .returned (.tuple #[]) ∧ IsW B (L ++ showL (hidU cl) hole.data.toList n t) w' ∧ Fr B w w'
theorem lies_fr {B bb : Nat} {w w' : World} {n : Nat} {v : Value} {t : Tr} (h : Lies (fun b => b < B) w n v t) (g : FrT B bb w w') : Lies (fun b => b < B) w' n v t :=
  h.keep ⟨g.1.size, fun b hb _ => g.1.block b hb⟩ (fun _ _ h => h)
def sepS (k : Nat) : ByteArray := if k = 0 then ⟨#[]⟩ else ⟨#[44]⟩
theorem sepS_is (k : Nat) : (sepS k).data.toList = if k = 0 then [] else [44] := by unfold sepS; split <;> rfl
theorem sepS_len (k : Nat) : (sepS k).size ≤ 1 := by unfold sepS; split <;> decide
set_option maxHeartbeats 4000000 in
theorem kidS_any (B bc bh bw br bb cl : Nat) (hole : ByteArray) (n : Nat) (h : Hd) (l : List Tr) (L : List UInt8) (hg : goodH h l.length) (hgk : ∀ t, t ∈ l → goodT n t) (hk67 : h.k = 6 ∨ h.k = 7) (HW : WriteC B bc bh bw br cl hole n) (hbb : B < bb ∧ bb ≠ bw ∧ bb ≠ br)
    (k : Nat) (hk : k < l.length) (v2 : Value) (hlen : (L ++ partL (hidU cl) hole.data.toList n h l (k + 1)).length ≤ 1000000000) (w : World) (hl : Lies (fun b => b < B) w n v2 (l[k]'hk)) (hI : IsW B (L ++ partL (hidU cl) hole.data.toList n h l k) w) (hbx : Bx w bb #[.string (sepS k)] 9) (hE : Env B bc bh bw br cl hole w) :
    Calls Tryd.prog 48 #[Np.valS (stepT h k), v2, .pointer (some ⟨B, 0, none⟩), .pointer (some ⟨bb, 0, none⟩), .pointer (some ⟨bw, 0, none⟩)] w fun e w' => e = .returned (.tuple #[]) ∧
      (IsW B (L ++ partL (hidU cl) hole.data.toList n h l (k + 1)) w' ∧ Bx w' bb #[.string (sepS (k + 1))] 9 ∧ Env B bc bh bw br cl hole w') ∧ FrT B bb w w' := by
  rw [part_next hk] at hlen ⊢
  have hgt := hgk _ (List.getElem_mem hk)
  generalize hkid : l[k]'hk = t at hl hlen hgt ⊢
  obtain ⟨hd2, ka2, kn2, kc2, da2, dn2, dc2, rfl⟩ := hl.shape
  generalize hL1 : L ++ partL (hidU cl) hole.data.toList n h l k = L1 at hI
  rw [← List.append_assoc, hL1] at hlen ⊢
  rw [keyed_is] at hlen ⊢
  have hsep := sepS_is k
  rw [← hsep] at hlen ⊢
  have hsl := sepS_len k
  generalize hsp : sepS k = sp at hbx hlen hsep hsl ⊢
  have hsp1 : sepS (k + 1) = ⟨#[44]⟩ := if_neg (by omega)
  rw [hsp1]
  rw [← List.append_assoc, ← List.append_assoc] at hlen ⊢
  generalize hS9 : showL (hidU cl) hole.data.toList n t = S9 at hlen ⊢
  obtain ⟨hl1, hl2, hl3⟩ : L1.length + sp.size ≤ 1000000000 ∧ (L1 ++ sp.data.toList ++ keyP h k).length ≤ 1000000000 ∧ (L1 ++ sp.data.toList).length + (keyP h k).length ≤ 1000000000 := by
    simp only [List.length_append, len_size] at hlen ⊢
    omega
  obtain ⟨T9, hT9⟩ : ∃ T9, L1 ++ sp.data.toList ++ keyP h k ++ S9 = T9 := ⟨_, rfl⟩
  rw [hT9] at hlen ⊢
  have HWC : Hid (∀ W L, Lies (fun b => b < B) W n (.agg #[.int .i64 hd2.k, .int .u64 (hd2.m : Int), .bool hd2.ng, .string hd2.dg, .int .i64 hd2.sc, .string hd2.tx, .slice ka2 kn2 kc2, .slice da2 dn2 dc2, .int .i64 hd2.cd]) t → Env B bc bh bw br cl hole W → IsW B L W → (L ++ S9).length ≤ 1000000000 →
    Calls Tryd.prog 51 #[.agg #[.int .i64 hd2.k, .int .u64 (hd2.m : Int), .bool hd2.ng, .string hd2.dg, .int .i64 hd2.sc, .string hd2.tx, .slice ka2 kn2 kc2, .slice da2 dn2 dc2, .int .i64 hd2.cd], .pointer (some ⟨bc, 0, none⟩), .pointer (some ⟨B, 0, none⟩), .pointer (some ⟨bh, 0, none⟩), .pointer (some ⟨br, 0, none⟩)] W fun e w' => e = .returned (.tuple #[]) ∧ IsW B (L ++ S9) w' ∧ Fr B W w') := phide (fun W L h1 h2 h3 h4 => by
      have := HW _ t L W h1 hgt h2 h3 (by rw [hS9]; exact h4)
      rw [hS9] at this
      exact this)
  clear hgk HW hS9 hgt hkid hL1 hsep hsp hsp1
  obtain ⟨d0, d1, d2⟩ := hbb
  have hlt := isW_lt hI
  have hwl := hE.2.2.2.1.lt
  obtain ⟨sk, ss, sn, hst, hsk⟩ : ∃ (sk : Int) (ss : ByteArray) (sn : Int), Np.valS (stepT h k) = .agg #[.int .i64 sk, .string ss, .int .i64 sn] ∧ (sk = 2 ∧ keyP h k = [] ∨ sk = 1 ∧ ∃ q : ByteArray, keyP h k = q.data.toList ++ [58] ∧ Qm.quoteL ss.data.toList = q.data.toList ∧ ss.size ≤ 100 ∧ q.size ≤ 1000) := by
    rcases hk67 with h6 | h7
    · exact ⟨2, ⟨#[]⟩, (k : Int), step_list h6 k, .inl ⟨rfl, by unfold keyP; rw [if_neg (by rw [h6]; decide)]⟩⟩
    · have hkl : k < h.ks.length := by have := (hg.2.1 h7).1; omega
      refine ⟨1, h.ks[k]'hkl, 0, step_obj h7 k hkl, .inr ⟨rfl, ⟨(Qm.quoteL (h.ks[k]'hkl).data.toList).toArray⟩, ?_, by simp, ((hg.2.1 h7).2.2 _ (List.getElem_mem hkl)).1, ?_⟩⟩
      · unfold keyP
        rw [if_pos h7, List.getElem?_eq_getElem hkl]
      · have hko := (hg.2.1 h7).2.2 _ (List.getElem_mem hkl)
        have h1 := Qm.quote_len _ hko.2
        have h2 := hko.1
        rw [len_size] at h1
        show (Qm.quoteL (h.ks[k]'hkl).data.toList).toArray.size ≤ 1000
        rw [List.size_toArray]
        omega
  rw [hst]
  clear hst hk67 hg
  have hbl := hbx.lt
  have hB1 : Below w.heap.size w (w.alloc (.cells #[.int .i64 sk, .string ss, .int .i64 sn] 54)) := (Below.refl _ _).alloc (Nat.le_refl _) _
  have hB2 := hB1.alloc hB1.size (.cells #[.int .i64 hd2.k, .int .u64 (hd2.m : Int), .bool hd2.ng, .string hd2.dg, .int .i64 hd2.sc, .string hd2.tx, .slice ka2 kn2 kc2, .slice da2 dn2 dc2, .int .i64 hd2.cd] 31)
  have x1 := (Bx.new w #[.int .i64 sk, .string ss, .int .i64 sn] 54).below ((Below.refl _ _).alloc (Nat.le_refl _) (.cells #[.int .i64 hd2.k, .int .u64 (hd2.m : Int), .bool hd2.ng, .string hd2.dg, .int .i64 hd2.sc, .string hd2.tx, .slice ka2 kn2 kc2, .slice da2 dn2 dc2, .int .i64 hd2.cd] 31))
  have x2 := Bx.new (w.alloc (.cells #[.int .i64 sk, .string ss, .int .i64 sn] 54)) #[.int .i64 hd2.k, .int .u64 (hd2.m : Int), .bool hd2.ng, .string hd2.dg, .int .i64 hd2.sc, .string hd2.tx, .slice ka2 kn2 kc2, .slice da2 dn2 dc2, .int .i64 hd2.cd] 31
  rw [show (w.alloc (.cells #[.int .i64 sk, .string ss, .int .i64 sn] 54)).heap.size = w.heap.size + 1 by simp] at x2
  have hI2 := isW_stays hI hB2
  have hE2 := hE.below hB2
  have hbx2 := hbx.below hB2
  have hlj := hl.below hB2
  have hF0 := Fr.of (B := B) hB2 (Nat.le_of_lt hlt)
  clear hB1 hI hE hbx hl hB2
  go_enter Tryd.func48, Tryd.ntmps48
  go_upto_region 1 with fail
  generalize (w.alloc (.cells #[.int .i64 sk, .string ss, .int .i64 sn] 54)).alloc (.cells #[.int .i64 hd2.k, .int .u64 (hd2.m : Int), .bool hd2.ng, .string hd2.dg, .int .i64 hd2.sc, .string hd2.tx, .slice ka2 kn2 kc2, .slice da2 dn2 dc2, .int .i64 hd2.cd] 31) = W1 at *
  generalize w.heap.size = p at *
  have cb := hbx2.cell 0
  have c0 := x1.cell 0
  go_wp2_with fail
  refine (str_w B L1 sp W1 hI2 (by omega)).mono ?_
  rintro e9 w2 ⟨rfl, i2, f2⟩
  replace x1 := x1.fr f2 (by decide) (by omega)
  replace x2 := x2.fr f2 (by decide) (by omega)
  have hbx3 := hbx2.fr f2 (by decide) (by omega)
  have hE3 := hE2.fr f2
  have hli := lies_fr hlj (FrT.of (bb := 0) f2)
  have hF3 := hF0.trans f2
  clear hbx2 hE2 hI2 cb f2 hF0 c0 hlj
  rcases hsk with ⟨rfl, hkp⟩ | ⟨rfl, q, hkp, hq, hq100, hq1000⟩
  · rw [hkp, List.append_nil] at hT9
    have HT9 := phide hT9
    clear hT9
    clear hkp hl2 hl3
    have c0 := x1.cell 0
    have cw := hE3.2.2.1.cell 0
    have cv := fun i => x2.cell i
    obtain ⟨y0, y1, y2, y3, y4, y5, y6, y7, y8⟩ : _ ∧ _ ∧ _ ∧ _ ∧ _ ∧ _ ∧ _ ∧ _ ∧ _ := ⟨cv 0, cv 1, cv 2, cv 3, cv 4, cv 5, cv 6, cv 7, cv 8⟩
    have HBX := phide hbx3
    have HE3 := phide hE3
    have HF3 := phide hF3
    clear cv x1 x2 hbx3 hE3 hF3
    go_wp2_with fail
    refine (punhide HWC _ _ hli (punhide HE3) i2 (by first | (rw [punhide HT9]; exact hlen) | (rw [← List.append_assoc, punhide HT9]; exact hlen))).mono ?_
    rintro e9 w3 ⟨rfl, i3, f3⟩
    rw [punhide HT9] at i3
    have hbx4 := (punhide HBX).fr f3 (by decide) (by omega)
    have hF4 := (FrT.of (bb := bb) ((punhide HF3).trans f3)).trans (FrT.set (w := w3) (Nat.le_of_lt d0) (.string ⟨#[44]⟩) 0)
    have hE4 := ((punhide HE3).fr f3).frt (FrT.set (w := w3) (Nat.le_of_lt d0) (.string ⟨#[44]⟩) 0) d0 d1 d2
    have hI4 := isW_set (y := .string ⟨#[44]⟩) i3 hbx4 (by decide) (by omega)
    have hbx5 := hbx4.set1 (.string ⟨#[44]⟩)
    have cb := hbx4.cell 0
    have cf := hbx4.free 0
    have HR := phide (And.intro hI4 (And.intro hbx5 (And.intro hE4 hF4)))
    clear cw y0 y1 y2 y3 y4 y5 y6 y7 y8 i2 i3 f3 hbx4 hF4 hE4 hI4 hbx5 hli
    go_wp2_with fail
    go_returns
    exact ⟨rfl, ⟨(punhide HR).1, (punhide HR).2.1, (punhide HR).2.2.1⟩, (punhide HR).2.2.2⟩
  · rw [hkp] at hl3 hT9
    have hl4 : (L1 ++ sp.data.toList).length + (q.size + (⟨#[58]⟩ : ByteArray).size) ≤ 140737488355328 := by
      have h5 : (q.data.toList ++ [58]).length = q.size + 1 := by rw [List.length_append, len_size]; rfl
      have h6 : (⟨#[58]⟩ : ByteArray).size = 1 := rfl
      omega
    have HT9 := phide hT9
    clear hT9
    have CQ := fun W => quote_c ss q W (by omega) hq
    have c0 := x1.cell 0
    have c1 := x1.cell 1
    clear hkp hq hl2
    go_wp2_with fail
    refine (CQ _).mono ?_
    rintro e9 w3 ⟨rfl, b3⟩
    replace x2 := x2.below b3
    replace hbx3 := hbx3.below b3
    replace hE3 := hE3.below b3
    replace hli := hli.below b3
    have hF5 := hF3.trans (Fr.of b3 (Nat.le_of_lt (isW_lt i2)))
    replace i2 := isW_stays i2 b3
    clear c0 c1 hF3 CQ
    go_wp2_with fail
    refine (str_w B _ _ w3 i2 ?hz).mono ?_
    case hz => rw [ByteArray.size_append]; exact hl4
    rintro e9 w4 ⟨rfl, i4, f4⟩
    rw [ByteArray.data_append, Array.toList_append] at i4
    change IsW B (L1 ++ sp.data.toList ++ (q.data.toList ++ [58])) w4 at i4
    replace x2 := x2.fr f4 (by decide) (by omega)
    replace hbx3 := hbx3.fr f4 (by decide) (by omega)
    replace hE3 := hE3.fr f4
    replace hli := lies_fr hli (FrT.of (bb := 0) f4)
    have hF3 := hF5.trans f4
    have i2 := i4
    have cw := hE3.2.2.1.cell 0
    have cv := fun i => x2.cell i
    clear hF5 i4 f4 hl3
    obtain ⟨y0, y1, y2, y3, y4, y5, y6, y7, y8⟩ : _ ∧ _ ∧ _ ∧ _ ∧ _ ∧ _ ∧ _ ∧ _ ∧ _ := ⟨cv 0, cv 1, cv 2, cv 3, cv 4, cv 5, cv 6, cv 7, cv 8⟩
    have HBX := phide hbx3
    have HE3 := phide hE3
    have HF3 := phide hF3
    clear cv x1 x2 hbx3 hE3 hF3
    go_wp2_with fail
    refine (punhide HWC _ _ hli (punhide HE3) i2 (by first | (rw [punhide HT9]; exact hlen) | (rw [← List.append_assoc, punhide HT9]; exact hlen))).mono ?_
    rintro e9 w3 ⟨rfl, i3, f3⟩
    rw [punhide HT9] at i3
    have hbx4 := (punhide HBX).fr f3 (by decide) (by omega)
    have hF4 := (FrT.of (bb := bb) ((punhide HF3).trans f3)).trans (FrT.set (w := w3) (Nat.le_of_lt d0) (.string ⟨#[44]⟩) 0)
    have hE4 := ((punhide HE3).fr f3).frt (FrT.set (w := w3) (Nat.le_of_lt d0) (.string ⟨#[44]⟩) 0) d0 d1 d2
    have hI4 := isW_set (y := .string ⟨#[44]⟩) i3 hbx4 (by decide) (by omega)
    have hbx5 := hbx4.set1 (.string ⟨#[44]⟩)
    have cb := hbx4.cell 0
    have cf := hbx4.free 0
    have HR := phide (And.intro hI4 (And.intro hbx5 (And.intro hE4 hF4)))
    clear cw y0 y1 y2 y3 y4 y5 y6 y7 y8 i2 i3 f3 hbx4 hF4 hE4 hI4 hbx5 hli
    go_wp2_with fail
    go_returns
    exact ⟨rfl, ⟨(punhide HR).1, (punhide HR).2.1, (punhide HR).2.2.1⟩, (punhide HR).2.2.2⟩
end Go.Proofs.YtppkknmgdahniaaDoor.Pol
/- What is proved here: Show and View of package redact, walked; conditions: the value lies, and is one of a row's. -/
namespace Go.Proofs.YtppkknmgdahniaaDoor.Pol
set_option maxRecDepth 100000
open Go.RowKit Go.Proofs.YtppkknmgdahniaaDoor.Nc Go.Proofs.YtppkknmgdahniaaDoor.Np Go.Proofs.YtppkknmgdahniaaDoor.Nq
set_option maxRecDepth 100000
set_option linter.unusedVariables false
set_option linter.unusedSimpArgs false

theorem rbxT {B bb x : Nat} (h1 : x ≠ B) (h2 : x ≠ bb) (W W' : World) (g : FrT B bb W W') (cs : Array Value) (hb : Bx W x cs 31) : Bx W' x cs 31 := hb.frt g (by decide) h1 h2
theorem rkT {B bb : Nat} (W W' : World) (g : FrT B bb W W') : Kept (fun b => b < B) W W' := ⟨g.1.size, fun b hb _ => g.1.block b hb⟩
set_option maxHeartbeats 4000000 in
theorem rowS_any (B bc bh bw br cl : Nat) (hole : ByteArray) (n : Nat) (HW : WriteC B bc bh bw br cl hole n) (v : Value) (h : Hd) (l : List Tr) (L : List UInt8) (c1 c2 : UInt8) (z1 z2 : Int) (hz1 : z1 = (c1.toNat : Int)) (hz2 : z2 = (c2.toNat : Int)) (w : World)
    (hl : Lies (fun b => b < B) w (n + 1) v (Tr.mk h l)) (hg : goodT (n + 1) (Tr.mk h l)) (hk67 : h.k = 6 ∨ h.k = 7) (hE : Env B bc bh bw br cl hole w) (hI : IsW B L w) (hlen : (L ++ (c1 :: (joinC ((l.map (showL (hidU cl) hole.data.toList n)).mapIdx (keyed h)) ++ [c2]))).length ≤ 1000000000) :
    Calls Tryd.prog 46 #[.int .u8 z1, .int .u8 z2, v, .pointer (some ⟨B, 0, none⟩), .pointer (some ⟨bw, 0, none⟩)] w fun e w' => e = .returned (.tuple #[]) ∧
      IsW B (L ++ (c1 :: (joinC ((l.map (showL (hidU cl) hole.data.toList n)).mapIdx (keyed h)) ++ [c2]))) w' ∧ Fr B w w' := by
  obtain ⟨h', l', ka, kc, da, dc, ht, rfl, hm64, hkc, hdc, -, -⟩ := id hl.node
  obtain ⟨rfl, rfl⟩ := Tr.mk_inj ht
  obtain ⟨hg1, hg2⟩ := hg
  change goodH h l.length at hg1
  change ∀ k, k ∈ l → goodT n k at hg2
  have HZ1 := phide hz1
  have HZ2 := phide hz2
  clear hz1 hz2
  have hlt := isW_lt hI
  have hwl := hE.2.2.1.lt
  have hrl := hE.2.2.2.1.lt
  have hord := hE.2.2.2.2.1
  have hB1 : Below w.heap.size w (w.alloc (.cells #[.int .i64 h.k, .int .u64 (h.m : Int), .bool h.ng, .string h.dg, .int .i64 h.sc, .string h.tx, .slice ka h.ks.length kc, .slice da l.length dc, .int .i64 h.cd] 31)) := (Below.refl _ _).alloc (Nat.le_refl _) _
  have hB2 := hB1.alloc hB1.size (.cells #[.string ⟨#[]⟩] 9)
  have x1 := (Bx.new w #[.int .i64 h.k, .int .u64 (h.m : Int), .bool h.ng, .string h.dg, .int .i64 h.sc, .string h.tx, .slice ka h.ks.length kc, .slice da l.length dc, .int .i64 h.cd] 31).below ((Below.refl _ _).alloc (Nat.le_refl _) (.cells #[.string ⟨#[]⟩] 9))
  have x2 := Bx.new (w.alloc (.cells #[.int .i64 h.k, .int .u64 (h.m : Int), .bool h.ng, .string h.dg, .int .i64 h.sc, .string h.tx, .slice ka h.ks.length kc, .slice da l.length dc, .int .i64 h.cd] 31)) #[.string ⟨#[]⟩] 9
  have s1 : ((w.alloc (.cells #[.int .i64 h.k, .int .u64 (h.m : Int), .bool h.ng, .string h.dg, .int .i64 h.sc, .string h.tx, .slice ka h.ks.length kc, .slice da l.length dc, .int .i64 h.cd] 31)).alloc (.cells #[.string ⟨#[]⟩] 9)).heap.size = w.heap.size + 2 := by simp
  rw [show (w.alloc (.cells #[.int .i64 h.k, .int .u64 (h.m : Int), .bool h.ng, .string h.dg, .int .i64 h.sc, .string h.tx, .slice ka h.ks.length kc, .slice da l.length dc, .int .i64 h.cd] 31)).heap.size = w.heap.size + 1 by simp] at x2
  have hI2 := isW_stays hI hB2
  have hE2 := hE.below hB2
  have hl2 := hl.below hB2
  have hF2 := Fr.of (B := B) hB2 (Nat.le_of_lt hlt)
  have HPL : ∀ k, (L ++ [c1] ++ partL (hidU cl) hole.data.toList n h l k).length ≤ 1000000000 := fun k => by
    have := part_len (hidU cl) hole.data.toList n h l k
    simp only [List.length_append, List.length_cons, List.length_nil] at hlen this ⊢
    omega
  have hL1 : L.length + 1 ≤ 1000000000 := by simp only [List.length_append, List.length_cons] at hlen; omega
  have hL2 : (L ++ [c1] ++ partL (hidU cl) hole.data.toList n h l l.length).length + 1 ≤ 1000000000 := by
    rw [part_all]; simp only [List.length_append, List.length_cons, List.length_nil] at hlen ⊢; omega
  have hfin : L ++ [c1] ++ partL (hidU cl) hole.data.toList n h l l.length ++ [c2] = L ++ (c1 :: (joinC ((l.map (showL (hidU cl) hole.data.toList n)).mapIdx (keyed h)) ++ [c2])) := by rw [part_all]; simp
  obtain ⟨T9, hT9⟩ : ∃ T9, L ++ (c1 :: (joinC ((l.map (showL (hidU cl) hole.data.toList n)).mapIdx (keyed h)) ++ [c2])) = T9 := ⟨_, rfl⟩
  rw [hT9] at hfin ⊢
  have HT9 := phide hfin
  clear hfin hT9 hlen hI hE hl hB1 hB2 ht
  go_enter Tryd.func46, Tryd.ntmps46
  go_upto_region 2 with fail
  generalize (w.alloc (.cells #[.int .i64 h.k, .int .u64 (h.m : Int), .bool h.ng, .string h.dg, .int .i64 h.sc, .string h.tx, .slice ka h.ks.length kc, .slice da l.length dc, .int .i64 h.cd] 31)).alloc (.cells #[.string ⟨#[]⟩] 9) = W1 at *
  have HFB : Hid (∀ W, FrT B (w.heap.size + 1) w W → Fr B w W) := phide (fun W h => h.back (Nat.le_succ _))
  generalize w.heap.size = p at *
  go_wp2_with fail
  refine (byte_w B L c1 z1 (punhide HZ1) W1 hI2 (by omega)).mono ?_
  rintro e9 w2 ⟨rfl, i2, f2⟩
  replace x1 := x1.fr f2 (by decide) (by omega)
  replace x2 := x2.fr f2 (by decide) (by omega)
  replace hE2 := hE2.fr f2
  have hl3 := lies_fr hl2 (FrT.of (bb := 0) f2)
  have hF3 := hF2.trans f2
  have hsz := f2.1.size
  have CE := eachS_any (fun b => b < B) n _ h l w2 hl3 hg1 (.pointer (some ⟨B, 0, none⟩)) (.pointer (some ⟨p + 1, 0, none⟩)) (.pointer (some ⟨bw, 0, none⟩))
    (fun k W => IsW B (L ++ [c1] ++ partL (hidU cl) hole.data.toList n h l k) W ∧ Bx W (p + 1) #[.string (sepS k)] 9 ∧ Env B bc bh bw br cl hole W ∧ FrT B (p + 1) w2 W) (FrT B (p + 1))
    (fun W hW => ⟨by rw [part_zero, List.append_nil]; exact isW_stays i2 hW, x2.below hW, hE2.below hW, FrT.of (Fr.of hW (Nat.le_of_lt (isW_lt i2)))⟩)
    (fun k W W' hi hW => ⟨isW_stays hi.1 hW, hi.2.1.below hW, hi.2.2.1.below hW, hi.2.2.2.trans (FrT.of (Fr.of hW (Nat.le_of_lt (isW_lt hi.1))))⟩)
    (rbxT (by omega) (by omega)) rkT
    (fun k hk v2 W hi hlk => by
      refine (kidS_any B bc bh bw br (p + 1) cl hole n h l (L ++ [c1]) hg1 hg2 hk67 HW ⟨by omega, by omega, by omega⟩ k hk v2 (HPL _) W hlk hi.1 hi.2.1 hi.2.2.1).mono ?_
      rintro e W' ⟨rfl, ⟨i1, i2, i3⟩, f⟩
      exact ⟨rfl, ⟨i1, i2, i3, hi.2.2.2.trans f⟩, f⟩)
  have HCE := phide CE
  obtain ⟨y0, y1, y2, y3, y4, y5, y6, y7, y8⟩ : _ ∧ _ ∧ _ ∧ _ ∧ _ ∧ _ ∧ _ ∧ _ ∧ _ := ⟨x1.cell 0, x1.cell 1, x1.cell 2, x1.cell 3, x1.cell 4, x1.cell 5, x1.cell 6, x1.cell 7, x1.cell 8⟩
  clear CE x1 x2 hE2 hl2 hl3 hI2 i2 f2 hF2
  go_wp2_with fail
  refine (punhide HCE).mono ?_
  rintro e9 w3 ⟨rfl, i3, -, -, f3⟩
  clear y0 y1 y2 y3 y4 y5 y6 y7 y8
  go_wp2_with fail
  refine (byte_w B _ c2 z2 (punhide HZ2) w3 i3 (by omega)).mono ?_
  rintro e9 w4 ⟨rfl, i4, f4⟩
  have hF := punhide HFB _ (((FrT.of hF3).trans f3).trans (FrT.of f4))
  rw [punhide HT9] at i4
  clear i3 f3 f4 hF3
  go_wp2
  go_returns
  exact ⟨rfl, i4, hF⟩
set_option maxHeartbeats 4000000 in
theorem write_step (B bc bh bw br cl : Nat) (hcl : cl < 18446744073709551616) (hole : ByteArray) (n : Nat) (HW : WriteC B bc bh bw br cl hole n) : WriteC B bc bh bw br cl hole (n + 1) := by
  intro v t L w hl hg hE hI hlen
  obtain ⟨h, l, ka, kc, da, dc, rfl, rfl, hm64, hkc, hdc, -, -⟩ := id hl.node
  have hlt := isW_lt hI
  have hord := hE.2.2.2.2.1
  obtain ⟨q, hq⟩ : ∃ q, hidU cl h.m = q := ⟨_, rfl⟩
  have hB1 : Below w.heap.size w (w.alloc (.cells #[.int .i64 h.k, .int .u64 (h.m : Int), .bool h.ng, .string h.dg, .int .i64 h.sc, .string h.tx, .slice ka h.ks.length kc, .slice da l.length dc, .int .i64 h.cd] 31)) := (Below.refl _ _).alloc (Nat.le_refl _) _
  have x1 := Bx.new w #[.int .i64 h.k, .int .u64 (h.m : Int), .bool h.ng, .string h.dg, .int .i64 h.sc, .string h.tx, .slice ka h.ks.length kc, .slice da l.length dc, .int .i64 h.cd] 31
  have hI2 := isW_stays hI hB1
  have hE2 := hE.below hB1
  have hl2 := hl.below hB1
  have hF2 := Fr.of (B := B) hB1 (Nat.le_of_lt hlt)
  have hne : w.heap.size ≠ B := by omega
  obtain ⟨T9, hT9⟩ : ∃ T9, L ++ showL (hidU cl) hole.data.toList (n + 1) (Tr.mk h l) = T9 := ⟨_, rfl⟩
  rw [hT9] at hlen ⊢
  have CH := fun (W : World) (hW : Lies (fun b => b < B) W (n + 1) (.agg #[.int .i64 h.k, .int .u64 (h.m : Int), .bool h.ng, .string h.dg, .int .i64 h.sc, .string h.tx, .slice ka h.ks.length kc, .slice da l.length dc, .int .i64 h.cd]) (Tr.mk h l)) => hidden_any (fun b => b < B) (n + 1) _ (Tr.mk h l) cl hcl q hq W hW
  have HCH := phide CH
  have HQ := phide hq
  have HT9 := phide hT9
  have HLEN := phide hlen
  have HG := phide hg
  have hks : h.ks.length ≤ 1000000 := by
    by_cases e : h.k = 7
    · have h1 := (hg.1.2.1 e).1
      have h2 := hg.1.1.2.2.1
      change h.ks.length = l.length at h1
      change l.length ≤ 7 at h2
      omega
    · have : h.ks = [] := hg.1.2.2 e
      rw [this]; exact Nat.zero_le _
  clear CH hI hE hl hB1 hq hT9 hlen hg
  go_enter Tryd.func51, Tryd.ntmps51
  go_upto_region 2 with fail
  generalize w.alloc (.cells #[.int .i64 h.k, .int .u64 (h.m : Int), .bool h.ng, .string h.dg, .int .i64 h.sc, .string h.tx, .slice ka h.ks.length kc, .slice da l.length dc, .int .i64 h.cd] 31) = W1 at *
  generalize w.heap.size = p at *
  obtain ⟨y0, y1, y2, y3, y4, y5, y6, y7, y8⟩ : _ ∧ _ ∧ _ ∧ _ ∧ _ ∧ _ ∧ _ ∧ _ ∧ _ := ⟨x1.cell 0, x1.cell 1, x1.cell 2, x1.cell 3, x1.cell 4, x1.cell 5, x1.cell 6, x1.cell 7, x1.cell 8⟩
  have yc := hE2.1.cell 0
  have HX := phide (And.intro x1 (And.intro hE2 (And.intro hl2 hI2)))
  clear x1 hE2 hl2 hI2
  go_wp2_with fail
  refine (punhide HCH _ (punhide HX).2.2.1).mono ?_
  rintro e9 w2 ⟨rfl, b2⟩
  clear y0 y1 y2 y3 y4 y5 y6 y7 y8 yc
  obtain ⟨x1, hE2, hl2, hI2⟩ := punhide HX
  replace hF2 := hF2.trans (Fr.of b2 (Nat.le_of_lt (isW_lt hI2)))
  replace x1 := x1.below b2
  replace hE2 := hE2.below b2
  replace hl2 := hl2.below b2
  replace hI2 := isW_stays hI2 b2
  obtain ⟨y0, y1, y2, y3, y4, y5, y6, y7, y8⟩ : _ ∧ _ ∧ _ ∧ _ ∧ _ ∧ _ ∧ _ ∧ _ ∧ _ := ⟨x1.cell 0, x1.cell 1, x1.cell 2, x1.cell 3, x1.cell 4, x1.cell 5, x1.cell 6, x1.cell 7, x1.cell 8⟩
  have yh := hE2.2.1.cell 0
  have yr := hE2.2.2.2.1.cell 0
  have HP : Hid (Pow w2) := phide hE2.pow
  have HX2 := phide (And.intro hE2 (And.intro hl2 hI2))
  have HF2 := phide hF2
  clear HX HCH x1 hE2 hl2 hI2 b2 hF2
  cases q with
  | true =>
    have HT2 : Hid (L ++ hole.data.toList = T9) := phide (by rw [← punhide HT9, show_hid (by exact punhide HQ)])
    go_wp2_with fail
    refine (str_w B L hole w2 (punhide HX2).2.2 (by have := punhide HLEN; rw [← punhide HT2, List.length_append, len_size] at this; omega)).mono ?_
    rintro e9 w3 ⟨rfl, i3, f3⟩
    rw [punhide HT2] at i3
    have hF := (punhide HF2).trans f3
    clear f3 y0 y1 y2 y3 y4 y5 y6 y7 y8 yh yr
    go_wp2
    go_returns
    exact ⟨rfl, i3, hF⟩
  | false =>
    have hnh : ¬ hidU cl (Tr.hd (Tr.mk h l)).m = true := by
      have := punhide HQ
      show ¬ hidU cl h.m = true
      rw [this]; decide
    by_cases h6 : h.k = 6
    · have HT2 : Hid (L ++ (91 :: (joinC ((l.map (showL (hidU cl) hole.data.toList n)).mapIdx (keyed h)) ++ [93])) = T9) := phide (by
        rw [← punhide HT9, show_row hnh (.inl h6)]
        show _ = L ++ (opens h :: (joinC ((l.map (showL (hidU cl) hole.data.toList n)).mapIdx (keyed h)) ++ [closes h]))
        unfold opens closes
        rw [if_pos h6, if_pos h6])
      have CR := rowS_any B bc bh bw br cl hole n HW _ h l L 91 93 91 93 rfl rfl w2 (punhide HX2).2.1 (punhide HG) (.inl h6) (punhide HX2).1 (punhide HX2).2.2 (by rw [punhide HT2]; exact punhide HLEN)
      rw [h6] at y0 CR
      have HCR := phide CR
      clear hnh h6 CR
      go_wp2_with fail
      refine (punhide HCR).mono ?_
      rintro e9 w3 ⟨rfl, i3, f3⟩
      rw [punhide HT2] at i3
      have hF := (punhide HF2).trans f3
      clear f3 y0 y1 y2 y3 y4 y5 y6 y7 y8 yh yr
      go_wp2
      go_returns
      exact ⟨rfl, i3, hF⟩
    · by_cases h7 : h.k = 7
      · have HT2 : Hid (L ++ (123 :: (joinC ((l.map (showL (hidU cl) hole.data.toList n)).mapIdx (keyed h)) ++ [125])) = T9) := phide (by
          rw [← punhide HT9, show_row hnh (.inr h7)]
          show _ = L ++ (opens h :: (joinC ((l.map (showL (hidU cl) hole.data.toList n)).mapIdx (keyed h)) ++ [closes h]))
          unfold opens closes
          rw [if_neg h6, if_neg h6])
        have CR := rowS_any B bc bh bw br cl hole n HW _ h l L 123 125 123 125 rfl rfl w2 (punhide HX2).2.1 (punhide HG) (.inr h7) (punhide HX2).1 (punhide HX2).2.2 (by rw [punhide HT2]; exact punhide HLEN)
        rw [h7] at y0 CR
        have HCR := phide CR
        clear hnh h6 h7 CR
        go_wp2_with fail
        refine (punhide HCR).mono ?_
        rintro e9 w3 ⟨rfl, i3, f3⟩
        rw [punhide HT2] at i3
        have hF := (punhide HF2).trans f3
        clear f3 y0 y1 y2 y3 y4 y5 y6 y7 y8 yh yr
        go_wp2
        go_returns
        exact ⟨rfl, i3, hF⟩
      · have hk : ¬ (h.k = 6 ∨ h.k = 7) := fun e => e.elim h6 h7
        obtain ⟨s, hs⟩ := scal_txt h
        have HT2 : Hid (L ++ s.data.toList = T9) := phide (by
          rw [← punhide HT9, show_leaf hnh hk, ← hs]; rfl)
        have CP := tprint_leaf h l.length ka h.ks.length kc da l.length dc (punhide HG).1.1 hk s hs w2 (punhide HP)
        have HCP := phide CP
        have d6 : (h.k == 6) = false := beq_eq_false_iff_ne.2 h6
        have d7 : (h.k == 7) = false := beq_eq_false_iff_ne.2 h7
        clear hnh h6 h7 hk hs CP
        go_wp2_with fail
        refine (punhide HCP).mono ?_
        rintro e9 w3 ⟨rfl, b3⟩
        have hi3 := isW_stays (punhide HX2).2.2 b3
        have hF3 := (punhide HF2).trans (Fr.of b3 (Nat.le_of_lt (isW_lt (punhide HX2).2.2)))
        clear y0 y1 y2 y3 y4 y5 y6 y7 y8 yh yr b3
        go_wp2_with fail
        refine (str_w B L s w3 hi3 (by have := punhide HLEN; rw [← punhide HT2, List.length_append, len_size] at this; omega)).mono ?_
        rintro e9 w4 ⟨rfl, i4, f4⟩
        rw [punhide HT2] at i4
        have hF := hF3.trans f4
        clear hF3 f4 hi3
        go_wp2
        go_returns
        exact ⟨rfl, i4, hF⟩
theorem write_any (B bc bh bw br cl : Nat) (hcl : cl < 18446744073709551616) (hole : ByteArray) : ∀ n, WriteC B bc bh bw br cl hole n
  | 0 => fun _ _ _ _ h => h.elim
  | n + 1 => write_step B bc bh bw br cl hcl hole n (write_any B bc bh bw br cl hcl hole n)
end Go.Proofs.YtppkknmgdahniaaDoor.Pol
/- What is proved here: Show and View of package redact, walked; conditions: the value lies, and is one of a row's. -/
namespace Go.Proofs.YtppkknmgdahniaaDoor.Pol
set_option maxRecDepth 100000
open Go.RowKit Go.Proofs.YtppkknmgdahniaaDoor.Nc Go.Proofs.YtppkknmgdahniaaDoor.Np Go.Proofs.YtppkknmgdahniaaDoor.Nq
set_option maxRecDepth 100000
set_option linter.unusedVariables false
set_option linter.unusedSimpArgs false

theorem env_new (w : World) (cs : Array Value) (cl : Nat) (hole : ByteArray) (hP : Pow w) (W : World) (hW : ((((((w.alloc (.cells cs 31)).alloc (.cells #[.int .u64 (cl : Int)] 23)).alloc (.cells #[.string hole] 9)).alloc (.cells #[.pointer none, .slice none 0 0] 83)).alloc (.cells #[.func (Fn.func 51) #[] #[.pointer (some ⟨w.heap.size + 1, 0, none⟩), .pointer (some ⟨w.heap.size + 1 + 1 + 1, 0, none⟩), .pointer (some ⟨w.heap.size + 1 + 1, 0, none⟩), .pointer (some ⟨w.heap.size + 1 + 1 + 1 + 1 + 1, 0, none⟩)]] 84)).alloc (.cells #[.func (Fn.func 46) #[] #[.pointer (some ⟨w.heap.size + 1 + 1 + 1, 0, none⟩), .pointer (some ⟨w.heap.size + 1 + 1 + 1 + 1, 0, none⟩)]] 90)) = W) :
    Env (w.heap.size + 1 + 1 + 1) (w.heap.size + 1) (w.heap.size + 1 + 1) (w.heap.size + 1 + 1 + 1 + 1) (w.heap.size + 1 + 1 + 1 + 1 + 1) cl hole W ∧ IsW (w.heap.size + 1 + 1 + 1) [] W ∧ Below w.heap.size w W ∧ Bx W w.heap.size cs 31 := by
  obtain ⟨w1, e1, z1, b1, x1⟩ := alloc_facts w cs 31
  rw [e1] at hW
  obtain ⟨w2, e2, z2, b2, x2⟩ := alloc_facts w1 #[.int .u64 (cl : Int)] 23
  rw [e2] at hW
  obtain ⟨w3, e3, z3, b3, x3⟩ := alloc_facts w2 #[.string hole] 9
  rw [e3] at hW
  have hI := Lib.IsBuilderF.of (Lib.fresh_isBuilder 83 5 w3)
  obtain ⟨w4, e4, z4, b4, x4⟩ := alloc_facts w3 #[.pointer none, .slice none 0 0] 83
  rw [e4] at hW hI
  obtain ⟨w5, e5, z5, b5, x5⟩ := alloc_facts w4 #[.func (Fn.func 51) #[] #[.pointer (some ⟨w.heap.size + 1, 0, none⟩), .pointer (some ⟨w.heap.size + 1 + 1 + 1, 0, none⟩), .pointer (some ⟨w.heap.size + 1 + 1, 0, none⟩), .pointer (some ⟨w.heap.size + 1 + 1 + 1 + 1 + 1, 0, none⟩)]] 84
  rw [e5] at hW
  obtain ⟨w6, e6, z6, b6, x6⟩ := alloc_facts w5 #[.func (Fn.func 46) #[] #[.pointer (some ⟨w.heap.size + 1 + 1 + 1, 0, none⟩), .pointer (some ⟨w.heap.size + 1 + 1 + 1 + 1, 0, none⟩)]] 90
  rw [e6] at hW
  subst hW
  have p1 : w1.heap.size = w.heap.size + 1 := z1
  have p2 : w2.heap.size = w.heap.size + 1 + 1 := by omega
  have p3 : w3.heap.size = w.heap.size + 1 + 1 + 1 := by omega
  have p4 : w4.heap.size = w.heap.size + 1 + 1 + 1 + 1 := by omega
  have p5 : w5.heap.size = w.heap.size + 1 + 1 + 1 + 1 + 1 := by omega
  rw [p1] at x2
  rw [p2] at x3
  rw [p3] at hI
  rw [p4] at x5
  rw [p5] at x6
  have hI1 : IsW (w.heap.size + 1 + 1 + 1) [] w4 := hI
  have hB : Below w.heap.size w w6 := ((((b1.trans (b2.mono (by omega))).trans (b3.mono (by omega))).trans (b4.mono (by omega))).trans (b5.mono (by omega))).trans (b6.mono (by omega))
  exact ⟨⟨(((x2.below b3).below b4).below b5).below b6, ((x3.below b4).below b5).below b6, x5.below b6, x6, by omega, w, hP, hB, by omega⟩, isW_stays (isW_stays hI1 b5) b6, hB, ((((x1.below b2).below b3).below b4).below b5).below b6⟩
set_option maxHeartbeats 4000000 in
theorem show_any (ok : Nat → Prop) (n : Nat) (v : Value) (t : Tr) (cl : Nat) (hcl : cl < 18446744073709551616) (hole s : ByteArray) (hs : showL (hidU cl) hole.data.toList n t = s.data.toList) (hsz : s.size ≤ 1000000000) (w : World) (hl : Lies ok w n v t) (hg : goodT n t) (hP : Pow w) :
    Calls Tryd.prog 18 #[v, .int .u64 (cl : Int), .string hole] w fun e w' => e = .returned (.string s) ∧ Below w.heap.size w w' := by
  obtain ⟨h, ka, kn, kc, da, dn, dc, rfl⟩ := hl.shape
  obtain ⟨W, hW⟩ : ∃ W, ((((((w.alloc (.cells #[.int .i64 h.k, .int .u64 (h.m : Int), .bool h.ng, .string h.dg, .int .i64 h.sc, .string h.tx, .slice ka kn kc, .slice da dn dc, .int .i64 h.cd] 31)).alloc (.cells #[.int .u64 (cl : Int)] 23)).alloc (.cells #[.string hole] 9)).alloc (.cells #[.pointer none, .slice none 0 0] 83)).alloc (.cells #[.func (Fn.func 51) #[] #[.pointer (some ⟨w.heap.size + 1, 0, none⟩), .pointer (some ⟨w.heap.size + 1 + 1 + 1, 0, none⟩), .pointer (some ⟨w.heap.size + 1 + 1, 0, none⟩), .pointer (some ⟨w.heap.size + 1 + 1 + 1 + 1 + 1, 0, none⟩)]] 84)).alloc (.cells #[.func (Fn.func 46) #[] #[.pointer (some ⟨w.heap.size + 1 + 1 + 1, 0, none⟩), .pointer (some ⟨w.heap.size + 1 + 1 + 1 + 1, 0, none⟩)]] 90)) = W := ⟨_, rfl⟩
  obtain ⟨hE, hI, hB, x1⟩ := env_new w _ cl hole hP W hW
  have hl2 : Lies (fun b => b < w.heap.size + 1 + 1 + 1) W n (.agg #[.int .i64 h.k, .int .u64 (h.m : Int), .bool h.ng, .string h.dg, .int .i64 h.sc, .string h.tx, .slice ka kn kc, .slice da dn dc, .int .i64 h.cd]) t := (hl.weak (ok' := fun b => b < w.heap.size + 1 + 1 + 1) (fun b hb _ => by omega)).below hB
  have CW := write_any (w.heap.size + 1 + 1 + 1) (w.heap.size + 1) (w.heap.size + 1 + 1) (w.heap.size + 1 + 1 + 1 + 1) (w.heap.size + 1 + 1 + 1 + 1 + 1) cl hcl hole n _ t [] W hl2 hg hE hI (by rw [hs, List.nil_append, len_size]; exact hsz)
  rw [hs, List.nil_append] at CW
  have HCW := phide CW
  have HE := phide hE
  have HB := phide hB
  have yw := hE.2.2.1.cell 0
  have yr := hE.2.2.2.1.cell 0
  have HX := phide x1
  have HW := phide hW
  clear hW CW hE hI hB hl2 hs hl hP x1 yr
  go_enter Tryd.func18, Tryd.ntmps18
  go_upto_region 5 with fail
  rw [punhide HW]
  clear HW
  have x1 := punhide HX
  obtain ⟨y0, y1, y2, y3, y4, y5, y6, y7, y8⟩ : _ ∧ _ ∧ _ ∧ _ ∧ _ ∧ _ ∧ _ ∧ _ ∧ _ := ⟨x1.cell 0, x1.cell 1, x1.cell 2, x1.cell 3, x1.cell 4, x1.cell 5, x1.cell 6, x1.cell 7, x1.cell 8⟩
  clear x1
  go_wp2_with fail
  refine (punhide HCW).mono ?_
  rintro e w2 ⟨rfl, i2, f2⟩
  clear y0 y1 y2 y3 y4 y5 y6 y7 y8 yw
  go_wp2_with fail
  refine (text_w _ _ _ i2).mono ?_
  rintro e w3 ⟨rfl, i3, f3⟩
  have hB3 := (punhide HB).trans ((f2.trans f3).1.mono (by omega))
  clear f2 f3 i2 i3
  go_wp2
  go_returns
  exact ⟨rfl, hB3⟩
set_option maxHeartbeats 1000000 in
theorem view_any (ok : Nat → Prop) (n : Nat) (v : Value) (t : Tr) (cl : Nat) (hcl : cl < 18446744073709551616) (s : ByteArray) (hs : showL (hidU cl) [35] n t = s.data.toList) (hsz : s.size ≤ 1000000000) (w : World) (hl : Lies ok w n v t) (hg : goodT n t) (hP : Pow w) :
    Calls Tryd.prog 20 #[v, .int .u64 (cl : Int)] w fun e w' => e = .returned (.string s) ∧ Below w.heap.size w w' := by
  obtain ⟨h, ka, kn, kc, da, dn, dc, rfl⟩ := hl.shape
  have hB1 : Below w.heap.size w (w.alloc (.cells #[.int .i64 h.k, .int .u64 (h.m : Int), .bool h.ng, .string h.dg, .int .i64 h.sc, .string h.tx, .slice ka kn kc, .slice da dn dc, .int .i64 h.cd] 31)) := (Below.refl _ _).alloc (Nat.le_refl _) _
  have C := show_any ok n _ t cl hcl ⟨#[35]⟩ s hs hsz _ (hl.below hB1) hg (hP.next hB1)
  have HB := phide hB1
  have HC := phide C
  clear C hs hl hP hB1 hg
  go_enter Tryd.func20, Tryd.ntmps20
  go_wp2_with fail
  refine (punhide HC).mono ?_
  rintro e w2 ⟨rfl, b2⟩
  have hB3 := below_next (punhide HB) b2
  clear b2
  go_wp2
  go_returns
  exact ⟨rfl, hB3⟩
end Go.Proofs.YtppkknmgdahniaaDoor.Pol
