/- What is proved here: a copy's row of kids lies in a block of its own that may be written to. -/
import Derived.Test.YtigpfbfkdccdaaaDoorKi
namespace Go.Proofs.YtigpfbfkdccdaaaDoor
open Go.RowKit
set_option linter.unusedVariables false
set_option linter.unusedSimpArgs false

/-- The row of kids lies in a new block that may be written to. -/
def FreeRow (lo : Nat) (W : World) (v : Value) : Prop := ∀ cs b o n c, v = .agg cs → cs[7]? = some (.slice (some ⟨b, o, none⟩) n c) → lo ≤ b ∧ b < W.heap.size ∧ ∀ r, W.frozen? ⟨b, r, none⟩ = false
theorem FreeRow.nil (lo : Nat) (W : World) (x0 x1 x2 x3 x4 x5 x6 x8 : Value) (n c : Nat) : FreeRow lo W (.agg #[x0, x1, x2, x3, x4, x5, x6, .slice none n c, x8]) := by
  intro cs b o n c e h
  obtain rfl := Value.agg.inj e
  simp at h
theorem FreeRow.one {lo : Nat} {W W0 : World} {G n c : Nat} {t : TypeId} {x0 x1 x2 x3 x4 x5 x6 x8 : Value} (hlo : lo ≤ G) (h0 : W0.heap.size ≤ W.heap.size) (hh : ∃ cur, W.heap[G]? = some (.cells cur t (0, 0))) : FreeRow lo W (.agg #[x0, x1, x2, x3, x4, x5, x6, .slice (some ⟨G, 0, none⟩) n c, x8]) := by
  intro cs b o n c e h
  obtain rfl := Value.agg.inj e
  simp at h
  obtain ⟨⟨rfl, _⟩, _⟩ := h
  obtain ⟨cur, hh⟩ := hh
  exact ⟨hlo, (Array.getElem?_eq_some_iff.1 hh).1, fun r => by simp [World.frozen?, hh]⟩
theorem FreeRow.keep {lo lo' k : Nat} {W V : World} {v : Value} (h : FreeRow lo W v) (hK : Kept (fun b => k ≤ b) W V) (hk : k ≤ lo) (hl : lo' ≤ lo) : FreeRow lo' V v := by
  intro cs b o n c e he
  obtain ⟨h1, h2, h3⟩ := h cs b o n c e he
  exact ⟨by omega, Nat.lt_of_lt_of_le h2 hK.1, fun r => by rw [← h3 r]; exact World.frozen?_of_block (a := ⟨b, r, .none⟩) (hK.2 b (Nat.le_trans hk h1) h2)⟩

set_option maxHeartbeats 2000000 in
set_option maxRecDepth 1000000 in
theorem eachkid_clonef (F : Tr → Tr) (n : Nat) (v : Value) (h : Hd) (l : List Tr) (w : World) (hl : Lies anyB w (n + 1) v (Tr.mk h l)) (hn : l.length ≤ 1000000) (hkn : h.ks.length ≤ 1000000)
    (C : ∀ v t W, t ∈ l → Lies anyB W n v t → Calls Tryd.prog 31 #[v] W fun e W' => ∃ v', e = .returned v' ∧ Lies (fun b => W.heap.size ≤ b) W' n v' (F t) ∧ Below W.heap.size W W') :
    Calls Tryd.prog 61 #[v, .func (Fn.func 31) #[] #[]] w fun e w' => ∃ v', e = .returned v' ∧ Lies (fun b => w.heap.size ≤ b) w' (n + 1) v' (Tr.mk h (l.map F)) ∧ Below w.heap.size w w' ∧ FreeRow w.heap.size w' v' := by
  have hl' := hl
  obtain ⟨h', l', ka, kc, da, dc, e1, rfl, hm64, hkc, hdc, hks, hkid⟩ := hl.node
  obtain ⟨rfl, rfl⟩ := Tr.mk_inj e1
  obtain ⟨i0, hi, hz0, hz1, hz2⟩ := info_parts kinfo_val
  have hq : ∀ W, (binOp .eql 30 (.slice da l.length dc) (.slice none 0 0)).run Tryd.prog W = .ok (.bool da.isNone) W := fun W => Lib.run_eql_slice_nil W _ _ da l.length dc 0 0 Tryd.underlying30
  have CK : ∀ W, Below w.heap.size w W → Calls Tryd.prog 84 #[.slice ka h.ks.length kc] W fun e w' => ∃ v', e = .returned v' ∧ StrsIn (fun b => W.heap.size ≤ b) w' v' h.ks ∧ Below W.heap.size W w' :=
    fun W hB => clones_any anyB _ h.ks W (StrsIn.keep ⟨ka, kc, rfl, hkc, hks⟩ (Kept.of_below hB) (fun _ _ h => h)) hkn
  have HC := khide C
  have HCK := khide CK
  have HKID := khide hkid
  clear C CK hl hl' hks hkid e1
  cases da with
  | none =>
    replace hq : ∀ W, (binOp .eql 30 (.slice none l.length dc) (.slice none 0 0)).run Tryd.prog W = .ok (.bool true) W := hq
    go_enter Tryd.func61, Tryd.ntmps61
    go_wp2_with fail
    refine (kunhide HCK _ (((Below.refl _ w).alloc (Nat.le_refl _) _).alloc (by simp) _)).mono ?_
    rintro e W1 ⟨kv', rfl, hst, hB1⟩
    obtain ⟨b1, b2, f1, f2, hz, hB⟩ := box2 w _ _ _ _ W1 hB1
    obtain ⟨ka2, kc2, rfl, hkc2, hks2⟩ := hst
    have HK2 := khide hks2
    have HB := khide hB
    have HB1 := khide hB1
    clear hks2 hB hB1
    go_wp2_with fail
    change bodyPost _ _ _ _ _ ((W1.setCell ⟨w.heap.size, 6, none⟩ (.slice ka2 h.ks.length kc2)).setCells (w.heap.size + 1) 0 [.int .i64 h.k, .int .u64 (h.m : Int), .bool h.ng, .string h.dg, .int .i64 h.sc, .string h.tx, .slice ka2 h.ks.length kc2, .slice none l.length dc, .int .i64 h.cd])
    have hres := res9 (W1.setCell ⟨w.heap.size, 6, none⟩ (.slice ka2 h.ks.length kc2)) (w.heap.size + 1) (.int .i64 h.k) (.int .u64 (h.m : Int)) (.bool h.ng) (.string h.dg) (.int .i64 h.sc) (.string h.tx) (.slice ka2 h.ks.length kc2) (.slice none l.length dc) (.int .i64 h.cd)
      (fun r hr => by
        rw [World.cell?_setCell_other _ _ _ _ (fun e => by have := (Addr.mk.inj e).1; omega), b2 r]
        rw [Array.getElem?_eq_getElem (by simpa using hr)]
        rfl)
    have hBV := setCells_below ((kunhide HB).setCell (p := ⟨w.heap.size, 6, none⟩) (Nat.le_refl _) (.slice ka2 h.ks.length kc2)) (G := w.heap.size + 1) (by omega) 0 [.int .i64 h.k, .int .u64 (h.m : Int), .bool h.ng, .string h.dg, .int .i64 h.sc, .string h.tx, .slice ka2 h.ks.length kc2, .slice none l.length dc, .int .i64 h.cd]
    have hKV : Kept (fun b => w.heap.size + 2 ≤ b) W1 ((W1.setCell ⟨w.heap.size, 6, none⟩ (.slice ka2 h.ks.length kc2)).setCells (w.heap.size + 1) 0 [.int .i64 h.k, .int .u64 (h.m : Int), .bool h.ng, .string h.dg, .int .i64 h.sc, .string h.tx, .slice ka2 h.ks.length kc2, .slice none l.length dc, .int .i64 h.cd]) :=
      (setCell_kept _ _ _ (fun b hb e => by have e2 : b = w.heap.size := e; omega)).trans (setCells_kept _ _ _ _ (fun b hb e => by omega))
    generalize (W1.setCell ⟨w.heap.size, 6, none⟩ (.slice ka2 h.ks.length kc2)).setCells (w.heap.size + 1) 0 [.int .i64 h.k, .int .u64 (h.m : Int), .bool h.ng, .string h.dg, .int .i64 h.sc, .string h.tx, .slice ka2 h.ks.length kc2, .slice none l.length dc, .int .i64 h.cd] = V at hres hBV hKV ⊢
    obtain ⟨r0, r1, r2, r3, r4, r5, r6, r7, r8⟩ := hres
    have hl0 : l = [] := by
      have h1 := hdc.1
      have h2 := hdc.2 rfl
      exact List.eq_nil_of_length_eq_zero (by omega)
    have hks3 := StrsIn.keep (ok := fun b => w.heap.size + 2 ≤ b) (ok' := fun b => w.heap.size ≤ b) ⟨ka2, kc2, rfl, hkc2, by simpa using kunhide HK2⟩ hKV (fun b _ hb => by omega)
    obtain ⟨ka3, kc3, e3, hkc3, hks3⟩ := hks3
    cases e3
    refine bodyPost_ret (v := .agg #[.int .i64 h.k, .int .u64 (h.m : Int), .bool h.ng, .string h.dg, .int .i64 h.sc, .string h.tx, .slice ka2 h.ks.length kc2, .slice none l.length dc, .int .i64 h.cd]) (by simp [results, Tryd.results61, go_sem, r0, r1, r2, r3, r4, r5, r6, r7, r8]) rfl ⟨_, rfl, ?_, hBV, FreeRow.nil _ _ _ _ _ _ _ _ _ _ _ _⟩
    subst hl0
    exact Lies.mk (hd := h) (l := []) hm64 hkc3 hdc hks3 (fun i hi => absurd hi (by simp))
  | some a =>
    replace hq : ∀ W, (binOp .eql 30 (.slice (some a) l.length dc) (.slice none 0 0)).run Tryd.prog W = .ok (.bool false) W := hq
    go_enter Tryd.func61, Tryd.ntmps61
    go_wp2_with fail
    refine (kunhide HCK _ (((Below.refl _ w).alloc (Nat.le_refl _) _).alloc (by simp) _)).mono ?_
    rintro e W1 ⟨kv', rfl, hst, hB1⟩
    obtain ⟨b1, b2, f1, f2, hz, hB⟩ := box2 w _ _ _ _ W1 hB1
    obtain ⟨ka2, kc2, rfl, hkc2, hks2⟩ := hst
    have HK2 := khide hks2
    have HB := khide hB
    have HB1 := khide hB1
    have hn9 : ((l.length : Nat) : Int) ≤ 1000000 := by omega
    clear hks2 hB hB1
    go_wp2_with (at_make; refine wpList_make_full _ rfl (.tmp 18) (.tmp 18) 30 rfl w.heap.size 33 i0 (.agg #[.int .i64 0, .int .u64 0, .bool false, .string ⟨#[]⟩, .int .i64 0, .string ⟨#[]⟩, .slice none 0 0, .slice none 0 0, .int .i64 0]) 9 Tryd.underlying30 hi hz0 hz1 .i64 .i64 _ _ l.length rfl rfl rfl rfl (by rw [hz2]; omega) (by unfold maxLen; omega) (by have := (kunhide HB).size; simp [World.setCell]; omega) ?_)
    intro w2 hown hgrow
    obtain ⟨x1, x2, x3⟩ := box_set W1 w.heap.size 6 _ _ (.slice ka2 h.ks.length kc2) (by simp) b1 b2
    have hXsz : (W1.setCell ⟨w.heap.size, 6, none⟩ (.slice ka2 h.ks.length kc2)).heap.size = W1.heap.size := by simp [World.setCell]
    have hX2 : ∀ wr, Below W1.heap.size w2 wr → ∀ b o, b < W1.heap.size → wr.cell? ⟨b, o, none⟩ = (W1.setCell ⟨w.heap.size, 6, none⟩ (.slice ka2 h.ks.length kc2)).cell? ⟨b, o, none⟩ := by
      intro wr hwr b o hb
      rw [hwr.cell (p := ⟨b, o, none⟩) hb]
      exact World.cell?_of_block (a := ⟨b, o, none⟩) (hgrow.block b (by rw [hXsz]; exact hb) (by simp))
    have hXf : ∀ wr, Below W1.heap.size w2 wr → ∀ b o, b < W1.heap.size → wr.frozen? ⟨b, o, none⟩ = W1.frozen? ⟨b, o, none⟩ := by
      intro wr hwr b o hb
      rw [hwr.frozen (p := ⟨b, o, none⟩) hb]
      have e := World.frozen?_of_block (a := ⟨b, o, none⟩) (hgrow.block b (by rw [hXsz]; exact hb) (by simp))
      rw [e, World.frozen?_setCell]
    have hBX : Below w.heap.size w w2 := ((kunhide HB).setCell (p := ⟨w.heap.size, 6, none⟩) (Nat.le_refl _) _).grown hgrow (by rw [hXsz]; omega) (fun j hj => by cases hj)
    have hG : w2.heap[W1.heap.size]? = some (.cells (madeCells #[.int .i64 0, .int .u64 0, .bool false, .string ⟨#[]⟩, .int .i64 0, .string ⟨#[]⟩, .slice none 0 0, .slice none 0 0, .int .i64 0] (l.length * 9)) 33 (0, 0)) ∨ ∃ cur, w2.heap[W1.heap.size]? = some (.cells cur 33 (0, 0)) ∧ cur.size = l.length * 9 := by
      rcases hown.2 with ⟨e, _⟩ | ⟨g, cap, cur, e, hg, hh, hnn, hmm, hss, htt⟩
      · cases e
      · have e2 := Value.slice.inj e
        obtain ⟨e3, e4, e5⟩ := e2
        have e6 := Option.some.inj e3
        obtain ⟨rfl, _, _⟩ := Addr.mk.inj e6
        exact .inr ⟨cur, hh, by rw [hss, ← e5]⟩
    have hF0 : Filled W1.heap.size w2 n W1.heap.size 0 F l := by
      refine ⟨?_, fun j hj => by omega⟩
      rcases hG with hG | hG
      · exact ⟨_, hG, by simp [madeCells]⟩
      · exact hG
    have hks3 : StrsIn (fun b => w.heap.size + 2 ≤ b ∧ b < W1.heap.size) W1 (.slice ka2 h.ks.length kc2) h.ks := StrsIn.keep (ok := fun b => w.heap.size + 2 ≤ b) ⟨ka2, kc2, rfl, hkc2, by simpa using kunhide HK2⟩ (Kept.refl _ _) (fun b hb h => ⟨h, hb⟩)
    have d7 : w2.cell? ⟨w.heap.size, 7, none⟩ = some (.slice (some a) l.length dc) := (hX2 w2 (Below.refl _ _) w.heap.size 7 (by omega)).trans (x1 7 (by omega))
    have hXB : ∀ wr, Below W1.heap.size w2 wr → ∀ b, b < W1.heap.size → b ≠ w.heap.size → wr.heap[b]? = W1.heap[b]? := by
      intro wr hwr b hb hbs
      rw [hwr.block b hb, hgrow.block b (by rw [hXsz]; exact hb) (by simp), Below.heap_setCell _ _ _ _ hbs]
    have HXB := khide hXB
    have HX2 := khide hX2
    have HXF := khide hXf
    have HX1 := khide x1
    have HX3 := khide x3
    have HXX := khide x2
    have HBX := khide hBX
    have HF0 := khide hF0
    have HKS := khide hks3
    have HF1 := khide f1
    have HF2 := khide f2
    have HZ := khide hz
    clear hXB x1 x2 x3 hX2 hXf hBX hG hF0 hgrow hown hks3 b1 b2 f1 f2 hXsz HK2 hz
    go_wp2_with fail
    go_loopw [23] (fun i wr => ∃ k : Nat, i = .int .i64 (k : Int) ∧ k ≤ l.length ∧ Below W1.heap.size w2 wr ∧ Filled W1.heap.size wr n W1.heap.size k F l) (fun i _ => l.length - (intOf i).toNat)
    case atStart => exact ⟨0, rfl, by omega, Below.refl _ _, kunhide HF0⟩
    case round =>
      obtain ⟨k, rfl, hk9, hBr, hFr⟩ := hrel
      have hBwr : Below w.heap.size w wr := (kunhide HBX).trans (hBr.mono (by have := kunhide HZ; omega))
      by_cases hlt : k < l.length
      · obtain ⟨b, o, hd2, ka3, kn3, kc3, da3, dn3, dc3, hao, hb, ⟨c0, c1, c2, c3, c4, c5, c6, c7, c8⟩, hlies⟩ := kid_at (kunhide HKID) hBwr k hlt
        obtain rfl := Option.some.inj hao
        clear hao
        have HBR := khide hBr
        have HFR := khide hFr
        have HBW := khide hBwr
        have hgsz : W1.heap.size < wr.heap.size := by
          obtain ⟨⟨cur, h1, _⟩, _⟩ := hFr
          exact (Array.getElem?_eq_some_iff.1 h1).1
        have HGS := khide hgsz
        clear d7 hBr hFr hBwr hgsz
        go_wp2_with fail
        refine (kunhide HC _ (l[k]'hlt) _ (List.getElem_mem hlt) (Lies.below ((Below.refl _ _).alloc (Nat.le_refl _) _) hlies)).mono ?_
        rintro e W2 ⟨v', rfl, hlv, hB2⟩
        have hFW : Filled W1.heap.size W2 n W1.heap.size k F l := ((kunhide HFR).below ((Below.refl _ _).alloc (Nat.le_refl _) _)).below hB2
        obtain ⟨hd4, ka4, kn4, kc4, da4, dn4, dc4, rfl⟩ := hlv.shape
        have hroom := hFW.room k hlt
        obtain ⟨⟨g0, y0⟩, z0⟩ := hroom 0 (by omega)
        obtain ⟨⟨g1, y1⟩, z1⟩ := hroom 1 (by omega)
        obtain ⟨⟨g2, y2⟩, z2⟩ := hroom 2 (by omega)
        obtain ⟨⟨g3, y3⟩, z3⟩ := hroom 3 (by omega)
        obtain ⟨⟨g4, y4⟩, z4⟩ := hroom 4 (by omega)
        obtain ⟨⟨g5, y5⟩, z5⟩ := hroom 5 (by omega)
        obtain ⟨⟨g6, y6⟩, z6⟩ := hroom 6 (by omega)
        obtain ⟨⟨g7, y7⟩, z7⟩ := hroom 7 (by omega)
        obtain ⟨⟨g8, y8⟩, z8⟩ := hroom 8 (by omega)
        rw [Nat.add_zero] at y0 z0
        have hlv2 : Lies (fun b => W1.heap.size ≤ b ∧ b ≠ W1.heap.size) W2 n (.agg #[.int .i64 hd4.k, .int .u64 (hd4.m : Int), .bool hd4.ng, .string hd4.dg, .int .i64 hd4.sc, .string hd4.tx, .slice ka4 kn4 kc4, .slice da4 dn4 dc4, .int .i64 hd4.cd]) (F (l[k]'hlt)) :=
          hlv.weak (fun b _ hb => by have := kunhide HGS; simp at hb; omega)
        have hBW2 : Below W1.heap.size w2 W2 := (kunhide HBR).trans (((Below.refl W1.heap.size wr).alloc (by have := kunhide HGS; omega) _).trans (hB2.mono (by have := kunhide HGS; simp; omega)))
        have HFW := khide hFW
        have HLV := khide hlv2
        have HBW2 := khide hBW2
        clear hroom hFW hlv hlv2 hBW2 hB2 c0 c1 c2 c3 c4 c5 c6 c7 c8 hlies
        go_wp2_with fail
        go_roundw
        case rel => exact ⟨k + 1, by go_num, hlt, setCells_below (kunhide HBW2) (Nat.le_refl _) (k * 9) [.int .i64 hd4.k, .int .u64 (hd4.m : Int), .bool hd4.ng, .string hd4.dg, .int .i64 hd4.sc, .string hd4.tx, .slice ka4 kn4 kc4, .slice da4 dn4 dc4, .int .i64 hd4.cd], (kunhide HFW).store hlt [.int .i64 hd4.k, .int .u64 (hd4.m : Int), .bool hd4.ng, .string hd4.dg, .int .i64 hd4.sc, .string hd4.tx, .slice ka4 kn4 kc4, .slice da4 dn4 dc4, .int .i64 hd4.cd] rfl (kunhide HLV)⟩
        case measure => simp [intOf]; omega
      · obtain rfl : k = l.length := by omega
        have e0 : wr.cell? ⟨w.heap.size, 0, none⟩ = some (.int .i64 h.k) := (kunhide HX2 wr hBr w.heap.size 0 (by have := kunhide HZ; omega)).trans (kunhide HX1 0 (by omega))
        have e1 : wr.cell? ⟨w.heap.size, 1, none⟩ = some (.int .u64 (h.m : Int)) := (kunhide HX2 wr hBr w.heap.size 1 (by have := kunhide HZ; omega)).trans (kunhide HX1 1 (by omega))
        have e2 : wr.cell? ⟨w.heap.size, 2, none⟩ = some (.bool h.ng) := (kunhide HX2 wr hBr w.heap.size 2 (by have := kunhide HZ; omega)).trans (kunhide HX1 2 (by omega))
        have e3 : wr.cell? ⟨w.heap.size, 3, none⟩ = some (.string h.dg) := (kunhide HX2 wr hBr w.heap.size 3 (by have := kunhide HZ; omega)).trans (kunhide HX1 3 (by omega))
        have e4 : wr.cell? ⟨w.heap.size, 4, none⟩ = some (.int .i64 h.sc) := (kunhide HX2 wr hBr w.heap.size 4 (by have := kunhide HZ; omega)).trans (kunhide HX1 4 (by omega))
        have e5 : wr.cell? ⟨w.heap.size, 5, none⟩ = some (.string h.tx) := (kunhide HX2 wr hBr w.heap.size 5 (by have := kunhide HZ; omega)).trans (kunhide HX1 5 (by omega))
        have e6 : wr.cell? ⟨w.heap.size, 6, none⟩ = some (.slice ka2 h.ks.length kc2) := (kunhide HX2 wr hBr w.heap.size 6 (by have := kunhide HZ; omega)).trans (kunhide HXX)
        have e7 : wr.cell? ⟨w.heap.size, 7, none⟩ = some (.slice (some a) l.length dc) := (kunhide HX2 wr hBr w.heap.size 7 (by have := kunhide HZ; omega)).trans (kunhide HX1 7 (by omega))
        have e8 : wr.cell? ⟨w.heap.size, 8, none⟩ = some (.int .i64 h.cd) := (kunhide HX2 wr hBr w.heap.size 8 (by have := kunhide HZ; omega)).trans (kunhide HX1 8 (by omega))
        have r9 : ∀ r, wr.cell? ⟨w.heap.size + 1, r, none⟩ = _ := fun r => (kunhide HX2 wr hBr (w.heap.size + 1) r (kunhide HZ)).trans (kunhide HX3 r)
        have z1 : ∀ r, wr.frozen? ⟨w.heap.size, r, none⟩ = false := fun r => (kunhide HXF wr hBr w.heap.size r (by have := kunhide HZ; omega)).trans (kunhide HF1 r)
        have z2 : ∀ r, wr.frozen? ⟨w.heap.size + 1, r, none⟩ = false := fun r => (kunhide HXF wr hBr (w.heap.size + 1) r (kunhide HZ)).trans (kunhide HF2 r)
        have HBR := khide hBr
        have HFR := khide hFr
        have HBW := khide hBwr
        clear d7 hBr hFr hBwr
        go_wp2_with fail
        change bodyPost _ _ _ _ _ ((wr.setCell ⟨w.heap.size, 7, none⟩ (.slice (some ⟨W1.heap.size, 0, none⟩) l.length l.length)).setCells (w.heap.size + 1) 0 [.int .i64 h.k, .int .u64 (h.m : Int), .bool h.ng, .string h.dg, .int .i64 h.sc, .string h.tx, .slice ka2 h.ks.length kc2, .slice (some ⟨W1.heap.size, 0, none⟩) l.length l.length, .int .i64 h.cd])
        have hres := res9 (wr.setCell ⟨w.heap.size, 7, none⟩ (.slice (some ⟨W1.heap.size, 0, none⟩) l.length l.length)) (w.heap.size + 1) (.int .i64 h.k) (.int .u64 (h.m : Int)) (.bool h.ng) (.string h.dg) (.int .i64 h.sc) (.string h.tx) (.slice ka2 h.ks.length kc2) (.slice (some ⟨W1.heap.size, 0, none⟩) l.length l.length) (.int .i64 h.cd)
          (fun r hr => by
            rw [World.cell?_setCell_other _ _ _ _ (fun e => by have := (Addr.mk.inj e).1; omega), r9 r]
            rw [Array.getElem?_eq_getElem (by simpa using hr)]
            rfl)
        have hBV := setCells_below ((kunhide HBW).setCell (p := ⟨w.heap.size, 7, none⟩) (Nat.le_refl _) (.slice (some ⟨W1.heap.size, 0, none⟩) l.length l.length)) (G := w.heap.size + 1) (by omega) 0 [.int .i64 h.k, .int .u64 (h.m : Int), .bool h.ng, .string h.dg, .int .i64 h.sc, .string h.tx, .slice ka2 h.ks.length kc2, .slice (some ⟨W1.heap.size, 0, none⟩) l.length l.length, .int .i64 h.cd]
        have hKV : Kept (fun b => w.heap.size + 2 ≤ b) wr ((wr.setCell ⟨w.heap.size, 7, none⟩ (.slice (some ⟨W1.heap.size, 0, none⟩) l.length l.length)).setCells (w.heap.size + 1) 0 [.int .i64 h.k, .int .u64 (h.m : Int), .bool h.ng, .string h.dg, .int .i64 h.sc, .string h.tx, .slice ka2 h.ks.length kc2, .slice (some ⟨W1.heap.size, 0, none⟩) l.length l.length, .int .i64 h.cd]) :=
          (setCell_kept _ _ _ (fun b hb e => by have e2 : b = w.heap.size := e; omega)).trans (setCells_kept _ _ _ _ (fun b hb e => by omega))
        generalize (wr.setCell ⟨w.heap.size, 7, none⟩ (.slice (some ⟨W1.heap.size, 0, none⟩) l.length l.length)).setCells (w.heap.size + 1) 0 [.int .i64 h.k, .int .u64 (h.m : Int), .bool h.ng, .string h.dg, .int .i64 h.sc, .string h.tx, .slice ka2 h.ks.length kc2, .slice (some ⟨W1.heap.size, 0, none⟩) l.length l.length, .int .i64 h.cd] = V at hres hBV hKV ⊢
        obtain ⟨r0, r1, r2, r3, r4, r5, r6, r7, r8⟩ := hres
        have hKwr : Kept (fun b => w.heap.size + 2 ≤ b ∧ b < W1.heap.size) W1 wr := by
          refine ⟨Nat.le_trans (Nat.le_of_lt ?_) (kunhide HBR).size, fun b hb hbl => ?_⟩
          · have := kunhide HFR
            obtain ⟨⟨cur, h1, _⟩, _⟩ := kunhide HF0
            exact (Array.getElem?_eq_some_iff.1 h1).1
          · exact kunhide HXB wr (kunhide HBR) b hb.2 (by omega)
        obtain ⟨ka3, kc3, e3, hkc3, hks3⟩ := ((kunhide HKS).keep hKwr (fun b _ hb => hb)).keep (hKV.weak (fun b _ hb => hb.1)) (fun b _ hb => (show w.heap.size ≤ b by omega))
        cases e3
        have hkids : ∀ i, ∀ hi : i < (l.map F).length, ∃ b o cs, (some (⟨W1.heap.size, 0, none⟩ : Addr)) = some ⟨b, o, none⟩ ∧ w.heap.size ≤ b ∧ b < V.heap.size ∧ Row9 V b (o + i * 9) cs ∧ Lies (fun b => w.heap.size ≤ b) V n (.agg cs) ((l.map F)[i]'hi) := by
          intro i hi
          have hi2 : i < l.length := by simpa using hi
          obtain ⟨⟨cur, hh, _⟩, hfill⟩ := kunhide HFR
          have hgl : W1.heap.size < wr.heap.size := (Array.getElem?_eq_some_iff.1 hh).1
          obtain ⟨cs, hrow, hlie⟩ := hfill i hi2 hi2
          refine ⟨W1.heap.size, 0, cs, rfl, by have := kunhide HZ; omega, Nat.lt_of_lt_of_le hgl hKV.1, ?_, ?_⟩
          · rw [Nat.zero_add]
            exact hrow.keep (ok := fun b => w.heap.size + 2 ≤ b) (by have := kunhide HZ; show w.heap.size + 2 ≤ W1.heap.size; omega) hgl hKV
          · rw [List.getElem_map]
            exact hlie.keep (hKV.weak (fun b _ hb => by have := kunhide HZ; have := hb.1; show w.heap.size + 2 ≤ b; omega)) (fun b _ hb => by have := kunhide HZ; have := hb.1; show w.heap.size ≤ b; omega)
        refine bodyPost_ret (v := .agg #[.int .i64 h.k, .int .u64 (h.m : Int), .bool h.ng, .string h.dg, .int .i64 h.sc, .string h.tx, .slice ka2 h.ks.length kc2, .slice (some ⟨W1.heap.size, 0, none⟩) l.length l.length, .int .i64 h.cd]) (by simp [results, Tryd.results61, go_sem, r0, r1, r2, r3, r4, r5, r6, r7, r8]) rfl ⟨_, rfl, ?_, hBV, FreeRow.one (G := W1.heap.size) (W0 := wr) (t := 33) (by have := kunhide HZ; omega) (hKV.1) (by obtain ⟨⟨cur, h1, _⟩, _⟩ := kunhide HFR; exact ⟨cur, by rw [hKV.2 _ (show w.heap.size + 2 ≤ W1.heap.size from by have := kunhide HZ; omega) (Array.getElem?_eq_some_iff.1 h1).1]; exact h1⟩)⟩
        have hlm : (l.map F).length = l.length := List.length_map _
        have := Lies.mk (ok := fun b => w.heap.size ≤ b) (w := V) (n := n) (hd := h) (l := l.map F) (ka := ka2) (kc := kc2) (da := some ⟨W1.heap.size, 0, none⟩) (dc := l.length) hm64 hkc3 ⟨by omega, fun e => by cases e⟩ hks3 hkids
        rwa [hlm] at this
set_option maxHeartbeats 2000000 in
set_option maxRecDepth 1000000 in
theorem clone_free : ∀ (n : Nat) (v : Value) (t : Tr) (w : World), Lies anyB w n v t → okT n t →
    Calls Tryd.prog 31 #[v] w fun e w' => ∃ v', e = .returned v' ∧ Lies (fun b => w.heap.size ≤ b) w' n v' t ∧ Below w.heap.size w w' ∧ FreeRow w.heap.size w' v'
  | 0, _, _, _, h, _ => h.elim
  | n + 1, v, t, w, hl, ho => by
    obtain ⟨h, l, ka, kc, da, dc, rfl, rfl, hm64, hkc, hdc, hks, hkid⟩ := hl.node
    have IH := clone_any n
    have C : ∀ W, Below w.heap.size w W → Calls Tryd.prog 61 #[.agg #[.int .i64 h.k, .int .u64 (h.m : Int), .bool h.ng, .string h.dg, .int .i64 h.sc, .string h.tx, .slice ka h.ks.length kc, .slice da l.length dc, .int .i64 h.cd], .func (Fn.func 31) #[] #[]] W
        fun e w' => ∃ v', e = .returned v' ∧ Lies (fun b => W.heap.size ≤ b) w' (n + 1) v' (Tr.mk h l) ∧ Below W.heap.size W w' ∧ FreeRow W.heap.size w' v' := by
      intro W hW
      have := eachkid_clonef (fun t => t) n _ h l W (hl.below hW) ho.2.1 ho.1 (fun v t W hm hlt => IH v t W hlt (ho.2.2 t hm))
      rwa [List.map_id'] at this
    have HC := khide C
    clear C IH hl ho hks hkid
    go_enter Tryd.func31, Tryd.ntmps31
    go_wp2_with fail
    refine (kunhide HC _ (((Below.refl _ w).alloc (Nat.le_refl _) _).alloc (by simp) _)).mono ?_
    rintro e W ⟨v', rfl, hlv, hB1, hfr⟩
    have HFRR := khide hfr
    clear hfr
    obtain ⟨rs, rf, hB, hz⟩ := res_ready w _ _ _ _ W hB1 rfl
    obtain ⟨hd4, ka4, kn4, kc4, da4, dn4, dc4, rfl⟩ := hlv.shape
    have HRS := khide rs
    obtain ⟨g0, y0⟩ := isSome_some (rs 0 (by omega))
    obtain ⟨g1, y1⟩ := isSome_some (rs 1 (by omega))
    obtain ⟨g2, y2⟩ := isSome_some (rs 2 (by omega))
    obtain ⟨g3, y3⟩ := isSome_some (rs 3 (by omega))
    obtain ⟨g4, y4⟩ := isSome_some (rs 4 (by omega))
    obtain ⟨g5, y5⟩ := isSome_some (rs 5 (by omega))
    obtain ⟨g6, y6⟩ := isSome_some (rs 6 (by omega))
    obtain ⟨g7, y7⟩ := isSome_some (rs 7 (by omega))
    obtain ⟨g8, y8⟩ := isSome_some (rs 8 (by omega))
    have HLV := khide hlv
    have HB := khide hB
    clear rs hlv hB hB1
    go_wp2_with fail
    change bodyPost _ _ _ _ _ (W.setCells (w.heap.size + 1) 0 [.int .i64 hd4.k, .int .u64 (hd4.m : Int), .bool hd4.ng, .string hd4.dg, .int .i64 hd4.sc, .string hd4.tx, .slice ka4 kn4 kc4, .slice da4 dn4 dc4, .int .i64 hd4.cd])
    have hres := res9 W (w.heap.size + 1) (.int .i64 hd4.k) (.int .u64 (hd4.m : Int)) (.bool hd4.ng) (.string hd4.dg) (.int .i64 hd4.sc) (.string hd4.tx) (.slice ka4 kn4 kc4) (.slice da4 dn4 dc4) (.int .i64 hd4.cd) (kunhide HRS)
    have hBV := setCells_below (kunhide HB) (G := w.heap.size + 1) (by omega) 0 [.int .i64 hd4.k, .int .u64 (hd4.m : Int), .bool hd4.ng, .string hd4.dg, .int .i64 hd4.sc, .string hd4.tx, .slice ka4 kn4 kc4, .slice da4 dn4 dc4, .int .i64 hd4.cd]
    have hKV := setCells_kept (ok := fun b => w.heap.size + 2 ≤ b) W (w.heap.size + 1) 0 [.int .i64 hd4.k, .int .u64 (hd4.m : Int), .bool hd4.ng, .string hd4.dg, .int .i64 hd4.sc, .string hd4.tx, .slice ka4 kn4 kc4, .slice da4 dn4 dc4, .int .i64 hd4.cd] (fun b hb e => by omega)
    generalize W.setCells (w.heap.size + 1) 0 [.int .i64 hd4.k, .int .u64 (hd4.m : Int), .bool hd4.ng, .string hd4.dg, .int .i64 hd4.sc, .string hd4.tx, .slice ka4 kn4 kc4, .slice da4 dn4 dc4, .int .i64 hd4.cd] = V at hres hBV hKV ⊢
    obtain ⟨r0, r1, r2, r3, r4, r5, r6, r7, r8⟩ := hres
    refine bodyPost_ret (v := .agg #[.int .i64 hd4.k, .int .u64 (hd4.m : Int), .bool hd4.ng, .string hd4.dg, .int .i64 hd4.sc, .string hd4.tx, .slice ka4 kn4 kc4, .slice da4 dn4 dc4, .int .i64 hd4.cd]) (by simp [results, Tryd.results31, go_sem, r0, r1, r2, r3, r4, r5, r6, r7, r8]) rfl ⟨_, rfl, ?_, hBV, (kunhide HFRR).keep (lo' := w.heap.size) hKV (by simp) (by simp; omega)⟩
    exact ((kunhide HLV).weak (ok' := fun b => w.heap.size + 2 ≤ b) (fun b _ hb => by simpa using hb)).keep hKV (fun b _ hb => by have hb2 : w.heap.size + 2 ≤ b := hb; show w.heap.size ≤ b; omega)
end Go.Proofs.YtigpfbfkdccdaaaDoor
