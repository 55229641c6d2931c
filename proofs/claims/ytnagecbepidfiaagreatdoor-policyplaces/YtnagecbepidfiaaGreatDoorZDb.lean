/- What is proved here: what package tree's eachKid makes of a value, walked; condition: what it does with each kid is known; at most a million kids. What is proved here: what package tree's Clone and Bare make of a value, walked; condition: not too many keys and kids anywhere. What is proved here: what package tree's Bare and Tidy make of a value, walked; condition: not too many keys and kids anywhere. What is proved here: what the document's own Texts and Same answer of what is the same, walked. -/
import Derived.Test.YtnagecbepidfiaaGreatDoorZDa
import Derived.Deep.RegionWith
import Derived.BigQuiet
import Derived.Deep.QuietTactic
namespace Go.Proofs.YtnagecbepidfiaaGreatDoor
set_option maxRecDepth 100000
open Go.RowKit
set_option linter.unusedVariables false
set_option linter.unusedSimpArgs false

theorem kinfo_val : (Tryz.prog.info? 42).map (fun i => (i.zero, i.size, i.bytes)) = some (some (.agg #[.int .i64 0, .int .u64 0, .bool false, .string ⟨#[]⟩, .int .i64 0, .string ⟨#[]⟩, .slice none 0 0, .slice none 0 0, .int .i64 0]), 9, 120) := by kernel_rfl

/-- What lies in a row that is being filled. -/
def Filled (lo : Nat) (w : World) (n G k : Nat) (F : Tr → Tr) (l : List Tr) : Prop :=
  (∃ cur, w.heap[G]? = some (.cells cur 42 (0, 0)) ∧ cur.size = l.length * 9) ∧
  ∀ j, j < k → ∀ h : j < l.length, ∃ cs, Row9 w G (j * 9) cs ∧ Lies (fun b => lo ≤ b ∧ b ≠ G) w n (.agg cs) (F (l[j]'h))
theorem Filled.below {lo : Nat} {w w' : World} {n G k : Nat} {F : Tr → Tr} {l : List Tr} (h : Filled lo w n G k F l) (hb : Below w.heap.size w w') : Filled lo w' n G k F l := by
  obtain ⟨⟨cur, h1, h2⟩, h3⟩ := h
  have hG : G < w.heap.size := (Array.getElem?_eq_some_iff.1 h1).1
  refine ⟨⟨cur, by rw [hb.block G hG]; exact h1, h2⟩, fun j hj hl => ?_⟩
  obtain ⟨cs, r, p⟩ := h3 j hj hl
  exact ⟨cs, r.keep (ok := anyB) trivial hG (Kept.of_below hb), p.below hb⟩
theorem Filled.room {lo : Nat} {w : World} {n G k : Nat} {F : Tr → Tr} {l : List Tr} (h : Filled lo w n G k F l) (i : Nat) (hi : i < l.length) : ∀ r, r < 9 → (∃ v, w.cell? ⟨G, i * 9 + r, none⟩ = some v) ∧ w.frozen? ⟨G, i * 9 + r, none⟩ = false := by
  obtain ⟨⟨cur, h1, h2⟩, _⟩ := h
  intro r hr
  have hlt : i * 9 + r < cur.size := by omega
  exact ⟨⟨cur[i * 9 + r]'hlt, by simp [World.cell?, h1, Array.getElem?_eq_getElem hlt]⟩, by simp [World.frozen?, h1]⟩
theorem Filled.store {lo : Nat} {w : World} {n G k : Nat} {F : Tr → Tr} {l : List Tr} (h : Filled lo w n G k F l) (hk : k < l.length) (vs : List Value) (hv : vs.length = 9) (hl : Lies (fun b => lo ≤ b ∧ b ≠ G) w n (.agg vs.toArray) (F (l[k]'hk))) :
    Filled lo (w.setCells G (k * 9) vs) n G (k + 1) F l := by
  have hroom := h.room k hk
  obtain ⟨⟨cur, h1, h2⟩, h3⟩ := h
  obtain ⟨a1, a2, a3, a4, a5, a6⟩ := set9_props w G (k * 9) vs cur 42 h1 (by omega)
  have hG : G < w.heap.size := (Array.getElem?_eq_some_iff.1 h1).1
  have hkept : Kept (fun b => lo ≤ b ∧ b ≠ G) w (w.setCells G (k * 9) vs) := ⟨by rw [a1]; exact Nat.le_refl _, fun b hb _ => a5 b hb.2⟩
  refine ⟨by obtain ⟨c, c1, c2⟩ := a6; exact ⟨c, c1, by omega⟩, fun j hj hjl => ?_⟩
  by_cases e : j = k
  · subst e
    refine ⟨vs.toArray, ?_, hl.keep hkept (fun _ _ h => h)⟩
    intro r hr
    have hr9 : r < vs.length := by simpa using hr
    rw [World.cell?_setCells_in G vs (j * 9) w (fun i hi => by obtain ⟨⟨v, hv2⟩, _⟩ := hroom i (by omega); rw [hv2]; rfl) r hr9]
    simp
  · obtain ⟨cs, r, p⟩ := h3 j (by omega) hjl
    refine ⟨cs, ?_, p.keep hkept (fun _ _ h => h)⟩
    intro q hq
    obtain ⟨m, hd, l2, kv, dv, _, _, e3, _⟩ := p.open
    have hq9 : q < 9 := by
      have := Value.agg.inj e3
      rw [this] at hq
      simpa [nine] using hq
    rw [World.cell?_setCells_out G vs (k * 9) w _ (fun _ _ => by show j * 9 + q < k * 9 ∨ k * 9 + vs.length ≤ j * 9 + q; omega)]
    exact r q hq

theorem box2 (w : World) (c1 c2 : Array Value) (t1 t2 : TypeId) (W : World) (hB : Below ((w.alloc (.cells c1 t1)).alloc (.cells c2 t2)).heap.size ((w.alloc (.cells c1 t1)).alloc (.cells c2 t2)) W) :
    (∀ r, W.cell? ⟨w.heap.size, r, none⟩ = c1[r]?) ∧ (∀ r, W.cell? ⟨w.heap.size + 1, r, none⟩ = c2[r]?) ∧ (∀ r, W.frozen? ⟨w.heap.size, r, none⟩ = false) ∧ (∀ r, W.frozen? ⟨w.heap.size + 1, r, none⟩ = false) ∧ w.heap.size + 1 < W.heap.size ∧ Below w.heap.size w W := by
  have hz := hB.size
  have hz2 : ((w.alloc (.cells c1 t1)).alloc (.cells c2 t2)).heap.size = w.heap.size + 2 := by simp
  refine ⟨fun r => ?_, fun r => ?_, fun r => ?_, fun r => ?_, by omega, ?_⟩
  · rw [hB.cell (p := ⟨w.heap.size, r, none⟩) (by simp; omega), World.cell?_alloc_past _ _ _ (by simp)]
    exact World.cell?_alloc_at _ _ _ _ rfl
  · rw [hB.cell (p := ⟨w.heap.size + 1, r, none⟩) (by simp)]
    exact World.cell?_alloc_at _ _ _ _ (by simp)
  · rw [hB.frozen (p := ⟨w.heap.size, r, none⟩) (by simp; omega), World.frozen?_alloc_past _ _ _ (by simp)]
    exact World.frozen?_alloc_at _ _ _ _ rfl
  · rw [hB.frozen (p := ⟨w.heap.size + 1, r, none⟩) (by simp)]
    exact World.frozen?_alloc_at _ _ _ _ (by simp)
  · exact (((Below.refl _ w).alloc (Nat.le_refl _) _).alloc (by simp) _).trans (hB.mono (by omega))

/-- A box of which one cell was written, and a second box. -/
theorem box_set (W1 : World) (S q : Nat) (c1 c2 : Array Value) (x : Value) (hq : q < c1.size) (b1 : ∀ r, W1.cell? ⟨S, r, none⟩ = c1[r]?) (b2 : ∀ r, W1.cell? ⟨S + 1, r, none⟩ = c2[r]?) :
    (∀ r, r ≠ q → (W1.setCell ⟨S, q, none⟩ x).cell? ⟨S, r, none⟩ = c1[r]?) ∧ (W1.setCell ⟨S, q, none⟩ x).cell? ⟨S, q, none⟩ = some x ∧ (∀ r, (W1.setCell ⟨S, q, none⟩ x).cell? ⟨S + 1, r, none⟩ = c2[r]?) := by
  refine ⟨fun r hr => ?_, ?_, fun r => ?_⟩
  · rw [World.cell?_setCell_other _ _ _ _ (fun e => hr (Addr.mk.inj e).2.1.symm)]
    exact b1 r
  · exact World.cell?_setCell_same _ _ _ (u := c1[q]'hq) (by rw [b1 q, Array.getElem?_eq_getElem hq])
  · rw [World.cell?_setCell_other _ _ _ _ (fun e => by have := (Addr.mk.inj e).1; omega)]
    exact b2 r

set_option maxHeartbeats 2000000 in
set_option maxRecDepth 1000000 in
theorem eachkid_clone (F : Tr → Tr) (n : Nat) (v : Value) (h : Hd) (l : List Tr) (w : World) (hl : Lies anyB w (n + 1) v (Tr.mk h l)) (hn : l.length ≤ 1000000) (hkn : h.ks.length ≤ 1000000)
    (C : ∀ v t W, t ∈ l → Lies anyB W n v t → Calls Tryz.prog 60 #[v] W fun e W' => ∃ v', e = .returned v' ∧ Lies (fun b => W.heap.size ≤ b) W' n v' (F t) ∧ Below W.heap.size W W') :
    Calls Tryz.prog 92 #[v, .func (Fn.func 60) #[] #[]] w fun e w' => ∃ v', e = .returned v' ∧ Lies (fun b => w.heap.size ≤ b) w' (n + 1) v' (Tr.mk h (l.map F)) ∧ Below w.heap.size w w' := by
  have hl' := hl
  obtain ⟨h', l', ka, kc, da, dc, e1, rfl, hm64, hkc, hdc, hks, hkid⟩ := hl.node
  obtain ⟨rfl, rfl⟩ := Tr.mk_inj e1
  obtain ⟨i0, hi, hz0, hz1, hz2⟩ := info_parts kinfo_val
  have hq : ∀ W, (binOp .eql 40 (.slice da l.length dc) (.slice none 0 0)).run Tryz.prog W = .ok (.bool da.isNone) W := fun W => Lib.run_eql_slice_nil W _ _ da l.length dc 0 0 Tryz.underlying40
  have CK : ∀ W, Below w.heap.size w W → Calls Tryz.prog 119 #[.slice ka h.ks.length kc] W fun e w' => ∃ v', e = .returned v' ∧ StrsIn (fun b => W.heap.size ≤ b) w' v' h.ks ∧ Below W.heap.size W w' :=
    fun W hB => clones_any anyB _ h.ks W (StrsIn.keep ⟨ka, kc, rfl, hkc, hks⟩ (Kept.of_below hB) (fun _ _ h => h)) hkn
  have HC := khide C
  have HCK := khide CK
  have HKID := khide hkid
  clear C CK hl hl' hks hkid e1
  cases da with
  | none =>
    replace hq : ∀ W, (binOp .eql 40 (.slice none l.length dc) (.slice none 0 0)).run Tryz.prog W = .ok (.bool true) W := hq
    go_enter Tryz.func92, Tryz.ntmps92
    go_wp2_with fail
    refine (kunhide HCK _ (((Below.refl _ w).alloc (Nat.le_refl _) _).alloc (by simp) _)).mono ?_
    rintro e W1 ⟨kv', rfl, hst, hB1⟩
    obtain ⟨b1, b2, f1, f2, hz, hB⟩ := box2 w _ _ _ _ W1 hB1
    obtain ⟨ka2, kc2, rfl, hkc2, hks2⟩ := hst
    have HK2 := khide hks2
    have HB := khide hB
    have HB1 := khide hB1
    clear hks2 hB hB1
    go_wp2_with fail
    change bodyPost _ _ _ _ _ ((W1.setCell ⟨w.heap.size, 6, none⟩ (.slice ka2 h.ks.length kc2)).setCells (w.heap.size + 1) 0 [.int .i64 h.k, .int .u64 (h.m : Int), .bool h.ng, .string h.dg, .int .i64 h.sc, .string h.tx, .slice ka2 h.ks.length kc2, .slice none l.length dc, .int .i64 h.cd])
    have hres := res9 (W1.setCell ⟨w.heap.size, 6, none⟩ (.slice ka2 h.ks.length kc2)) (w.heap.size + 1) (.int .i64 h.k) (.int .u64 (h.m : Int)) (.bool h.ng) (.string h.dg) (.int .i64 h.sc) (.string h.tx) (.slice ka2 h.ks.length kc2) (.slice none l.length dc) (.int .i64 h.cd)
      (fun r hr => by
        rw [World.cell?_setCell_other _ _ _ _ (fun e => by have := (Addr.mk.inj e).1; omega), b2 r]
        rw [Array.getElem?_eq_getElem (by simpa using hr)]
        rfl)
    have hBV := setCells_below ((kunhide HB).setCell (p := ⟨w.heap.size, 6, none⟩) (Nat.le_refl _) (.slice ka2 h.ks.length kc2)) (G := w.heap.size + 1) (by omega) 0 [.int .i64 h.k, .int .u64 (h.m : Int), .bool h.ng, .string h.dg, .int .i64 h.sc, .string h.tx, .slice ka2 h.ks.length kc2, .slice none l.length dc, .int .i64 h.cd]
    have hKV : Kept (fun b => w.heap.size + 2 ≤ b) W1 ((W1.setCell ⟨w.heap.size, 6, none⟩ (.slice ka2 h.ks.length kc2)).setCells (w.heap.size + 1) 0 [.int .i64 h.k, .int .u64 (h.m : Int), .bool h.ng, .string h.dg, .int .i64 h.sc, .string h.tx, .slice ka2 h.ks.length kc2, .slice none l.length dc, .int .i64 h.cd]) :=
      (setCell_kept _ _ _ (fun b hb e => by have e2 : b = w.heap.size := e; omega)).trans (setCells_kept _ _ _ _ (fun b hb e => by omega))
    generalize (W1.setCell ⟨w.heap.size, 6, none⟩ (.slice ka2 h.ks.length kc2)).setCells (w.heap.size + 1) 0 [.int .i64 h.k, .int .u64 (h.m : Int), .bool h.ng, .string h.dg, .int .i64 h.sc, .string h.tx, .slice ka2 h.ks.length kc2, .slice none l.length dc, .int .i64 h.cd] = V at hres hBV hKV ⊢
    obtain ⟨r0, r1, r2, r3, r4, r5, r6, r7, r8⟩ := hres
    have hl0 : l = [] := by
      have h1 := hdc.1
      have h2 := hdc.2 rfl
      exact List.eq_nil_of_length_eq_zero (by omega)
    have hks3 := StrsIn.keep (ok := fun b => w.heap.size + 2 ≤ b) (ok' := fun b => w.heap.size ≤ b) ⟨ka2, kc2, rfl, hkc2, by simpa using kunhide HK2⟩ hKV (fun b _ hb => by omega)
    obtain ⟨ka3, kc3, e3, hkc3, hks3⟩ := hks3
    cases e3
    refine bodyPost_ret (v := .agg #[.int .i64 h.k, .int .u64 (h.m : Int), .bool h.ng, .string h.dg, .int .i64 h.sc, .string h.tx, .slice ka2 h.ks.length kc2, .slice none l.length dc, .int .i64 h.cd]) (by simp [results, Tryz.results92, go_sem, r0, r1, r2, r3, r4, r5, r6, r7, r8]) rfl ⟨_, rfl, ?_, hBV⟩
    subst hl0
    exact Lies.mk (hd := h) (l := []) hm64 hkc3 hdc hks3 (fun i hi => absurd hi (by simp))
  | some a =>
    replace hq : ∀ W, (binOp .eql 40 (.slice (some a) l.length dc) (.slice none 0 0)).run Tryz.prog W = .ok (.bool false) W := hq
    go_enter Tryz.func92, Tryz.ntmps92
    go_wp2_with fail
    refine (kunhide HCK _ (((Below.refl _ w).alloc (Nat.le_refl _) _).alloc (by simp) _)).mono ?_
    rintro e W1 ⟨kv', rfl, hst, hB1⟩
    obtain ⟨b1, b2, f1, f2, hz, hB⟩ := box2 w _ _ _ _ W1 hB1
    obtain ⟨ka2, kc2, rfl, hkc2, hks2⟩ := hst
    have HK2 := khide hks2
    have HB := khide hB
    have HB1 := khide hB1
    have hn9 : ((l.length : Nat) : Int) ≤ 1000000 := by omega
    clear hks2 hB hB1
    go_wp2_with (at_make; refine wpList_make_full _ rfl (.tmp 18) (.tmp 18) 40 rfl w.heap.size 42 i0 (.agg #[.int .i64 0, .int .u64 0, .bool false, .string ⟨#[]⟩, .int .i64 0, .string ⟨#[]⟩, .slice none 0 0, .slice none 0 0, .int .i64 0]) 9 Tryz.underlying40 hi hz0 hz1 .i64 .i64 _ _ l.length rfl rfl rfl rfl (by rw [hz2]; omega) (by unfold maxLen; omega) (by have := (kunhide HB).size; simp [World.setCell]; omega) ?_)
    intro w2 hown hgrow
    obtain ⟨x1, x2, x3⟩ := box_set W1 w.heap.size 6 _ _ (.slice ka2 h.ks.length kc2) (by simp) b1 b2
    have hXsz : (W1.setCell ⟨w.heap.size, 6, none⟩ (.slice ka2 h.ks.length kc2)).heap.size = W1.heap.size := by simp [World.setCell]
    have hX2 : ∀ wr, Below W1.heap.size w2 wr → ∀ b o, b < W1.heap.size → wr.cell? ⟨b, o, none⟩ = (W1.setCell ⟨w.heap.size, 6, none⟩ (.slice ka2 h.ks.length kc2)).cell? ⟨b, o, none⟩ := by
      intro wr hwr b o hb
      rw [hwr.cell (p := ⟨b, o, none⟩) hb]
      exact World.cell?_of_block (a := ⟨b, o, none⟩) (hgrow.block b (by rw [hXsz]; exact hb) (by simp))
    have hXf : ∀ wr, Below W1.heap.size w2 wr → ∀ b o, b < W1.heap.size → wr.frozen? ⟨b, o, none⟩ = W1.frozen? ⟨b, o, none⟩ := by
      intro wr hwr b o hb
      rw [hwr.frozen (p := ⟨b, o, none⟩) hb]
      have e := World.frozen?_of_block (a := ⟨b, o, none⟩) (hgrow.block b (by rw [hXsz]; exact hb) (by simp))
      rw [e, World.frozen?_setCell]
    have hBX : Below w.heap.size w w2 := ((kunhide HB).setCell (p := ⟨w.heap.size, 6, none⟩) (Nat.le_refl _) _).grown hgrow (by rw [hXsz]; omega) (fun j hj => by cases hj)
    have hG : w2.heap[W1.heap.size]? = some (.cells (madeCells #[.int .i64 0, .int .u64 0, .bool false, .string ⟨#[]⟩, .int .i64 0, .string ⟨#[]⟩, .slice none 0 0, .slice none 0 0, .int .i64 0] (l.length * 9)) 42 (0, 0)) ∨ ∃ cur, w2.heap[W1.heap.size]? = some (.cells cur 42 (0, 0)) ∧ cur.size = l.length * 9 := by
      rcases hown.2 with ⟨e, _⟩ | ⟨g, cap, cur, e, hg, hh, hnn, hmm, hss, htt⟩
      · cases e
      · have e2 := Value.slice.inj e
        obtain ⟨e3, e4, e5⟩ := e2
        have e6 := Option.some.inj e3
        obtain ⟨rfl, _, _⟩ := Addr.mk.inj e6
        exact .inr ⟨cur, hh, by rw [hss, ← e5]⟩
    have hF0 : Filled W1.heap.size w2 n W1.heap.size 0 F l := by
      refine ⟨?_, fun j hj => by omega⟩
      rcases hG with hG | hG
      · exact ⟨_, hG, by simp [madeCells]⟩
      · exact hG
    have hks3 : StrsIn (fun b => w.heap.size + 2 ≤ b ∧ b < W1.heap.size) W1 (.slice ka2 h.ks.length kc2) h.ks := StrsIn.keep (ok := fun b => w.heap.size + 2 ≤ b) ⟨ka2, kc2, rfl, hkc2, by simpa using kunhide HK2⟩ (Kept.refl _ _) (fun b hb h => ⟨h, hb⟩)
    have d7 : w2.cell? ⟨w.heap.size, 7, none⟩ = some (.slice (some a) l.length dc) := (hX2 w2 (Below.refl _ _) w.heap.size 7 (by omega)).trans (x1 7 (by omega))
    have hXB : ∀ wr, Below W1.heap.size w2 wr → ∀ b, b < W1.heap.size → b ≠ w.heap.size → wr.heap[b]? = W1.heap[b]? := by
      intro wr hwr b hb hbs
      rw [hwr.block b hb, hgrow.block b (by rw [hXsz]; exact hb) (by simp), Below.heap_setCell _ _ _ _ hbs]
    have HXB := khide hXB
    have HX2 := khide hX2
    have HXF := khide hXf
    have HX1 := khide x1
    have HX3 := khide x3
    have HXX := khide x2
    have HBX := khide hBX
    have HF0 := khide hF0
    have HKS := khide hks3
    have HF1 := khide f1
    have HF2 := khide f2
    have HZ := khide hz
    clear hXB x1 x2 x3 hX2 hXf hBX hG hF0 hgrow hown hks3 b1 b2 f1 f2 hXsz HK2 hz
    go_wp2_with fail
    go_loopw [23] (fun i wr => ∃ k : Nat, i = .int .i64 (k : Int) ∧ k ≤ l.length ∧ Below W1.heap.size w2 wr ∧ Filled W1.heap.size wr n W1.heap.size k F l) (fun i _ => l.length - (intOf i).toNat)
    case atStart => exact ⟨0, rfl, by omega, Below.refl _ _, kunhide HF0⟩
    case round =>
      obtain ⟨k, rfl, hk9, hBr, hFr⟩ := hrel
      have hBwr : Below w.heap.size w wr := (kunhide HBX).trans (hBr.mono (by have := kunhide HZ; omega))
      by_cases hlt : k < l.length
      · obtain ⟨b, o, hd2, ka3, kn3, kc3, da3, dn3, dc3, hao, hb, ⟨c0, c1, c2, c3, c4, c5, c6, c7, c8⟩, hlies⟩ := kid_at (kunhide HKID) hBwr k hlt
        obtain rfl := Option.some.inj hao
        clear hao
        have HBR := khide hBr
        have HFR := khide hFr
        have HBW := khide hBwr
        have hgsz : W1.heap.size < wr.heap.size := by
          obtain ⟨⟨cur, h1, _⟩, _⟩ := hFr
          exact (Array.getElem?_eq_some_iff.1 h1).1
        have HGS := khide hgsz
        clear d7 hBr hFr hBwr hgsz
        go_wp2_with fail
        refine (kunhide HC _ (l[k]'hlt) _ (List.getElem_mem hlt) (Lies.below ((Below.refl _ _).alloc (Nat.le_refl _) _) hlies)).mono ?_
        rintro e W2 ⟨v', rfl, hlv, hB2⟩
        have hFW : Filled W1.heap.size W2 n W1.heap.size k F l := ((kunhide HFR).below ((Below.refl _ _).alloc (Nat.le_refl _) _)).below hB2
        obtain ⟨hd4, ka4, kn4, kc4, da4, dn4, dc4, rfl⟩ := hlv.shape
        have hroom := hFW.room k hlt
        obtain ⟨⟨g0, y0⟩, z0⟩ := hroom 0 (by omega)
        obtain ⟨⟨g1, y1⟩, z1⟩ := hroom 1 (by omega)
        obtain ⟨⟨g2, y2⟩, z2⟩ := hroom 2 (by omega)
        obtain ⟨⟨g3, y3⟩, z3⟩ := hroom 3 (by omega)
        obtain ⟨⟨g4, y4⟩, z4⟩ := hroom 4 (by omega)
        obtain ⟨⟨g5, y5⟩, z5⟩ := hroom 5 (by omega)
        obtain ⟨⟨g6, y6⟩, z6⟩ := hroom 6 (by omega)
        obtain ⟨⟨g7, y7⟩, z7⟩ := hroom 7 (by omega)
        obtain ⟨⟨g8, y8⟩, z8⟩ := hroom 8 (by omega)
        rw [Nat.add_zero] at y0 z0
        have hlv2 : Lies (fun b => W1.heap.size ≤ b ∧ b ≠ W1.heap.size) W2 n (.agg #[.int .i64 hd4.k, .int .u64 (hd4.m : Int), .bool hd4.ng, .string hd4.dg, .int .i64 hd4.sc, .string hd4.tx, .slice ka4 kn4 kc4, .slice da4 dn4 dc4, .int .i64 hd4.cd]) (F (l[k]'hlt)) :=
          hlv.weak (fun b _ hb => by have := kunhide HGS; simp at hb; omega)
        have hBW2 : Below W1.heap.size w2 W2 := (kunhide HBR).trans (((Below.refl W1.heap.size wr).alloc (by have := kunhide HGS; omega) _).trans (hB2.mono (by have := kunhide HGS; simp; omega)))
        have HFW := khide hFW
        have HLV := khide hlv2
        have HBW2 := khide hBW2
        clear hroom hFW hlv hlv2 hBW2 hB2 c0 c1 c2 c3 c4 c5 c6 c7 c8 hlies
        go_wp2_with fail
        go_roundw
        case rel => exact ⟨k + 1, by go_num, hlt, setCells_below (kunhide HBW2) (Nat.le_refl _) (k * 9) [.int .i64 hd4.k, .int .u64 (hd4.m : Int), .bool hd4.ng, .string hd4.dg, .int .i64 hd4.sc, .string hd4.tx, .slice ka4 kn4 kc4, .slice da4 dn4 dc4, .int .i64 hd4.cd], (kunhide HFW).store hlt [.int .i64 hd4.k, .int .u64 (hd4.m : Int), .bool hd4.ng, .string hd4.dg, .int .i64 hd4.sc, .string hd4.tx, .slice ka4 kn4 kc4, .slice da4 dn4 dc4, .int .i64 hd4.cd] rfl (kunhide HLV)⟩
        case measure => simp [intOf]; omega
      · obtain rfl : k = l.length := by omega
        have e0 : wr.cell? ⟨w.heap.size, 0, none⟩ = some (.int .i64 h.k) := (kunhide HX2 wr hBr w.heap.size 0 (by have := kunhide HZ; omega)).trans (kunhide HX1 0 (by omega))
        have e1 : wr.cell? ⟨w.heap.size, 1, none⟩ = some (.int .u64 (h.m : Int)) := (kunhide HX2 wr hBr w.heap.size 1 (by have := kunhide HZ; omega)).trans (kunhide HX1 1 (by omega))
        have e2 : wr.cell? ⟨w.heap.size, 2, none⟩ = some (.bool h.ng) := (kunhide HX2 wr hBr w.heap.size 2 (by have := kunhide HZ; omega)).trans (kunhide HX1 2 (by omega))
        have e3 : wr.cell? ⟨w.heap.size, 3, none⟩ = some (.string h.dg) := (kunhide HX2 wr hBr w.heap.size 3 (by have := kunhide HZ; omega)).trans (kunhide HX1 3 (by omega))
        have e4 : wr.cell? ⟨w.heap.size, 4, none⟩ = some (.int .i64 h.sc) := (kunhide HX2 wr hBr w.heap.size 4 (by have := kunhide HZ; omega)).trans (kunhide HX1 4 (by omega))
        have e5 : wr.cell? ⟨w.heap.size, 5, none⟩ = some (.string h.tx) := (kunhide HX2 wr hBr w.heap.size 5 (by have := kunhide HZ; omega)).trans (kunhide HX1 5 (by omega))
        have e6 : wr.cell? ⟨w.heap.size, 6, none⟩ = some (.slice ka2 h.ks.length kc2) := (kunhide HX2 wr hBr w.heap.size 6 (by have := kunhide HZ; omega)).trans (kunhide HXX)
        have e7 : wr.cell? ⟨w.heap.size, 7, none⟩ = some (.slice (some a) l.length dc) := (kunhide HX2 wr hBr w.heap.size 7 (by have := kunhide HZ; omega)).trans (kunhide HX1 7 (by omega))
        have e8 : wr.cell? ⟨w.heap.size, 8, none⟩ = some (.int .i64 h.cd) := (kunhide HX2 wr hBr w.heap.size 8 (by have := kunhide HZ; omega)).trans (kunhide HX1 8 (by omega))
        have r9 : ∀ r, wr.cell? ⟨w.heap.size + 1, r, none⟩ = _ := fun r => (kunhide HX2 wr hBr (w.heap.size + 1) r (kunhide HZ)).trans (kunhide HX3 r)
        have z1 : ∀ r, wr.frozen? ⟨w.heap.size, r, none⟩ = false := fun r => (kunhide HXF wr hBr w.heap.size r (by have := kunhide HZ; omega)).trans (kunhide HF1 r)
        have z2 : ∀ r, wr.frozen? ⟨w.heap.size + 1, r, none⟩ = false := fun r => (kunhide HXF wr hBr (w.heap.size + 1) r (kunhide HZ)).trans (kunhide HF2 r)
        have HBR := khide hBr
        have HFR := khide hFr
        have HBW := khide hBwr
        clear d7 hBr hFr hBwr
        go_wp2_with fail
        change bodyPost _ _ _ _ _ ((wr.setCell ⟨w.heap.size, 7, none⟩ (.slice (some ⟨W1.heap.size, 0, none⟩) l.length l.length)).setCells (w.heap.size + 1) 0 [.int .i64 h.k, .int .u64 (h.m : Int), .bool h.ng, .string h.dg, .int .i64 h.sc, .string h.tx, .slice ka2 h.ks.length kc2, .slice (some ⟨W1.heap.size, 0, none⟩) l.length l.length, .int .i64 h.cd])
        have hres := res9 (wr.setCell ⟨w.heap.size, 7, none⟩ (.slice (some ⟨W1.heap.size, 0, none⟩) l.length l.length)) (w.heap.size + 1) (.int .i64 h.k) (.int .u64 (h.m : Int)) (.bool h.ng) (.string h.dg) (.int .i64 h.sc) (.string h.tx) (.slice ka2 h.ks.length kc2) (.slice (some ⟨W1.heap.size, 0, none⟩) l.length l.length) (.int .i64 h.cd)
          (fun r hr => by
            rw [World.cell?_setCell_other _ _ _ _ (fun e => by have := (Addr.mk.inj e).1; omega), r9 r]
            rw [Array.getElem?_eq_getElem (by simpa using hr)]
            rfl)
        have hBV := setCells_below ((kunhide HBW).setCell (p := ⟨w.heap.size, 7, none⟩) (Nat.le_refl _) (.slice (some ⟨W1.heap.size, 0, none⟩) l.length l.length)) (G := w.heap.size + 1) (by omega) 0 [.int .i64 h.k, .int .u64 (h.m : Int), .bool h.ng, .string h.dg, .int .i64 h.sc, .string h.tx, .slice ka2 h.ks.length kc2, .slice (some ⟨W1.heap.size, 0, none⟩) l.length l.length, .int .i64 h.cd]
        have hKV : Kept (fun b => w.heap.size + 2 ≤ b) wr ((wr.setCell ⟨w.heap.size, 7, none⟩ (.slice (some ⟨W1.heap.size, 0, none⟩) l.length l.length)).setCells (w.heap.size + 1) 0 [.int .i64 h.k, .int .u64 (h.m : Int), .bool h.ng, .string h.dg, .int .i64 h.sc, .string h.tx, .slice ka2 h.ks.length kc2, .slice (some ⟨W1.heap.size, 0, none⟩) l.length l.length, .int .i64 h.cd]) :=
          (setCell_kept _ _ _ (fun b hb e => by have e2 : b = w.heap.size := e; omega)).trans (setCells_kept _ _ _ _ (fun b hb e => by omega))
        generalize (wr.setCell ⟨w.heap.size, 7, none⟩ (.slice (some ⟨W1.heap.size, 0, none⟩) l.length l.length)).setCells (w.heap.size + 1) 0 [.int .i64 h.k, .int .u64 (h.m : Int), .bool h.ng, .string h.dg, .int .i64 h.sc, .string h.tx, .slice ka2 h.ks.length kc2, .slice (some ⟨W1.heap.size, 0, none⟩) l.length l.length, .int .i64 h.cd] = V at hres hBV hKV ⊢
        obtain ⟨r0, r1, r2, r3, r4, r5, r6, r7, r8⟩ := hres
        have hKwr : Kept (fun b => w.heap.size + 2 ≤ b ∧ b < W1.heap.size) W1 wr := by
          refine ⟨Nat.le_trans (Nat.le_of_lt ?_) (kunhide HBR).size, fun b hb hbl => ?_⟩
          · have := kunhide HFR
            obtain ⟨⟨cur, h1, _⟩, _⟩ := kunhide HF0
            exact (Array.getElem?_eq_some_iff.1 h1).1
          · exact kunhide HXB wr (kunhide HBR) b hb.2 (by omega)
        obtain ⟨ka3, kc3, e3, hkc3, hks3⟩ := ((kunhide HKS).keep hKwr (fun b _ hb => hb)).keep (hKV.weak (fun b _ hb => hb.1)) (fun b _ hb => (show w.heap.size ≤ b by omega))
        cases e3
        have hkids : ∀ i, ∀ hi : i < (l.map F).length, ∃ b o cs, (some (⟨W1.heap.size, 0, none⟩ : Addr)) = some ⟨b, o, none⟩ ∧ w.heap.size ≤ b ∧ b < V.heap.size ∧ Row9 V b (o + i * 9) cs ∧ Lies (fun b => w.heap.size ≤ b) V n (.agg cs) ((l.map F)[i]'hi) := by
          intro i hi
          have hi2 : i < l.length := by simpa using hi
          obtain ⟨⟨cur, hh, _⟩, hfill⟩ := kunhide HFR
          have hgl : W1.heap.size < wr.heap.size := (Array.getElem?_eq_some_iff.1 hh).1
          obtain ⟨cs, hrow, hlie⟩ := hfill i hi2 hi2
          refine ⟨W1.heap.size, 0, cs, rfl, by have := kunhide HZ; omega, Nat.lt_of_lt_of_le hgl hKV.1, ?_, ?_⟩
          · rw [Nat.zero_add]
            exact hrow.keep (ok := fun b => w.heap.size + 2 ≤ b) (by have := kunhide HZ; show w.heap.size + 2 ≤ W1.heap.size; omega) hgl hKV
          · rw [List.getElem_map]
            exact hlie.keep (hKV.weak (fun b _ hb => by have := kunhide HZ; have := hb.1; show w.heap.size + 2 ≤ b; omega)) (fun b _ hb => by have := kunhide HZ; have := hb.1; show w.heap.size ≤ b; omega)
        refine bodyPost_ret (v := .agg #[.int .i64 h.k, .int .u64 (h.m : Int), .bool h.ng, .string h.dg, .int .i64 h.sc, .string h.tx, .slice ka2 h.ks.length kc2, .slice (some ⟨W1.heap.size, 0, none⟩) l.length l.length, .int .i64 h.cd]) (by simp [results, Tryz.results92, go_sem, r0, r1, r2, r3, r4, r5, r6, r7, r8]) rfl ⟨_, rfl, ?_, hBV⟩
        have hlm : (l.map F).length = l.length := List.length_map _
        have := Lies.mk (ok := fun b => w.heap.size ≤ b) (w := V) (n := n) (hd := h) (l := l.map F) (ka := ka2) (kc := kc2) (da := some ⟨W1.heap.size, 0, none⟩) (dc := l.length) hm64 hkc3 ⟨by omega, fun e => by cases e⟩ hks3 hkids
        rwa [hlm] at this
end Go.Proofs.YtnagecbepidfiaaGreatDoor

namespace Go.Proofs.YtnagecbepidfiaaGreatDoor
set_option maxRecDepth 100000
open Go.RowKit
set_option linter.unusedVariables false
set_option linter.unusedSimpArgs false

/-- What is known of a box and of the cells of a result, in a later world. -/
theorem res_ready (w : World) (c1 c2 : Array Value) (t1 t2 : TypeId) (W : World) (hB : Below ((w.alloc (.cells c1 t1)).alloc (.cells c2 t2)).heap.size ((w.alloc (.cells c1 t1)).alloc (.cells c2 t2)) W) (h9 : c2.size = 9) :
    (∀ r, r < 9 → (W.cell? ⟨w.heap.size + 1, r, none⟩).isSome = true) ∧ (∀ r, W.frozen? ⟨w.heap.size + 1, r, none⟩ = false) ∧ Below w.heap.size w W ∧ w.heap.size + 1 < W.heap.size := by
  obtain ⟨b1, b2, f1, f2, hz, hB2⟩ := box2 w c1 c2 t1 t2 W hB
  refine ⟨fun r hr => ?_, f2, hB2, hz⟩
  rw [b2 r, Array.getElem?_eq_getElem (by omega)]
  rfl
theorem isSome_some {w : World} {a : Addr} (h : (w.cell? a).isSome = true) : ∃ v, w.cell? a = some v := Option.isSome_iff_exists.1 h
set_option maxHeartbeats 2000000 in
set_option maxRecDepth 1000000 in
theorem clone_any : ∀ (n : Nat) (v : Value) (t : Tr) (w : World), Lies anyB w n v t → okT n t →
    Calls Tryz.prog 60 #[v] w fun e w' => ∃ v', e = .returned v' ∧ Lies (fun b => w.heap.size ≤ b) w' n v' t ∧ Below w.heap.size w w'
  | 0, _, _, _, h, _ => h.elim
  | n + 1, v, t, w, hl, ho => by
    obtain ⟨h, l, ka, kc, da, dc, rfl, rfl, hm64, hkc, hdc, hks, hkid⟩ := hl.node
    have IH := clone_any n
    have C : ∀ W, Below w.heap.size w W → Calls Tryz.prog 92 #[.agg #[.int .i64 h.k, .int .u64 (h.m : Int), .bool h.ng, .string h.dg, .int .i64 h.sc, .string h.tx, .slice ka h.ks.length kc, .slice da l.length dc, .int .i64 h.cd], .func (Fn.func 60) #[] #[]] W
        fun e w' => ∃ v', e = .returned v' ∧ Lies (fun b => W.heap.size ≤ b) w' (n + 1) v' (Tr.mk h l) ∧ Below W.heap.size W w' := by
      intro W hW
      have := eachkid_clone (fun t => t) n _ h l W (hl.below hW) ho.2.1 ho.1 (fun v t W hm hlt => IH v t W hlt (ho.2.2 t hm))
      rwa [List.map_id'] at this
    have HC := khide C
    clear C IH hl ho hks hkid
    go_enter Tryz.func60, Tryz.ntmps60
    go_wp2_with fail
    refine (kunhide HC _ (((Below.refl _ w).alloc (Nat.le_refl _) _).alloc (by simp) _)).mono ?_
    rintro e W ⟨v', rfl, hlv, hB1⟩
    obtain ⟨rs, rf, hB, hz⟩ := res_ready w _ _ _ _ W hB1 rfl
    obtain ⟨hd4, ka4, kn4, kc4, da4, dn4, dc4, rfl⟩ := hlv.shape
    have HRS := khide rs
    obtain ⟨g0, y0⟩ := isSome_some (rs 0 (by omega))
    obtain ⟨g1, y1⟩ := isSome_some (rs 1 (by omega))
    obtain ⟨g2, y2⟩ := isSome_some (rs 2 (by omega))
    obtain ⟨g3, y3⟩ := isSome_some (rs 3 (by omega))
    obtain ⟨g4, y4⟩ := isSome_some (rs 4 (by omega))
    obtain ⟨g5, y5⟩ := isSome_some (rs 5 (by omega))
    obtain ⟨g6, y6⟩ := isSome_some (rs 6 (by omega))
    obtain ⟨g7, y7⟩ := isSome_some (rs 7 (by omega))
    obtain ⟨g8, y8⟩ := isSome_some (rs 8 (by omega))
    have HLV := khide hlv
    have HB := khide hB
    clear rs hlv hB hB1
    go_wp2_with fail
    change bodyPost _ _ _ _ _ (W.setCells (w.heap.size + 1) 0 [.int .i64 hd4.k, .int .u64 (hd4.m : Int), .bool hd4.ng, .string hd4.dg, .int .i64 hd4.sc, .string hd4.tx, .slice ka4 kn4 kc4, .slice da4 dn4 dc4, .int .i64 hd4.cd])
    have hres := res9 W (w.heap.size + 1) (.int .i64 hd4.k) (.int .u64 (hd4.m : Int)) (.bool hd4.ng) (.string hd4.dg) (.int .i64 hd4.sc) (.string hd4.tx) (.slice ka4 kn4 kc4) (.slice da4 dn4 dc4) (.int .i64 hd4.cd) (kunhide HRS)
    have hBV := setCells_below (kunhide HB) (G := w.heap.size + 1) (by omega) 0 [.int .i64 hd4.k, .int .u64 (hd4.m : Int), .bool hd4.ng, .string hd4.dg, .int .i64 hd4.sc, .string hd4.tx, .slice ka4 kn4 kc4, .slice da4 dn4 dc4, .int .i64 hd4.cd]
    have hKV := setCells_kept (ok := fun b => w.heap.size + 2 ≤ b) W (w.heap.size + 1) 0 [.int .i64 hd4.k, .int .u64 (hd4.m : Int), .bool hd4.ng, .string hd4.dg, .int .i64 hd4.sc, .string hd4.tx, .slice ka4 kn4 kc4, .slice da4 dn4 dc4, .int .i64 hd4.cd] (fun b hb e => by omega)
    generalize W.setCells (w.heap.size + 1) 0 [.int .i64 hd4.k, .int .u64 (hd4.m : Int), .bool hd4.ng, .string hd4.dg, .int .i64 hd4.sc, .string hd4.tx, .slice ka4 kn4 kc4, .slice da4 dn4 dc4, .int .i64 hd4.cd] = V at hres hBV hKV ⊢
    obtain ⟨r0, r1, r2, r3, r4, r5, r6, r7, r8⟩ := hres
    refine bodyPost_ret (v := .agg #[.int .i64 hd4.k, .int .u64 (hd4.m : Int), .bool hd4.ng, .string hd4.dg, .int .i64 hd4.sc, .string hd4.tx, .slice ka4 kn4 kc4, .slice da4 dn4 dc4, .int .i64 hd4.cd]) (by simp [results, Tryz.results60, go_sem, r0, r1, r2, r3, r4, r5, r6, r7, r8]) rfl ⟨_, rfl, ?_, hBV⟩
    exact ((kunhide HLV).weak (ok' := fun b => w.heap.size + 2 ≤ b) (fun b _ hb => by simpa using hb)).keep hKV (fun b _ hb => by have hb2 : w.heap.size + 2 ≤ b := hb; show w.heap.size ≤ b; omega)
end Go.Proofs.YtnagecbepidfiaaGreatDoor

namespace Go.Proofs.YtnagecbepidfiaaGreatDoor
set_option maxRecDepth 100000
open Go.RowKit
set_option linter.unusedVariables false
set_option linter.unusedSimpArgs false

end Go.Proofs.YtnagecbepidfiaaGreatDoor

namespace Go.Proofs.YtnagecbepidfiaaGreatDoor
set_option maxRecDepth 100000
open Go.RowKit
set_option linter.unusedVariables false
set_option linter.unusedSimpArgs false

theorem below_drewN' {B : Nat} {a w : World} (h : Below B a w) : ∀ {n : Nat}, Below B a (w.drewN n) := fun {n} => ⟨h.os, h.tape, h.output, h.size, h.block⟩
theorem beq_selfB (u : ByteArray) : (u.toList == u.toList) = true := beq_self_eq_true _
theorem bne_selfB (u : ByteArray) : (u.toList != u.toList) = false := bne_self_eq_false _
set_option maxHeartbeats 1000000 in
set_option maxRecDepth 1000000 in
theorem texts_eq (ok ok' : Nat → Prop) (v v' : Value) (ks : List ByteArray) (w : World) (h1 : StrsIn ok w v ks) (h2 : StrsIn ok' w v' ks) (hn : ks.length ≤ 1000000) :
    Calls Tryz.prog 63 #[v, v'] w fun e w' => e = .returned (.bool true) ∧ Below w.heap.size w w' := by
  obtain ⟨a, c, rfl, _, hk⟩ := h1
  obtain ⟨a', c', rfl, _, hk'⟩ := h2
  have HK := khide hk
  have HK' := khide hk'
  clear hk hk'
  go_enter Tryz.func63, Tryz.ntmps63
  go_wp2_with fail
  go_loopw [5] (fun i wr => ∃ k : Nat, i = .int .i64 (k : Int) ∧ k ≤ ks.length ∧ Below w.heap.size w wr) (fun i _ => ks.length - (intOf i).toNat)
  case atStart => exact ⟨0, rfl, by omega, Below.refl _ _⟩
  case round =>
    obtain ⟨k, rfl, hk9, hB⟩ := hrel
    by_cases hlt : k < ks.length
    · obtain ⟨b, o, hao, hb, hc⟩ := str_at (kunhide HK) hB k hlt
      obtain ⟨b', o', hao', hb', hc'⟩ := str_at (kunhide HK') hB k hlt
      subst hao
      subst hao'
      obtain ⟨s, hs⟩ : ∃ s, ks[k]'hlt = s := ⟨_, rfl⟩
      rw [hs] at hc hc'
      have hsf := bne_selfB s
      have HB := khide hB
      have hi : (k : Int) < (ks.length : Int) := by omega
      clear hs hB
      go_wp2_with fail
      go_quiet (fail)
      go_wp2_with fail
      go_roundw
      case rel => exact ⟨k + 1, by go_num, hlt, by first | exact kunhide HB | exact below_drewN' (kunhide HB)⟩
      case measure => simp [intOf]; omega
    · have HB := khide hB
      clear hB
      go_wp2_with fail
      go_ret
      exact ⟨rfl, kunhide HB⟩

/-- Two boxes, in a later world. -/
theorem two_box (w : World) (c1 c2 : Array Value) (t1 t2 : TypeId) (W : World) (hB : Below ((w.alloc (.cells c1 t1)).alloc (.cells c2 t2)).heap.size ((w.alloc (.cells c1 t1)).alloc (.cells c2 t2)) W) :
    (∀ r, W.cell? ⟨w.heap.size, r, none⟩ = c1[r]?) ∧ (∀ r, W.cell? ⟨w.heap.size + 1, r, none⟩ = c2[r]?) ∧ Below w.heap.size w W := by
  have hz := hB.size
  refine ⟨fun r => ?_, fun r => ?_, ?_⟩
  · rw [hB.cell (p := ⟨w.heap.size, r, none⟩) (by simp; omega), World.cell?_alloc_past _ _ _ (by simp)]
    exact World.cell?_alloc_at _ _ _ _ rfl
  · rw [hB.cell (p := ⟨w.heap.size + 1, r, none⟩) (by simp)]
    exact World.cell?_alloc_at _ _ _ _ (by simp)
  · exact (((Below.refl _ w).alloc (Nat.le_refl _) _).alloc (by simp) _).trans (hB.mono (by simp; omega))

set_option maxHeartbeats 2000000 in
set_option maxRecDepth 1000000 in
theorem rsame_eq (ok ok' : Nat → Prop) : ∀ (n : Nat) (v v' : Value) (t : Tr) (w : World), Lies ok w n v t → Lies ok' w n v' t → okT n t →
    Calls Tryz.prog 20 #[v, v'] w fun e w' => e = .returned (.bool true) ∧ Below w.heap.size w w'
  | 0, _, _, _, _, h, _, _ => h.elim
  | n + 1, v, v', t, w, h1, h2, ho => by
    obtain ⟨h, l, ka, kc, da, dc, rfl, rfl, hm64, hkc, hdc, hks, hkid⟩ := h1.node
    obtain ⟨h', l', ka', kc', da', dc', e1, rfl, hm64', hkc', hdc', hks', hkid'⟩ := h2.node
    obtain ⟨rfl, rfl⟩ := Tr.mk_inj e1
    have IH := khide (rsame_eq ok ok' n)
    have CT : ∀ W, Below w.heap.size w W → Calls Tryz.prog 63 #[.slice ka h.ks.length kc, .slice ka' h.ks.length kc'] W fun e w' => e = .returned (.bool true) ∧ Below W.heap.size W w' := fun W hW =>
      texts_eq ok ok' _ _ h.ks W (StrsIn.keep ⟨ka, kc, rfl, hkc, hks⟩ (Kept.of_below hW) (fun _ _ h => h)) (StrsIn.keep ⟨ka', kc', rfl, hkc', hks'⟩ (Kept.of_below hW) (fun _ _ h => h)) ho.1
    have hlen : l.length ≤ 1000000 := ho.2.1
    have HO := khide ho.2.2
    have HCT := khide CT
    have HK := khide hkid
    have HK' := khide hkid'
    have e2 := bne_selfB h.tx
    have e3 := bne_selfB h.dg
    have e4 := beq_selfB h.dg
    have e5 := beq_selfB h.tx
    clear CT h1 h2 ho hks hks' hkid hkid' e1
    go_enter Tryz.func20, Tryz.ntmps20
    go_wp2_with fail
    refine (kunhide HCT _ (((Below.refl _ w).alloc (Nat.le_refl _) _).alloc (by simp) _)).mono ?_
    rintro e W1 ⟨rfl, hB1⟩
    obtain ⟨b1, b2, hB⟩ := two_box w _ _ _ _ W1 hB1
    have HB1 := khide hB1
    clear hB1
    go_wp2_with fail
    go_loopw [6] (fun i wr => ∃ k : Nat, i = .int .i64 (k : Int) ∧ k ≤ l.length ∧ Below W1.heap.size W1 wr) (fun i _ => l.length - (intOf i).toNat)
    case atStart => exact ⟨0, rfl, by omega, Below.refl _ _⟩
    case round =>
      obtain ⟨k, rfl, hk9, hBr⟩ := hrel
      clear b1 b2
      have hB1r := (kunhide HB1).trans (hBr.mono (kunhide HB1).size)
      obtain ⟨b1, b2, hBw⟩ := two_box w _ _ _ _ wr hB1r
      by_cases hlt : k < l.length
      · obtain ⟨b, o, hd2, ka2, kn2, kc2, da2, dn2, dc2, hao, hb, ⟨c0, c1, c2, c3, c4, c5, c6, c7, c8⟩, hlies⟩ := kid_at (kunhide HK) hBw k hlt
        obtain ⟨b', o', hd2', ka2', kn2', kc2', da2', dn2', dc2', hao', hb', ⟨c0', c1', c2', c3', c4', c5', c6', c7', c8'⟩, hlies'⟩ := kid_at (kunhide HK') hBw k hlt
        subst hao
        subst hao'
        have C := fun W hW => kunhide IH _ _ (l[k]'hlt) W (Lies.below hW hlies) (Lies.below hW hlies') (kunhide HO _ (List.getElem_mem hlt))
        have HC := khide C
        have HBR := khide hBr
        have hi : (k : Int) < (l.length : Int) := by omega
        clear C hBr hB1r hBw hlies hlies'
        go_wp2_with fail
        go_region_with (go_at_call 20; refine (kunhide HC _ ((Below.refl _ _).drew)).mono ?_; rintro e W2 ⟨rfl, hb2⟩)
        all_goals
          have hBR2 : Below W1.heap.size W1 W2 := (kunhide HBR).trans ((Below.drew (Below.refl W1.heap.size wr)).trans (hb2.mono (kunhide HBR).size))
          clear hb2 b1 b2
          go_wp2_with fail
          go_roundw
          case rel => exact ⟨k + 1, by go_num, hlt, hBR2⟩
          case measure => simp [intOf]; omega
      · have HBW := khide hBw
        clear hBw hB1r hBr
        go_wp2_with fail
        go_ret
        exact ⟨rfl, kunhide HBW⟩
end Go.Proofs.YtnagecbepidfiaaGreatDoor
