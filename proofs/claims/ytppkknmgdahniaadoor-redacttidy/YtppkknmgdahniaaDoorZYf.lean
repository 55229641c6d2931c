/- What is proved here: put of the document's own reader of layer 5, into an object without members and into one with one member, walked; conditions: the object's rows are owned, the key is another one. Written by put_gen.py. -/
import Derived.Test.YtppkknmgdahniaaDoorZYd
import Derived.Test.YtppkknmgdahniaaDoorZYe
import Derived.Test.YtppkknmgdahniaaDoorZYj
namespace Go.Proofs.YtppkknmgdahniaaDoor.Pol
set_option maxRecDepth 100000
open Go.RowKit Go.Proofs.YtppkknmgdahniaaDoor.Nc Go.Proofs.YtppkknmgdahniaaDoor.Np Go.Proofs.YtppkknmgdahniaaDoor.Nq
set_option maxRecDepth 100000
set_option linter.unusedVariables false
set_option linter.unusedSimpArgs false

theorem own_get {w : World} {base n size : Nat} {e : TypeId} {v : Value} {xs : List Value} (h : w.ownsRow base e size v n xs) (hn : 0 < n) : ∃ g cap, v = .slice (some ⟨g, 0, none⟩) n cap ∧ base ≤ g ∧ g < w.heap.size ∧ ∃ cur, w.heap[g]? = some (.cells cur e) := by
  rcases h.2 with ⟨_, e2⟩ | ⟨g, cap, cur, hv, hb, hg, _⟩
  · omega
  · refine ⟨g, cap, hv, hb, ?_, cur, hg⟩
    rcases Nat.lt_or_ge g w.heap.size with q | q
    · exact q
    · rw [Array.getElem?_eq_none q] at hg; cases hg
theorem own_at {w w' : World} {base n size g cap : Nat} {e : TypeId} {xs : List Value} (h : w.ownsRow base e size (.slice (some ⟨g, 0, none⟩) n cap) n xs) (hk : w'.heap[g]? = w.heap[g]?) : w'.ownsRow base e size (.slice (some ⟨g, 0, none⟩) n cap) n xs := by
  refine ⟨h.1, ?_⟩
  rcases h.2 with ⟨e, e2⟩ | ⟨g', cap', cur, hv, hbg, hh, r⟩
  · exact .inl ⟨e, e2⟩
  · obtain ⟨rfl, _, _⟩ := Addr.mk.inj (Option.some.inj (Value.slice.inj hv).1)
    exact .inr ⟨g, cap', cur, hv, hbg, by rw [hk]; exact hh, r⟩
theorem own_lo {w : World} {base base' n size : Nat} {e : TypeId} {v : Value} {xs : List Value} (h : w.ownsRow base e size v n xs) (hb : base' ≤ base) : w.ownsRow base' e size v n xs := by
  refine ⟨h.1, ?_⟩
  rcases h.2 with h | ⟨g', cap', cur, hv, hbg, r⟩
  · exact .inl h
  · exact .inr ⟨g', cap', cur, hv, Nat.le_trans hb hbg, r⟩
theorem kcells (hd : Hd) (ka : Option Addr) (kn kc : Nat) (da : Option Addr) (dn dc : Nat) : ∀ u ∈ ([.int .i64 hd.k, .int .u64 (hd.m : Int), .bool hd.ng, .string hd.dg, .int .i64 hd.sc, .string hd.tx, .slice ka kn kc, .slice da dn dc, .int .i64 hd.cd] : List Value), u.oneCell' = true := nine_one _ _ _ _ _ _ _ _ _ _ _ _ _
set_option maxHeartbeats 4000000 in
theorem put_nil (key : ByteArray) (hd : Hd) (ka : Option Addr) (kn kc : Nat) (da : Option Addr) (dn dc : Nat) (w : World) :
    Calls Tryd.prog 96 #[.agg #[.int .i64 7, .int .u64 0, .bool false, .string ⟨#[]⟩, .int .i64 0, .string ⟨#[]⟩, .slice none 0 0, .slice none 0 0, .int .i64 0], .string key, .agg #[.int .i64 hd.k, .int .u64 (hd.m : Int), .bool hd.ng, .string hd.dg, .int .i64 hd.sc, .string hd.tx, .slice ka kn kc, .slice da dn dc, .int .i64 hd.cd]] w fun e w' => ∃ kg' kc' g' cp', e = .returned (.agg #[.int .i64 7, .int .u64 0, .bool false, .string ⟨#[]⟩, .int .i64 0, .string ⟨#[]⟩, .slice (some ⟨kg', 0, none⟩) 1 kc', .slice (some ⟨g', 0, none⟩) 1 cp', .int .i64 0]) ∧ w'.ownsRow w.heap.size 9 1 (.slice (some ⟨kg', 0, none⟩) 1 kc') 1 ([] ++ [.string key]) ∧ w'.ownsRow w.heap.size 31 9 (.slice (some ⟨g', 0, none⟩) 1 cp') 1 ([] ++ [.int .i64 hd.k, .int .u64 (hd.m : Int), .bool hd.ng, .string hd.dg, .int .i64 hd.sc, .string hd.tx, .slice ka kn kc, .slice da dn dc, .int .i64 hd.cd]) ∧ kg' ≠ g' ∧ Below w.heap.size w w' := by
  have hoK : w.ownsRow w.heap.size 9 1 (.slice none 0 0) 0 [] := World.ownsRow_nil _ _ _ _
  have hoD : w.ownsRow w.heap.size 31 9 (.slice none 0 0) 0 [] := World.ownsRow_nil _ _ _ _
  have hlo : w.heap.size ≤ w.heap.size := Nat.le_refl _
  obtain ⟨i0, hi, hz0, hz1, hz2⟩ := info_parts info_str
  obtain ⟨i1, hi1, hy0, hy1, hy2⟩ := info_parts kinfo_val
  obtain ⟨w1, e1, z1, g1, x1⟩ := alloc_facts w #[.int .i64 7, .int .u64 0, .bool false, .string ⟨#[]⟩, .int .i64 0, .string ⟨#[]⟩, .slice none 0 0, .slice none 0 0, .int .i64 0] 31
  obtain ⟨w2, e2, z2, g2, x2⟩ := alloc_facts w1 #[.int .i64 hd.k, .int .u64 (hd.m : Int), .bool hd.ng, .string hd.dg, .int .i64 hd.sc, .string hd.tx, .slice ka kn kc, .slice da dn dc, .int .i64 hd.cd] 31
  obtain ⟨w3, e3, z3, g3, x3⟩ := alloc_facts w2 #[.int .i64 0, .int .u64 0, .bool false, .string ⟨#[]⟩, .int .i64 0, .string ⟨#[]⟩, .slice none 0 0, .slice none 0 0, .int .i64 0] 31
  have hb : Below w.heap.size w w3 := (g1.trans (g2.mono (by omega))).trans (g3.mono (by omega))
  rw [z1] at x2
  rw [z2, z1] at x3
  replace x1 := (x1.below g2).below g3
  replace x2 := x2.below g3
  have hs3 : w3.heap.size = w.heap.size + 1 + 1 + 1 := by omega
  have HE : Hid (w.alloc (.cells #[.int .i64 7, .int .u64 0, .bool false, .string ⟨#[]⟩, .int .i64 0, .string ⟨#[]⟩, .slice none 0 0, .slice none 0 0, .int .i64 0] 31) = w1 ∧ w1.alloc (.cells #[.int .i64 hd.k, .int .u64 (hd.m : Int), .bool hd.ng, .string hd.dg, .int .i64 hd.sc, .string hd.tx, .slice ka kn kc, .slice da dn dc, .int .i64 hd.cd] 31) = w2 ∧ w2.alloc (.cells #[.int .i64 0, .int .u64 0, .bool false, .string ⟨#[]⟩, .int .i64 0, .string ⟨#[]⟩, .slice none 0 0, .slice none 0 0, .int .i64 0] 31) = w3) := phide ⟨e1, e2, e3⟩
  have hoK3 : w3.ownsRow w.heap.size 9 1 (.slice none 0 0) 0 [] := World.ownsRow_nil _ _ _ _
  have hoD3 : ∀ W : World, W.ownsRow w.heap.size 31 9 (.slice none 0 0) 0 [] := fun W => World.ownsRow_nil _ _ _ _
  clear e1 e2 e3 z1 z2 z3 g1 g2 g3 hoK hoD
  have y0 := x1.cell 0
  have y1 := x1.cell 1
  have y2 := x1.cell 2
  have y3 := x1.cell 3
  have y4 := x1.cell 4
  have y5 := x1.cell 5
  have y6 := x1.cell 6
  have y7 := x1.cell 7
  have y8 := x1.cell 8
  have v0 := x2.cell 0
  have v1 := x2.cell 1
  have v2 := x2.cell 2
  have v3 := x2.cell 3
  have v4 := x2.cell 4
  have v5 := x2.cell 5
  have v6 := x2.cell 6
  have v7 := x2.cell 7
  have v8 := x2.cell 8
  have yf6 := x1.free 6
  have yf7 := x1.free 7
  have HX := phide (And.intro x1 (And.intro x2 (And.intro x3 hb)))
  have HOD := phide hoD3
  clear hoD3
  have HS3 := phide hs3
  have hlt3 : w.heap.size ≤ w3.heap.size := by omega
  clear x1 x2 x3 hb hs3
  go_enter Tryd.func96, Tryd.ntmps96
  go_upto_region 1 with fail
  rw [(punhide HE).1, (punhide HE).2.1, (punhide HE).2.2]
  clear HE
  go_wp2_with fail
  go_loopg [7] 0 (fun gh I wr => ∃ j : Nat, I = .int .i64 (j : Int) ∧ j + gh = 0 ∧ wr = w3)
  case atStart => exact ⟨0, rfl, rfl, rfl⟩
  case round =>
    obtain ⟨j, rfl, hj, rfl⟩ := hrel
    obtain rfl : j = 0 := by omega
    go_wp2_with (at_builtin; refine wpList_append_own _ rfl _ _ 27 rfl (wr.heap.size + 1) 9 i0 (.string ⟨#[]⟩) 1 16 Tryd.underlying27 hi hz0 hz1 hz2 rfl (by decide) _ 0 [] rfl (World.ownsRow_nil _ _ _ _) ⟨wr.heap.size, 0, none⟩ 1 1 [.string key] rfl rfl (one_cell _ _ _) (one_one _ rfl) (by unfold maxLen; omega) (by omega) (by simp) ?_)
    intro kv' X1 hoK' hgr1 _
    obtain ⟨kg', kc', rfl, hkg1, hkg2, -⟩ := own_get hoK' (by omega)
    have hK1 : ∀ b, b < wr.heap.size → X1.heap[b]? = wr.heap[b]? := fun b hb => (hgr1.block b (by simp; omega) (fun e => by cases e)).trans (((Below.refl _ wr).alloc (Nat.le_refl _) _).block b hb)
    have hz1' : wr.heap.size + 1 ≤ X1.heap.size := by have := hgr1.size; simpa using this
    have hB1 : Below wr.heap.size wr X1 := ((Below.refl _ wr).alloc (Nat.le_refl _) _).grown hgr1 (by simp) (fun j hj => by cases hj)
    obtain ⟨x1, x2, x3, hb⟩ := punhide HX
    have x1b : Bx X1 w.heap.size #[.int .i64 7, .int .u64 0, .bool false, .string ⟨#[]⟩, .int .i64 0, .string ⟨#[]⟩, .slice none 0 0, .slice none 0 0, .int .i64 0] 31 := (hK1 w.heap.size (by have := punhide HS3; omega)).trans x1
    have x2b : Bx X1 (w.heap.size + 1) #[.int .i64 hd.k, .int .u64 (hd.m : Int), .bool hd.ng, .string hd.dg, .int .i64 hd.sc, .string hd.tx, .slice ka kn kc, .slice da dn dc, .int .i64 hd.cd] 31 := (hK1 (w.heap.size + 1) (by have := punhide HS3; omega)).trans x2
    have x3b : Bx X1 (w.heap.size + 1 + 1) #[.int .i64 0, .int .u64 0, .bool false, .string ⟨#[]⟩, .int .i64 0, .string ⟨#[]⟩, .slice none 0 0, .slice none 0 0, .int .i64 0] 31 := (hK1 (w.heap.size + 1 + 1) (by have := punhide HS3; omega)).trans x3
    have x1c := Bx.setAt (i := 6) x1b (.slice (some ⟨kg', 0, none⟩) 1 kc') rfl
    have x2c : Bx (X1.setCell ⟨w.heap.size, 6, none⟩ (.slice (some ⟨kg', 0, none⟩) 1 kc')) (w.heap.size + 1) #[.int .i64 hd.k, .int .u64 (hd.m : Int), .bool hd.ng, .string hd.dg, .int .i64 hd.sc, .string hd.tx, .slice ka kn kc, .slice da dn dc, .int .i64 hd.cd] 31 := (Below.heap_setCell _ _ _ _ (show w.heap.size + 1 ≠ w.heap.size by omega)).trans x2b
    have x3c : Bx (X1.setCell ⟨w.heap.size, 6, none⟩ (.slice (some ⟨kg', 0, none⟩) 1 kc')) (w.heap.size + 1 + 1) #[.int .i64 0, .int .u64 0, .bool false, .string ⟨#[]⟩, .int .i64 0, .string ⟨#[]⟩, .slice none 0 0, .slice none 0 0, .int .i64 0] 31 := (Below.heap_setCell _ _ _ _ (show w.heap.size + 1 + 1 ≠ w.heap.size by omega)).trans x3b
    have hsz4 : (X1.setCell ⟨w.heap.size, 6, none⟩ (.slice (some ⟨kg', 0, none⟩) 1 kc')).heap.size = X1.heap.size := by simp [World.setCell]
    clear y0 y1 y2 y3 y4 y5 y6 y7 y8 v0 v1 v2 v3 v4 v5 v6 v7 v8 yf6 yf7 x1 x2 x3
    have y0 := x1b.cell 0
    have y1 := x1b.cell 1
    have y2 := x1b.cell 2
    have y3 := x1b.cell 3
    have y4 := x1b.cell 4
    have y5 := x1b.cell 5
    have y6 := x1b.cell 6
    have y7 := x1b.cell 7
    have y8 := x1b.cell 8
    have yf6 := x1b.free 6
    have v0 := x2c.cell 0
    have v1 := x2c.cell 1
    have v2 := x2c.cell 2
    have v3 := x2c.cell 3
    have v4 := x2c.cell 4
    have v5 := x2c.cell 5
    have v6 := x2c.cell 6
    have v7 := x2c.cell 7
    have v8 := x2c.cell 8
    have HX4 := phide (And.intro x1c (And.intro x2c (And.intro x3c (And.intro hb hsz4))))
    have HO1 := phide (And.intro hoK' (And.intro hK1 hB1))
    clear x1b x2b x3b x1c x2c x3c hb hoK' hgr1 hK1 hB1 hsz4
    go_wp2_with (at_builtin; refine wpList_append_own _ rfl _ _ 28 rfl (X1.heap.size + 1) 31 i1 (.agg #[.int .i64 0, .int .u64 0, .bool false, .string ⟨#[]⟩, .int .i64 0, .string ⟨#[]⟩, .slice none 0 0, .slice none 0 0, .int .i64 0]) 9 120 Tryd.underlying28 hi1 hy0 hy1 hy2 rfl (by decide) _ 0 [] rfl (World.ownsRow_nil _ _ _ _) ⟨X1.heap.size, 0, none⟩ 1 1 [.int .i64 hd.k, .int .u64 (hd.m : Int), .bool hd.ng, .string hd.dg, .int .i64 hd.sc, .string hd.tx, .slice ka kn kc, .slice da dn dc, .int .i64 hd.cd] rfl rfl (by have := cells_new (X1.setCell ⟨w.heap.size, 6, none⟩ (.slice (some ⟨kg', 0, none⟩) 1 kc')) [.int .i64 hd.k, .int .u64 (hd.m : Int), .bool hd.ng, .string hd.dg, .int .i64 hd.sc, .string hd.tx, .slice ka kn kc, .slice da dn dc, .int .i64 hd.cd] 31; rw [(punhide HX4).2.2.2.2] at this; exact this) (kcells _ _ _ _ _ _ _) (by unfold maxLen; omega) (by omega) (by simp [World.setCell]) ?_)
    intro dv' X2 hoD' hgr2 _
    obtain ⟨g', cp', rfl, hg1, hg2, -⟩ := own_get hoD' (by omega)
    have hK2 : ∀ b, b < X1.heap.size → X2.heap[b]? = (X1.setCell ⟨w.heap.size, 6, none⟩ (.slice (some ⟨kg', 0, none⟩) 1 kc')).heap[b]? := fun b hb => (hgr2.block b (by simp [World.setCell]; omega) (fun e => by cases e)).trans (((Below.refl _ _).alloc (Nat.le_refl _) _).block b (by rw [(punhide HX4).2.2.2.2]; exact hb))
    have hB2 : Below X1.heap.size (X1.setCell ⟨w.heap.size, 6, none⟩ (.slice (some ⟨kg', 0, none⟩) 1 kc')) X2 := ((Below.refl X1.heap.size (X1.setCell ⟨w.heap.size, 6, none⟩ (.slice (some ⟨kg', 0, none⟩) 1 kc'))).alloc (by rw [(punhide HX4).2.2.2.2]; exact Nat.le_refl _) _).grown hgr2 (by simp [World.setCell]) (fun j hj => by cases hj)
    obtain ⟨x1, x2, x3, hb, hsz4⟩ := punhide HX4
    obtain ⟨hoK', hK1, hB1⟩ := punhide HO1
    have hwz := punhide HS3
    have hxz := hB2.size
    rw [hsz4] at hxz
    have x1b : Bx X2 w.heap.size #[.int .i64 7, .int .u64 0, .bool false, .string ⟨#[]⟩, .int .i64 0, .string ⟨#[]⟩, .slice (some ⟨kg', 0, none⟩) 1 kc', .slice none 0 0, .int .i64 0] 31 := (hK2 w.heap.size (by omega)).trans x1
    have x3b : Bx X2 (w.heap.size + 1 + 1) #[.int .i64 0, .int .u64 0, .bool false, .string ⟨#[]⟩, .int .i64 0, .string ⟨#[]⟩, .slice none 0 0, .slice none 0 0, .int .i64 0] 31 := (hK2 (w.heap.size + 1 + 1) (by omega)).trans x3
    have x1c : Bx (X2.setCell ⟨w.heap.size, 7, none⟩ (.slice (some ⟨g', 0, none⟩) 1 cp')) w.heap.size #[.int .i64 7, .int .u64 0, .bool false, .string ⟨#[]⟩, .int .i64 0, .string ⟨#[]⟩, .slice (some ⟨kg', 0, none⟩) 1 kc', .slice (some ⟨g', 0, none⟩) 1 cp', .int .i64 0] 31 := Bx.setAt (i := 7) x1b (.slice (some ⟨g', 0, none⟩) 1 cp') rfl
    have x3c : Bx (X2.setCell ⟨w.heap.size, 7, none⟩ (.slice (some ⟨g', 0, none⟩) 1 cp')) (w.heap.size + 1 + 1) #[.int .i64 0, .int .u64 0, .bool false, .string ⟨#[]⟩, .int .i64 0, .string ⟨#[]⟩, .slice none 0 0, .slice none 0 0, .int .i64 0] 31 := (Below.heap_setCell _ _ _ _ (show w.heap.size + 1 + 1 ≠ w.heap.size by omega)).trans x3b
    have hRes := res9 (X2.setCell ⟨w.heap.size, 7, none⟩ (.slice (some ⟨g', 0, none⟩) 1 cp')) (w.heap.size + 1 + 1) (.int .i64 7) (.int .u64 0) (.bool false) (.string ⟨#[]⟩) (.int .i64 0) (.string ⟨#[]⟩) (.slice (some ⟨kg', 0, none⟩) 1 kc') (.slice (some ⟨g', 0, none⟩) 1 cp') (.int .i64 0) (fun r hr => by rw [x3c.cell r, Array.getElem?_eq_getElem (by simpa using hr)]; rfl)
    have hfr : ∀ b, b ≠ w.heap.size + 1 + 1 → ((X2.setCell ⟨w.heap.size, 7, none⟩ (.slice (some ⟨g', 0, none⟩) 1 cp')).setCells (w.heap.size + 1 + 1) 0 [.int .i64 7, .int .u64 0, .bool false, .string ⟨#[]⟩, .int .i64 0, .string ⟨#[]⟩, .slice (some ⟨kg', 0, none⟩) 1 kc', .slice (some ⟨g', 0, none⟩) 1 cp', .int .i64 0]).heap[b]? = (X2.setCell ⟨w.heap.size, 7, none⟩ (.slice (some ⟨g', 0, none⟩) 1 cp')).heap[b]? := (setCells_frame (w.heap.size + 1 + 1) [.int .i64 7, .int .u64 0, .bool false, .string ⟨#[]⟩, .int .i64 0, .string ⟨#[]⟩, .slice (some ⟨kg', 0, none⟩) 1 kc', .slice (some ⟨g', 0, none⟩) 1 cp', .int .i64 0] 0 (X2.setCell ⟨w.heap.size, 7, none⟩ (.slice (some ⟨g', 0, none⟩) 1 cp'))).2.2.2.2
    have hfr2 : ∀ b, b ≠ w.heap.size + 1 + 1 → b ≠ w.heap.size → ((X2.setCell ⟨w.heap.size, 7, none⟩ (.slice (some ⟨g', 0, none⟩) 1 cp')).setCells (w.heap.size + 1 + 1) 0 [.int .i64 7, .int .u64 0, .bool false, .string ⟨#[]⟩, .int .i64 0, .string ⟨#[]⟩, .slice (some ⟨kg', 0, none⟩) 1 kc', .slice (some ⟨g', 0, none⟩) 1 cp', .int .i64 0]).heap[b]? = X2.heap[b]? := fun b h1 h2 => (hfr b h1).trans (Below.heap_setCell _ _ _ _ h2)
    have hoDf := own_at hoD' (hfr2 g' (by omega) (by omega))
    have hoKf := own_at hoK' ((hfr2 kg' (by omega) (by omega)).trans ((hK2 kg' hkg2).trans (Below.heap_setCell _ _ _ _ (show kg' ≠ w.heap.size by omega))))
    have hBf : Below w.heap.size w ((X2.setCell ⟨w.heap.size, 7, none⟩ (.slice (some ⟨g', 0, none⟩) 1 cp')).setCells (w.heap.size + 1 + 1) 0 [.int .i64 7, .int .u64 0, .bool false, .string ⟨#[]⟩, .int .i64 0, .string ⟨#[]⟩, .slice (some ⟨kg', 0, none⟩) 1 kc', .slice (some ⟨g', 0, none⟩) 1 cp', .int .i64 0]) := setCells_below ((((hb.trans (hB1.mono (by omega))).setCell (p := ⟨w.heap.size, 6, none⟩) (Nat.le_refl _) _).trans (hB2.mono (by omega))).setCell (p := ⟨w.heap.size, 7, none⟩) (Nat.le_refl _) _) (by omega) 0 _
    have HFIN := phide (And.intro (own_lo hoKf (show w.heap.size ≤ wr.heap.size + 1 by omega)) (And.intro (own_lo hoDf (show w.heap.size ≤ X1.heap.size + 1 by omega)) (And.intro (show kg' ≠ g' by omega) hBf)))
    have HRes := phide hRes
    have HX6 := phide (And.intro x1c x3c)
    have yf7 := x1b.free 7
    clear y0 y1 y2 y3 y4 y5 y6 y7 y8 v0 v1 v2 v3 v4 v5 v6 v7 v8 yf6
    have y0 := x1b.cell 0
    have y1 := x1b.cell 1
    have y2 := x1b.cell 2
    have y3 := x1b.cell 3
    have y4 := x1b.cell 4
    have y5 := x1b.cell 5
    have y6 := x1b.cell 6
    have y7 := x1b.cell 7
    have y8 := x1b.cell 8
    have v0 := x3b.cell 0
    have v1 := x3b.cell 1
    have v2 := x3b.cell 2
    have v3 := x3b.cell 3
    have v4 := x3b.cell 4
    have v5 := x3b.cell 5
    have v6 := x3b.cell 6
    have v7 := x3b.cell 7
    have v8 := x3b.cell 8
    have vf0 := x3b.free 0
    have vf1 := x3b.free 1
    have vf2 := x3b.free 2
    have vf3 := x3b.free 3
    have vf4 := x3b.free 4
    have vf5 := x3b.free 5
    have vf6 := x3b.free 6
    have vf7 := x3b.free 7
    have vf8 := x3b.free 8
    clear x1 x2 x3 hb hsz4 hoK' hK1 hB1 hwz hxz x1b x3b x1c x3c hRes hfr hfr2 hoDf hoKf hBf hoD' hgr2 hK2 hB2 
    go_wp2_with fail
    change bodyPost _ _ _ _ _ ((X2.setCell ⟨w.heap.size, 7, none⟩ (.slice (some ⟨g', 0, none⟩) 1 cp')).setCells (w.heap.size + 1 + 1) 0 [.int .i64 7, .int .u64 0, .bool false, .string ⟨#[]⟩, .int .i64 0, .string ⟨#[]⟩, .slice (some ⟨kg', 0, none⟩) 1 kc', .slice (some ⟨g', 0, none⟩) 1 cp', .int .i64 0])
    obtain ⟨r0, r1, r2, r3, r4, r5, r6, r7, r8⟩ := punhide HRes
    exact bodyPost_ret (v := .agg #[.int .i64 7, .int .u64 0, .bool false, .string ⟨#[]⟩, .int .i64 0, .string ⟨#[]⟩, .slice (some ⟨kg', 0, none⟩) 1 kc', .slice (some ⟨g', 0, none⟩) 1 cp', .int .i64 0]) (by simp [results, Tryd.results96, go_sem, r0, r1, r2, r3, r4, r5, r6, r7, r8]) rfl ⟨kg', kc', g', cp', rfl, punhide HFIN⟩
set_option maxHeartbeats 4000000 in
theorem put_one (lo kg kcp g cp : Nat) (key key0 : ByteArray) (k0 : List Value) (hd : Hd) (ka : Option Addr) (kn kc : Nat) (da : Option Addr) (dn dc : Nat) (w : World) (hlo : lo ≤ w.heap.size) (hne0 : key0 ≠ key) (hgg : kg ≠ g) (hoK : w.ownsRow lo 9 1 (.slice (some ⟨kg, 0, none⟩) 1 kcp) 1 [.string key0]) (hoD : w.ownsRow lo 31 9 (.slice (some ⟨g, 0, none⟩) 1 cp) 1 k0) :
    Calls Tryd.prog 96 #[.agg #[.int .i64 7, .int .u64 0, .bool false, .string ⟨#[]⟩, .int .i64 0, .string ⟨#[]⟩, .slice (some ⟨kg, 0, none⟩) 1 kcp, .slice (some ⟨g, 0, none⟩) 1 cp, .int .i64 0], .string key, .agg #[.int .i64 hd.k, .int .u64 (hd.m : Int), .bool hd.ng, .string hd.dg, .int .i64 hd.sc, .string hd.tx, .slice ka kn kc, .slice da dn dc, .int .i64 hd.cd]] w fun e w' => ∃ kg' kc' g' cp', e = .returned (.agg #[.int .i64 7, .int .u64 0, .bool false, .string ⟨#[]⟩, .int .i64 0, .string ⟨#[]⟩, .slice (some ⟨kg', 0, none⟩) 2 kc', .slice (some ⟨g', 0, none⟩) 2 cp', .int .i64 0]) ∧ w'.ownsRow lo 9 1 (.slice (some ⟨kg', 0, none⟩) 2 kc') 2 ([.string key0] ++ [.string key]) ∧ w'.ownsRow lo 31 9 (.slice (some ⟨g', 0, none⟩) 2 cp') 2 (k0 ++ [.int .i64 hd.k, .int .u64 (hd.m : Int), .bool hd.ng, .string hd.dg, .int .i64 hd.sc, .string hd.tx, .slice ka kn kc, .slice da dn dc, .int .i64 hd.cd]) ∧ kg' ≠ g' ∧ (kg' = kg ∨ w.heap.size ≤ kg') ∧ (g' = g ∨ w.heap.size ≤ g') ∧ Below lo w w' ∧ ∀ b, b < w.heap.size → b ≠ kg → b ≠ g → w'.heap[b]? = w.heap[b]? := by
  have hkg := (hoK.lt kg rfl).2
  have hgl := (hoD.lt g rfl).2
  obtain ⟨i0, hi, hz0, hz1, hz2⟩ := info_parts info_str
  obtain ⟨i1, hi1, hy0, hy1, hy2⟩ := info_parts kinfo_val
  obtain ⟨w1, e1, z1, g1, x1⟩ := alloc_facts w #[.int .i64 7, .int .u64 0, .bool false, .string ⟨#[]⟩, .int .i64 0, .string ⟨#[]⟩, .slice (some ⟨kg, 0, none⟩) 1 kcp, .slice (some ⟨g, 0, none⟩) 1 cp, .int .i64 0] 31
  obtain ⟨w2, e2, z2, g2, x2⟩ := alloc_facts w1 #[.int .i64 hd.k, .int .u64 (hd.m : Int), .bool hd.ng, .string hd.dg, .int .i64 hd.sc, .string hd.tx, .slice ka kn kc, .slice da dn dc, .int .i64 hd.cd] 31
  obtain ⟨w3, e3, z3, g3, x3⟩ := alloc_facts w2 #[.int .i64 0, .int .u64 0, .bool false, .string ⟨#[]⟩, .int .i64 0, .string ⟨#[]⟩, .slice none 0 0, .slice none 0 0, .int .i64 0] 31
  have hb : Below w.heap.size w w3 := (g1.trans (g2.mono (by omega))).trans (g3.mono (by omega))
  rw [z1] at x2
  rw [z2, z1] at x3
  replace x1 := (x1.below g2).below g3
  replace x2 := x2.below g3
  have hs3 : w3.heap.size = w.heap.size + 1 + 1 + 1 := by omega
  have HE : Hid (w.alloc (.cells #[.int .i64 7, .int .u64 0, .bool false, .string ⟨#[]⟩, .int .i64 0, .string ⟨#[]⟩, .slice (some ⟨kg, 0, none⟩) 1 kcp, .slice (some ⟨g, 0, none⟩) 1 cp, .int .i64 0] 31) = w1 ∧ w1.alloc (.cells #[.int .i64 hd.k, .int .u64 (hd.m : Int), .bool hd.ng, .string hd.dg, .int .i64 hd.sc, .string hd.tx, .slice ka kn kc, .slice da dn dc, .int .i64 hd.cd] 31) = w2 ∧ w2.alloc (.cells #[.int .i64 0, .int .u64 0, .bool false, .string ⟨#[]⟩, .int .i64 0, .string ⟨#[]⟩, .slice none 0 0, .slice none 0 0, .int .i64 0] 31) = w3) := phide ⟨e1, e2, e3⟩
  have hoK3 := own_at hoK (hb.block kg hkg)
  have hoD3 := own_at hoD (hb.block g hgl)
  have yk := hoK3.cells (g := kg) rfl 0 (.string key0) rfl
  rw [show (⟨kg, 0, none⟩ : Addr).add 0 = ⟨kg, 0, none⟩ from rfl] at yk
  have hkf : (key0.toList == key.toList) = false := by rw [txt_beq, decide_eq_false hne0]
  clear e1 e2 e3 z1 z2 z3 g1 g2 g3 hoK hoD
  have y0 := x1.cell 0
  have y1 := x1.cell 1
  have y2 := x1.cell 2
  have y3 := x1.cell 3
  have y4 := x1.cell 4
  have y5 := x1.cell 5
  have y6 := x1.cell 6
  have y7 := x1.cell 7
  have y8 := x1.cell 8
  have v0 := x2.cell 0
  have v1 := x2.cell 1
  have v2 := x2.cell 2
  have v3 := x2.cell 3
  have v4 := x2.cell 4
  have v5 := x2.cell 5
  have v6 := x2.cell 6
  have v7 := x2.cell 7
  have v8 := x2.cell 8
  have yf6 := x1.free 6
  have yf7 := x1.free 7
  have HX := phide (And.intro x1 (And.intro x2 (And.intro x3 hb)))
  have HOD := phide hoD3
  clear hoD3
  have HS3 := phide hs3
  have hlt3 : lo ≤ w3.heap.size := by omega
  clear x1 x2 x3 hb hs3
  go_enter Tryd.func96, Tryd.ntmps96
  go_upto_region 1 with fail
  rw [(punhide HE).1, (punhide HE).2.1, (punhide HE).2.2]
  clear HE
  go_wp2_with fail
  go_loopg [7] 1 (fun gh I wr => ∃ j : Nat, I = .int .i64 (j : Int) ∧ j + gh = 1 ∧ wr = w3)
  case atStart => exact ⟨0, rfl, rfl, rfl⟩
  case round =>
    obtain ⟨j, rfl, hj, rfl⟩ := hrel
    by_cases hj0 : j = 0
    · subst hj0
      go_wp2_with fail
      go_roundg 0
      case measure => omega
      case rel => exact ⟨1, rfl, rfl, rfl⟩
    obtain rfl : j = 1 := by omega
    have HOK := phide hoK3
    go_wp2_with (at_builtin; refine wpList_append_own2 _ rfl _ _ 27 rfl lo 9 i0 (.string ⟨#[]⟩) 1 16 Tryd.underlying27 hi hz0 hz1 hz2 rfl (by decide) kg kcp 1 [.string key0] rfl ((punhide HOK).alloc _) ⟨wr.heap.size, 0, none⟩ 1 1 [.string key] rfl rfl (one_cell _ _ _) (one_one _ rfl) (by unfold maxLen; omega) (by omega) (by simp; omega) ?_)
    intro kg' kc' X1 hoK' hgr1 hgg1
    have hkg2 := (hoK'.lt kg' rfl).2
    have hkg1 := (hoK'.lt kg' rfl).1
    have hgg1' : kg' = kg ∨ wr.heap.size + 1 ≤ kg' := by simpa using hgg1
    have hK1 : ∀ b, b < wr.heap.size → b ≠ kg → X1.heap[b]? = wr.heap[b]? := fun b hb hne => (hgr1.block b (by simp; omega) (fun e => hne (Option.some.inj e))).trans (((Below.refl _ wr).alloc (Nat.le_refl _) _).block b hb)
    have hz1' : wr.heap.size + 1 ≤ X1.heap.size := by have := hgr1.size; simpa using this
    have hB1 : Below lo wr X1 := ((Below.refl _ wr).mono hlt3 |>.alloc hlt3 _).grown hgr1 (by simp; omega) (fun j hj => by have := Option.some.inj hj; have := (punhide HOK).lt kg rfl; omega)
    obtain ⟨x1, x2, x3, hb⟩ := punhide HX
    have x1b : Bx X1 w.heap.size #[.int .i64 7, .int .u64 0, .bool false, .string ⟨#[]⟩, .int .i64 0, .string ⟨#[]⟩, .slice (some ⟨kg, 0, none⟩) 1 kcp, .slice (some ⟨g, 0, none⟩) 1 cp, .int .i64 0] 31 := (hK1 w.heap.size (by have := punhide HS3; omega) (by omega)).trans x1
    have x2b : Bx X1 (w.heap.size + 1) #[.int .i64 hd.k, .int .u64 (hd.m : Int), .bool hd.ng, .string hd.dg, .int .i64 hd.sc, .string hd.tx, .slice ka kn kc, .slice da dn dc, .int .i64 hd.cd] 31 := (hK1 (w.heap.size + 1) (by have := punhide HS3; omega) (by omega)).trans x2
    have x3b : Bx X1 (w.heap.size + 1 + 1) #[.int .i64 0, .int .u64 0, .bool false, .string ⟨#[]⟩, .int .i64 0, .string ⟨#[]⟩, .slice none 0 0, .slice none 0 0, .int .i64 0] 31 := (hK1 (w.heap.size + 1 + 1) (by have := punhide HS3; omega) (by omega)).trans x3
    have x1c := Bx.setAt (i := 6) x1b (.slice (some ⟨kg', 0, none⟩) 2 kc') rfl
    have x2c : Bx (X1.setCell ⟨w.heap.size, 6, none⟩ (.slice (some ⟨kg', 0, none⟩) 2 kc')) (w.heap.size + 1) #[.int .i64 hd.k, .int .u64 (hd.m : Int), .bool hd.ng, .string hd.dg, .int .i64 hd.sc, .string hd.tx, .slice ka kn kc, .slice da dn dc, .int .i64 hd.cd] 31 := (Below.heap_setCell _ _ _ _ (show w.heap.size + 1 ≠ w.heap.size by omega)).trans x2b
    have x3c : Bx (X1.setCell ⟨w.heap.size, 6, none⟩ (.slice (some ⟨kg', 0, none⟩) 2 kc')) (w.heap.size + 1 + 1) #[.int .i64 0, .int .u64 0, .bool false, .string ⟨#[]⟩, .int .i64 0, .string ⟨#[]⟩, .slice none 0 0, .slice none 0 0, .int .i64 0] 31 := (Below.heap_setCell _ _ _ _ (show w.heap.size + 1 + 1 ≠ w.heap.size by omega)).trans x3b
    have hsz4 : (X1.setCell ⟨w.heap.size, 6, none⟩ (.slice (some ⟨kg', 0, none⟩) 2 kc')).heap.size = X1.heap.size := by simp [World.setCell]
    clear y0 y1 y2 y3 y4 y5 y6 y7 y8 v0 v1 v2 v3 v4 v5 v6 v7 v8 yf6 yf7 x1 x2 x3
    have y0 := x1b.cell 0
    have y1 := x1b.cell 1
    have y2 := x1b.cell 2
    have y3 := x1b.cell 3
    have y4 := x1b.cell 4
    have y5 := x1b.cell 5
    have y6 := x1b.cell 6
    have y7 := x1b.cell 7
    have y8 := x1b.cell 8
    have yf6 := x1b.free 6
    have v0 := x2c.cell 0
    have v1 := x2c.cell 1
    have v2 := x2c.cell 2
    have v3 := x2c.cell 3
    have v4 := x2c.cell 4
    have v5 := x2c.cell 5
    have v6 := x2c.cell 6
    have v7 := x2c.cell 7
    have v8 := x2c.cell 8
    have HX4 := phide (And.intro x1c (And.intro x2c (And.intro x3c (And.intro hb hsz4))))
    have HO1 := phide (And.intro hoK' (And.intro hK1 hB1))
    clear x1b x2b x3b x1c x2c x3c hb hoK' hgr1 hK1 hB1 hsz4
    have HOD4 : Hid ((X1.setCell ⟨w.heap.size, 6, none⟩ (.slice (some ⟨kg', 0, none⟩) 2 kc')).ownsRow lo 31 9 (.slice (some ⟨g, 0, none⟩) 1 cp) 1 k0) := phide (own_at (punhide HOD) ((Below.heap_setCell _ _ _ _ (show g ≠ w.heap.size by omega)).trans ((punhide HO1).2.1 g (by have := punhide HS3; omega) (by omega))))
    go_wp2_with (at_builtin; refine wpList_append_own2 _ rfl _ _ 28 rfl lo 31 i1 (.agg #[.int .i64 0, .int .u64 0, .bool false, .string ⟨#[]⟩, .int .i64 0, .string ⟨#[]⟩, .slice none 0 0, .slice none 0 0, .int .i64 0]) 9 120 Tryd.underlying28 hi1 hy0 hy1 hy2 rfl (by decide) g cp 1 k0 rfl ((punhide HOD4).alloc _) ⟨X1.heap.size, 0, none⟩ 1 1 [.int .i64 hd.k, .int .u64 (hd.m : Int), .bool hd.ng, .string hd.dg, .int .i64 hd.sc, .string hd.tx, .slice ka kn kc, .slice da dn dc, .int .i64 hd.cd] rfl rfl (by have := cells_new (X1.setCell ⟨w.heap.size, 6, none⟩ (.slice (some ⟨kg', 0, none⟩) 2 kc')) [.int .i64 hd.k, .int .u64 (hd.m : Int), .bool hd.ng, .string hd.dg, .int .i64 hd.sc, .string hd.tx, .slice ka kn kc, .slice da dn dc, .int .i64 hd.cd] 31; rw [(punhide HX4).2.2.2.2] at this; exact this) (kcells _ _ _ _ _ _ _) (by unfold maxLen; omega) (by omega) (by simp [World.setCell]; omega) ?_)
    intro g' cp' X2 hoD' hgr2 hgg2
    have hg2 := (hoD'.lt g' rfl).2
    have hg1 := (hoD'.lt g' rfl).1
    have hgg2' : g' = g ∨ X1.heap.size + 1 ≤ g' := by
      rcases hgg2 with e | e
      · exact .inl e
      · right; first | omega | (simp only [World.alloc, Array.size_push, (punhide HX4).2.2.2.2] at e; omega) | (simp at e; omega)
    have hK2 : ∀ b, b < X1.heap.size → b ≠ g → X2.heap[b]? = (X1.setCell ⟨w.heap.size, 6, none⟩ (.slice (some ⟨kg', 0, none⟩) 2 kc')).heap[b]? := fun b hb hne => (hgr2.block b (by simp [World.setCell]; omega) (fun e => hne (Option.some.inj e))).trans (((Below.refl _ _).alloc (Nat.le_refl _) _).block b (by rw [(punhide HX4).2.2.2.2]; exact hb))
    have hB2 : Below lo (X1.setCell ⟨w.heap.size, 6, none⟩ (.slice (some ⟨kg', 0, none⟩) 2 kc')) X2 := ((Below.refl lo (X1.setCell ⟨w.heap.size, 6, none⟩ (.slice (some ⟨kg', 0, none⟩) 2 kc'))).alloc (by rw [(punhide HX4).2.2.2.2]; omega) _).grown hgr2 (by simp [World.setCell]; omega) (fun j hj => by have := Option.some.inj hj; have := (punhide HOD4).lt g rfl; omega)
    obtain ⟨x1, x2, x3, hb, hsz4⟩ := punhide HX4
    obtain ⟨hoK', hK1, hB1⟩ := punhide HO1
    have hwz := punhide HS3
    have hxz := hB2.size
    rw [hsz4] at hxz
    have x1b : Bx X2 w.heap.size #[.int .i64 7, .int .u64 0, .bool false, .string ⟨#[]⟩, .int .i64 0, .string ⟨#[]⟩, .slice (some ⟨kg', 0, none⟩) 2 kc', .slice (some ⟨g, 0, none⟩) 1 cp, .int .i64 0] 31 := (hK2 w.heap.size (by omega) (by omega)).trans x1
    have x3b : Bx X2 (w.heap.size + 1 + 1) #[.int .i64 0, .int .u64 0, .bool false, .string ⟨#[]⟩, .int .i64 0, .string ⟨#[]⟩, .slice none 0 0, .slice none 0 0, .int .i64 0] 31 := (hK2 (w.heap.size + 1 + 1) (by omega) (by omega)).trans x3
    have x1c : Bx (X2.setCell ⟨w.heap.size, 7, none⟩ (.slice (some ⟨g', 0, none⟩) 2 cp')) w.heap.size #[.int .i64 7, .int .u64 0, .bool false, .string ⟨#[]⟩, .int .i64 0, .string ⟨#[]⟩, .slice (some ⟨kg', 0, none⟩) 2 kc', .slice (some ⟨g', 0, none⟩) 2 cp', .int .i64 0] 31 := Bx.setAt (i := 7) x1b (.slice (some ⟨g', 0, none⟩) 2 cp') rfl
    have x3c : Bx (X2.setCell ⟨w.heap.size, 7, none⟩ (.slice (some ⟨g', 0, none⟩) 2 cp')) (w.heap.size + 1 + 1) #[.int .i64 0, .int .u64 0, .bool false, .string ⟨#[]⟩, .int .i64 0, .string ⟨#[]⟩, .slice none 0 0, .slice none 0 0, .int .i64 0] 31 := (Below.heap_setCell _ _ _ _ (show w.heap.size + 1 + 1 ≠ w.heap.size by omega)).trans x3b
    have hRes := res9 (X2.setCell ⟨w.heap.size, 7, none⟩ (.slice (some ⟨g', 0, none⟩) 2 cp')) (w.heap.size + 1 + 1) (.int .i64 7) (.int .u64 0) (.bool false) (.string ⟨#[]⟩) (.int .i64 0) (.string ⟨#[]⟩) (.slice (some ⟨kg', 0, none⟩) 2 kc') (.slice (some ⟨g', 0, none⟩) 2 cp') (.int .i64 0) (fun r hr => by rw [x3c.cell r, Array.getElem?_eq_getElem (by simpa using hr)]; rfl)
    have hfr : ∀ b, b ≠ w.heap.size + 1 + 1 → ((X2.setCell ⟨w.heap.size, 7, none⟩ (.slice (some ⟨g', 0, none⟩) 2 cp')).setCells (w.heap.size + 1 + 1) 0 [.int .i64 7, .int .u64 0, .bool false, .string ⟨#[]⟩, .int .i64 0, .string ⟨#[]⟩, .slice (some ⟨kg', 0, none⟩) 2 kc', .slice (some ⟨g', 0, none⟩) 2 cp', .int .i64 0]).heap[b]? = (X2.setCell ⟨w.heap.size, 7, none⟩ (.slice (some ⟨g', 0, none⟩) 2 cp')).heap[b]? := (setCells_frame (w.heap.size + 1 + 1) [.int .i64 7, .int .u64 0, .bool false, .string ⟨#[]⟩, .int .i64 0, .string ⟨#[]⟩, .slice (some ⟨kg', 0, none⟩) 2 kc', .slice (some ⟨g', 0, none⟩) 2 cp', .int .i64 0] 0 (X2.setCell ⟨w.heap.size, 7, none⟩ (.slice (some ⟨g', 0, none⟩) 2 cp'))).2.2.2.2
    have hfr2 : ∀ b, b ≠ w.heap.size + 1 + 1 → b ≠ w.heap.size → ((X2.setCell ⟨w.heap.size, 7, none⟩ (.slice (some ⟨g', 0, none⟩) 2 cp')).setCells (w.heap.size + 1 + 1) 0 [.int .i64 7, .int .u64 0, .bool false, .string ⟨#[]⟩, .int .i64 0, .string ⟨#[]⟩, .slice (some ⟨kg', 0, none⟩) 2 kc', .slice (some ⟨g', 0, none⟩) 2 cp', .int .i64 0]).heap[b]? = X2.heap[b]? := fun b h1 h2 => (hfr b h1).trans (Below.heap_setCell _ _ _ _ h2)
    have hoDf := own_at hoD' (hfr2 g' (by omega) (by omega))
    have hoKf := own_at hoK' ((hfr2 kg' (by omega) (by omega)).trans ((hK2 kg' hkg2 (by omega)).trans (Below.heap_setCell _ _ _ _ (show kg' ≠ w.heap.size by omega))))
    have hBf : Below lo w ((X2.setCell ⟨w.heap.size, 7, none⟩ (.slice (some ⟨g', 0, none⟩) 2 cp')).setCells (w.heap.size + 1 + 1) 0 [.int .i64 7, .int .u64 0, .bool false, .string ⟨#[]⟩, .int .i64 0, .string ⟨#[]⟩, .slice (some ⟨kg', 0, none⟩) 2 kc', .slice (some ⟨g', 0, none⟩) 2 cp', .int .i64 0]) := setCells_below (((((hb.mono hlo).trans hB1).setCell (p := ⟨w.heap.size, 6, none⟩) hlo _).trans hB2).setCell (p := ⟨w.heap.size, 7, none⟩) hlo _) (by omega) 0 _
    have hall : ∀ b, b < w.heap.size → b ≠ kg → b ≠ g → ((X2.setCell ⟨w.heap.size, 7, none⟩ (.slice (some ⟨g', 0, none⟩) 2 cp')).setCells (w.heap.size + 1 + 1) 0 [.int .i64 7, .int .u64 0, .bool false, .string ⟨#[]⟩, .int .i64 0, .string ⟨#[]⟩, .slice (some ⟨kg', 0, none⟩) 2 kc', .slice (some ⟨g', 0, none⟩) 2 cp', .int .i64 0]).heap[b]? = w.heap[b]? := fun b h1 h2 h3 => (hfr2 b (by omega) (by omega)).trans ((hK2 b (by omega) h3).trans ((Below.heap_setCell _ _ _ _ (show b ≠ w.heap.size by omega)).trans ((hK1 b (by omega) h2).trans (hb.block b h1))))
    have HFIN := phide (And.intro hoKf (And.intro hoDf (And.intro (show kg' ≠ g' by omega) (And.intro (show kg' = kg ∨ w.heap.size ≤ kg' by omega) (And.intro (show g' = g ∨ w.heap.size ≤ g' by omega) (And.intro hBf hall))))))
    have HRes := phide hRes
    have HX6 := phide (And.intro x1c x3c)
    have yf7 := x1b.free 7
    clear y0 y1 y2 y3 y4 y5 y6 y7 y8 v0 v1 v2 v3 v4 v5 v6 v7 v8 yf6
    have y0 := x1b.cell 0
    have y1 := x1b.cell 1
    have y2 := x1b.cell 2
    have y3 := x1b.cell 3
    have y4 := x1b.cell 4
    have y5 := x1b.cell 5
    have y6 := x1b.cell 6
    have y7 := x1b.cell 7
    have y8 := x1b.cell 8
    have v0 := x3b.cell 0
    have v1 := x3b.cell 1
    have v2 := x3b.cell 2
    have v3 := x3b.cell 3
    have v4 := x3b.cell 4
    have v5 := x3b.cell 5
    have v6 := x3b.cell 6
    have v7 := x3b.cell 7
    have v8 := x3b.cell 8
    have vf0 := x3b.free 0
    have vf1 := x3b.free 1
    have vf2 := x3b.free 2
    have vf3 := x3b.free 3
    have vf4 := x3b.free 4
    have vf5 := x3b.free 5
    have vf6 := x3b.free 6
    have vf7 := x3b.free 7
    have vf8 := x3b.free 8
    clear x1 x2 x3 hb hsz4 hoK' hK1 hB1 hwz hxz x1b x3b x1c x3c hRes hfr hfr2 hoDf hoKf hBf hoD' hgr2 hK2 hB2 hall
    go_wp2_with fail
    change bodyPost _ _ _ _ _ ((X2.setCell ⟨w.heap.size, 7, none⟩ (.slice (some ⟨g', 0, none⟩) 2 cp')).setCells (w.heap.size + 1 + 1) 0 [.int .i64 7, .int .u64 0, .bool false, .string ⟨#[]⟩, .int .i64 0, .string ⟨#[]⟩, .slice (some ⟨kg', 0, none⟩) 2 kc', .slice (some ⟨g', 0, none⟩) 2 cp', .int .i64 0])
    obtain ⟨r0, r1, r2, r3, r4, r5, r6, r7, r8⟩ := punhide HRes
    exact bodyPost_ret (v := .agg #[.int .i64 7, .int .u64 0, .bool false, .string ⟨#[]⟩, .int .i64 0, .string ⟨#[]⟩, .slice (some ⟨kg', 0, none⟩) 2 kc', .slice (some ⟨g', 0, none⟩) 2 cp', .int .i64 0]) (by simp [results, Tryd.results96, go_sem, r0, r1, r2, r3, r4, r5, r6, r7, r8]) rfl ⟨kg', kc', g', cp', rfl, punhide HFIN⟩
end Go.Proofs.YtppkknmgdahniaaDoor.Pol
/- What is proved here: kids of the document's own reader of layer 5 at a list of one digit, walked; conditions: as each theorem states. Written by kids_gen.py. -/
namespace Go.Proofs.YtppkknmgdahniaaDoor.Pol
set_option maxRecDepth 100000
open Go.RowKit Go.Proofs.YtppkknmgdahniaaDoor.Nc Go.Proofs.YtppkknmgdahniaaDoor.Np Go.Proofs.YtppkknmgdahniaaDoor.Nq
set_option maxRecDepth 100000
set_option linter.unusedVariables false
set_option linter.unusedSimpArgs false

theorem FrR.setX {B rb vb i : Nat} {w W : World} {v : Value} (h : FrR B rb w W) (hB : B ≤ vb) (hw : w.heap.size ≤ vb) : FrR B rb w (W.setCell ⟨vb, i, none⟩ v) :=
  ⟨h.1.setCell (p := ⟨vb, i, none⟩) hB v, ⟨by simpa [World.setCell] using h.2.1, fun k hk hl => (Below.heap_setCell _ _ _ _ (show k ≠ vb by omega)).trans (h.2.2 k hk hl)⟩⟩
theorem Bx.setX {b vb i : Nat} {W : World} {cs : Array Value} {t : TypeId} {v : Value} (h : Bx W b cs t) (hb : b ≠ vb) : Bx (W.setCell ⟨vb, i, none⟩ v) b cs t := (Below.heap_setCell _ _ _ _ hb).trans h
set_option maxHeartbeats 8000000 in
theorem kids_list (B rb : Nat) (S t dg : ByteArray) (p p1 p2 p3 m d : Nat) (hB : B ≤ rb) (hS : S.size ≤ 1000000) (hm : m + 1 ≤ 400) (hd : d + 1 ≤ 12) (q1 : p1 = p + 1) (q2 : p2 = p1 + 1) (q3 : p3 = p2 + 1) (hp : p < S.size) (hp1 : p1 < S.size) (hp2 : p2 < S.size)
    (c1 : Nat) (hc1 : (S[p1]'hp1).toNat = c1) (h1 : 48 ≤ c1) (h2 : c1 ≤ 57) (hc2 : (S[p2]'hp2).toNat = 93)
    (ht : S.extract p1 p2 = t) (CP : ∀ W, Calls Tryd.prog 35 #[.string t] W fun e w' => e = .returned (.tuple #[.agg #[.bool false, .string dg, .int .i64 0], .int .i64 0]) ∧ Below W.heap.size W w')
    (w : World) (hR : Rd w rb S p m) (hBw : B ≤ w.heap.size) :
    Calls Tryd.prog 83 #[.pointer (some ⟨rb, 0, none⟩), .agg #[.int .i64 6, .int .u64 0, .bool false, .string ⟨#[]⟩, .int .i64 0, .string ⟨#[]⟩, .slice none 0 0, .slice none 0 0, .int .i64 0], .int .i64 (d : Int), .int .u8 93] w fun e w' => ∃ g cp, e = .returned (.agg #[.int .i64 6, .int .u64 0, .bool false, .string ⟨#[]⟩, .int .i64 0, .string ⟨#[]⟩, .slice none 0 0, .slice (some ⟨g, 0, none⟩) 1 cp, .int .i64 0]) ∧ Rd w' rb S p3 (m + 1) ∧ FrR B rb w w' ∧ w'.ownsRow w.heap.size 31 9 (.slice (some ⟨g, 0, none⟩) 1 cp) 1 [.int .i64 4, .int .u64 0, .bool false, .string dg, .int .i64 0, .string ⟨#[]⟩, .slice none 0 0, .slice none 0 0, .int .i64 0] := by
  have HQ1 : Hid ((p : Int) + 1 = (p1 : Int)) := phide (by omega)
  have HQ3 : Hid ((p2 : Int) + 1 = (p3 : Int)) := phide (by omega)
  have HD : Hid ((d : Int) + 1 = ((d + 1 : Nat) : Int)) := phide (by omega)
  obtain ⟨i1, hi1, hy0, hy1, hy2⟩ := info_parts kinfo_val
  obtain ⟨w1, e1, z1, g1, x1⟩ := alloc_facts w #[.int .i64 6, .int .u64 0, .bool false, .string ⟨#[]⟩, .int .i64 0, .string ⟨#[]⟩, .slice none 0 0, .slice none 0 0, .int .i64 0] 31
  obtain ⟨w2, e2, z2, g2, x2⟩ := alloc_facts w1 #[.int .i64 0, .int .u64 0, .bool false, .string ⟨#[]⟩, .int .i64 0, .string ⟨#[]⟩, .slice none 0 0, .slice none 0 0, .int .i64 0] 31
  have hb : Below w.heap.size w w2 := g1.trans (g2.mono (by omega))
  rw [z1] at x2
  have hrl := Bx.lt hR
  have hf := FrR.of (B := B) (rb := rb) hb hBw
  have hr := hR.below hb
  have hxv := x1.below g2
  have hxz := x2
  have HE : Hid (w.alloc (.cells #[.int .i64 6, .int .u64 0, .bool false, .string ⟨#[]⟩, .int .i64 0, .string ⟨#[]⟩, .slice none 0 0, .slice none 0 0, .int .i64 0] 31) = w1 ∧ w1.alloc (.cells #[.int .i64 0, .int .u64 0, .bool false, .string ⟨#[]⟩, .int .i64 0, .string ⟨#[]⟩, .slice none 0 0, .slice none 0 0, .int .i64 0] 31) = w2) := phide ⟨e1, e2⟩
  have HB1 := phide (fun W (hR : Rd W rb S p1 m) => blanks_at B rb S p1 m hB hS hp1 c1 hc1 (by omega) (by omega) (by omega) (by omega) W hR)
  have HN1 := phide (fun W (hR : Rd W rb S p1 m) => next_at B rb S p1 m hB hS hp1 c1 hc1 W hR)
  have HV1 := phide (fun W (hR : Rd W rb S p1 m) (hW : B ≤ W.heap.size) => by
    have := value_num B rb S t dg p1 p2 m (d + 1) hB hS hm hd q2 hp1 hp2 c1 hc1 h1 h2 (.inr hc2) ht CP W hR hW
    rw [← punhide HD] at this
    exact this)
  have HB2 := phide (fun W (hR : Rd W rb S p2 (m + 1)) => blanks_at B rb S p2 (m + 1) hB hS hp2 93 hc2 (by decide) (by decide) (by decide) (by decide) W hR)
  have HN2 := phide (fun W (hR : Rd W rb S p2 (m + 1)) => next_at B rb S p2 (m + 1) hB hS hp2 93 hc2 W hR)
  have t1 : ((c1 : Int) == 93) = false := beq_eq_false_iff_ne.2 (by omega)
  have hsb : w.heap.size ≠ rb ∧ w.heap.size + 1 ≠ rb := by omega
  clear hR e1 e2 z1 g1 g2 x1 x2 hb hc1 h1 h2 hc2 ht CP q1 q2 q3
  have HST := phide (And.intro hr (And.intro hf (And.intro hxv hxz)))
  clear hr hf hxv hxz
  go_enter Tryd.func83, Tryd.ntmps83
  go_upto_region 1 with fail
  rw [(punhide HE).1, (punhide HE).2]
  clear HE
  generalize hvb : w.heap.size = vb at *
  have HVB := phide hvb
  clear hvb
  obtain ⟨hr, hf, hxv, hxz⟩ := punhide HST
  clear HST
  have y0 := hr.cell 0
  have y1 := hr.cell 1
  have y2 := hr.cell 2
  have y3 := hr.cell 3
  have y4 := hr.cell 4
  have y5 := hr.cell 5
  have yf1 := hr.free 1
  have yf5 := hr.free 5
  have v0 := hxv.cell 0
  have v1 := hxv.cell 1
  have v2 := hxv.cell 2
  have v3 := hxv.cell 3
  have v4 := hxv.cell 4
  have v5 := hxv.cell 5
  have v6 := hxv.cell 6
  have v7 := hxv.cell 7
  have v8 := hxv.cell 8
  have vf7 := hxv.free 7
  have z0 := hxz.cell 0
  have z1 := hxz.cell 1
  have z2 := hxz.cell 2
  have z3 := hxz.cell 3
  have z4 := hxz.cell 4
  have z5 := hxz.cell 5
  have z6 := hxz.cell 6
  have z7 := hxz.cell 7
  have z8 := hxz.cell 8
  have HST := phide (And.intro hr (And.intro hf (And.intro hxv hxz)))
  clear hr hf hxv hxz
  go_wp2_with fail
  obtain ⟨hr, hf, hxv, hxz⟩ := punhide HST
  clear HST y0 y1 y2 y3 y4 y5 yf1 yf5 v0 v1 v2 v3 v4 v5 v6 v7 v8 vf7 z0 z1 z2 z3 z4 z5 z6 z7 z8
  have f9 := FrR.set (B := B) (rb := rb) w2 hB 1 (.int .i64 ((p : Int) + 1))
  have hr9 : Rd (w2.setCell ⟨rb, 1, none⟩ (.int .i64 ((p : Int) + 1))) rb S p1 m := by rw [punhide HQ1]; exact hr.at' p1
  clear hr
  have hr := hr9
  replace hxv := hxv.frr f9 (by omega)
  replace hxz := hxz.frr f9 (by omega)
  replace hf := hf.trans f9
  clear f9 hr9
  have y0 := hr.cell 0
  have y1 := hr.cell 1
  have y2 := hr.cell 2
  have y3 := hr.cell 3
  have y4 := hr.cell 4
  have y5 := hr.cell 5
  have yf1 := hr.free 1
  have yf5 := hr.free 5
  have v0 := hxv.cell 0
  have v1 := hxv.cell 1
  have v2 := hxv.cell 2
  have v3 := hxv.cell 3
  have v4 := hxv.cell 4
  have v5 := hxv.cell 5
  have v6 := hxv.cell 6
  have v7 := hxv.cell 7
  have v8 := hxv.cell 8
  have vf7 := hxv.free 7
  have z0 := hxz.cell 0
  have z1 := hxz.cell 1
  have z2 := hxz.cell 2
  have z3 := hxz.cell 3
  have z4 := hxz.cell 4
  have z5 := hxz.cell 5
  have z6 := hxz.cell 6
  have z7 := hxz.cell 7
  have z8 := hxz.cell 8
  have HST := phide (And.intro hr (And.intro hf (And.intro hxv hxz)))
  clear hr hf hxv hxz
  refine (punhide HB1 _ (punhide HST).1).mono ?_
  rintro e9 w3 ⟨rfl, hr9, f9⟩
  obtain ⟨hr, hf, hxv, hxz⟩ := punhide HST
  clear HST y0 y1 y2 y3 y4 y5 yf1 yf5 v0 v1 v2 v3 v4 v5 v6 v7 v8 vf7 z0 z1 z2 z3 z4 z5 z6 z7 z8
  clear hr
  have hr := hr9
  replace hxv := hxv.frr f9 (by omega)
  replace hxz := hxz.frr f9 (by omega)
  replace hf := hf.trans f9
  clear f9 hr9
  have y0 := hr.cell 0
  have y1 := hr.cell 1
  have y2 := hr.cell 2
  have y3 := hr.cell 3
  have y4 := hr.cell 4
  have y5 := hr.cell 5
  have yf1 := hr.free 1
  have yf5 := hr.free 5
  have v0 := hxv.cell 0
  have v1 := hxv.cell 1
  have v2 := hxv.cell 2
  have v3 := hxv.cell 3
  have v4 := hxv.cell 4
  have v5 := hxv.cell 5
  have v6 := hxv.cell 6
  have v7 := hxv.cell 7
  have v8 := hxv.cell 8
  have vf7 := hxv.free 7
  have z0 := hxz.cell 0
  have z1 := hxz.cell 1
  have z2 := hxz.cell 2
  have z3 := hxz.cell 3
  have z4 := hxz.cell 4
  have z5 := hxz.cell 5
  have z6 := hxz.cell 6
  have z7 := hxz.cell 7
  have z8 := hxz.cell 8
  have HST := phide (And.intro hr (And.intro hf (And.intro hxv hxz)))
  clear hr hf hxv hxz
  go_wp2_with fail
  refine (punhide HN1 _ (punhide HST).1).mono ?_
  rintro e9 w4 ⟨rfl, hr9, f9⟩
  obtain ⟨hr, hf, hxv, hxz⟩ := punhide HST
  clear HST y0 y1 y2 y3 y4 y5 yf1 yf5 v0 v1 v2 v3 v4 v5 v6 v7 v8 vf7 z0 z1 z2 z3 z4 z5 z6 z7 z8
  clear hr
  have hr := hr9
  replace hxv := hxv.frr f9 (by omega)
  replace hxz := hxz.frr f9 (by omega)
  replace hf := hf.trans f9
  clear f9 hr9
  have y0 := hr.cell 0
  have y1 := hr.cell 1
  have y2 := hr.cell 2
  have y3 := hr.cell 3
  have y4 := hr.cell 4
  have y5 := hr.cell 5
  have yf1 := hr.free 1
  have yf5 := hr.free 5
  have v0 := hxv.cell 0
  have v1 := hxv.cell 1
  have v2 := hxv.cell 2
  have v3 := hxv.cell 3
  have v4 := hxv.cell 4
  have v5 := hxv.cell 5
  have v6 := hxv.cell 6
  have v7 := hxv.cell 7
  have v8 := hxv.cell 8
  have vf7 := hxv.free 7
  have z0 := hxz.cell 0
  have z1 := hxz.cell 1
  have z2 := hxz.cell 2
  have z3 := hxz.cell 3
  have z4 := hxz.cell 4
  have z5 := hxz.cell 5
  have z6 := hxz.cell 6
  have z7 := hxz.cell 7
  have z8 := hxz.cell 8
  have HST := phide (And.intro hr (And.intro hf (And.intro hxv hxz)))
  clear hr hf hxv hxz
  go_wp2_with fail
  go_loopg [9] 0 (fun gh M wr => M = .int .i64 0 ∧ wr = w4)
  case atStart => exact ⟨rfl, rfl⟩
  case round =>
    obtain ⟨rfl, rfl⟩ := hrel
    go_wp2_with fail
    refine (punhide HB1 _ (punhide HST).1).mono ?_
    rintro e9 w5 ⟨rfl, hr9, f9⟩
    obtain ⟨hr, hf, hxv, hxz⟩ := punhide HST
    clear HST y0 y1 y2 y3 y4 y5 yf1 yf5 v0 v1 v2 v3 v4 v5 v6 v7 v8 vf7 z0 z1 z2 z3 z4 z5 z6 z7 z8
    clear hr
    have hr := hr9
    replace hxv := hxv.frr f9 (by omega)
    replace hxz := hxz.frr f9 (by omega)
    replace hf := hf.trans f9
    clear f9 hr9
    have y0 := hr.cell 0
    have y1 := hr.cell 1
    have y2 := hr.cell 2
    have y3 := hr.cell 3
    have y4 := hr.cell 4
    have y5 := hr.cell 5
    have yf1 := hr.free 1
    have yf5 := hr.free 5
    have v0 := hxv.cell 0
    have v1 := hxv.cell 1
    have v2 := hxv.cell 2
    have v3 := hxv.cell 3
    have v4 := hxv.cell 4
    have v5 := hxv.cell 5
    have v6 := hxv.cell 6
    have v7 := hxv.cell 7
    have v8 := hxv.cell 8
    have vf7 := hxv.free 7
    have z0 := hxz.cell 0
    have z1 := hxz.cell 1
    have z2 := hxz.cell 2
    have z3 := hxz.cell 3
    have z4 := hxz.cell 4
    have z5 := hxz.cell 5
    have z6 := hxz.cell 6
    have z7 := hxz.cell 7
    have z8 := hxz.cell 8
    have HST := phide (And.intro hr (And.intro hf (And.intro hxv hxz)))
    clear hr hf hxv hxz
    have hBw9 : B ≤ w5.heap.size := by have := (punhide HST).2.2.1.lt; omega
    go_wp2_with fail
    refine (punhide HV1 _ (punhide HST).1 hBw9).mono ?_
    rintro e9 w6 ⟨rfl, hr9, f9⟩
    obtain ⟨hr, hf, hxv, hxz⟩ := punhide HST
    clear HST y0 y1 y2 y3 y4 y5 yf1 yf5 v0 v1 v2 v3 v4 v5 v6 v7 v8 vf7 z0 z1 z2 z3 z4 z5 z6 z7 z8
    clear hr
    have hr := hr9
    replace hxv := hxv.frr f9 (by omega)
    replace hxz := hxz.frr f9 (by omega)
    replace hf := hf.trans f9
    clear f9 hr9 hBw9
    have hv6 : vb < w6.heap.size := hxv.lt
    have hrb6 : rb < w6.heap.size := Bx.lt hr
    have hsz6 : B ≤ w6.heap.size ∧ True := ⟨by omega, trivial⟩
    have f9 := (FrR.set (B := B) (rb := rb) w6 hB 5 (.bool false)).trans (FrR.of (B := B) (rb := rb) ((Below.refl _ (w6.setCell ⟨rb, 5, none⟩ (.bool false))).alloc (Nat.le_refl _) (.cells #[.int .i64 4, .int .u64 0, .bool false, .string dg, .int .i64 0, .string ⟨#[]⟩, .slice none 0 0, .slice none 0 0, .int .i64 0] 31)) (by simp only [World.setCell, Array.size_modify]; exact hsz6.1))
    have hr9 : Rd ((w6.setCell ⟨rb, 5, none⟩ (.bool false)).alloc (.cells #[.int .i64 4, .int .u64 0, .bool false, .string dg, .int .i64 0, .string ⟨#[]⟩, .slice none 0 0, .slice none 0 0, .int .i64 0] 31)) rb S p2 (m + 1) := (hr.big).below ((Below.refl _ _).alloc (Nat.le_refl _) _)
    have hk9 : Bx ((w6.setCell ⟨rb, 5, none⟩ (.bool false)).alloc (.cells #[.int .i64 4, .int .u64 0, .bool false, .string dg, .int .i64 0, .string ⟨#[]⟩, .slice none 0 0, .slice none 0 0, .int .i64 0] 31)) w6.heap.size #[.int .i64 4, .int .u64 0, .bool false, .string dg, .int .i64 0, .string ⟨#[]⟩, .slice none 0 0, .slice none 0 0, .int .i64 0] 31 := by have := Bx.new (w6.setCell ⟨rb, 5, none⟩ (.bool false)) #[.int .i64 4, .int .u64 0, .bool false, .string dg, .int .i64 0, .string ⟨#[]⟩, .slice none 0 0, .slice none 0 0, .int .i64 0] 31; simpa [World.setCell] using this
    have y1 := hr.cell 1
    have y5 := hr.cell 5
    have yf5 := hr.free 5
    have hs9 : ((w6.setCell ⟨rb, 5, none⟩ (.bool false)).alloc (.cells #[.int .i64 4, .int .u64 0, .bool false, .string dg, .int .i64 0, .string ⟨#[]⟩, .slice none 0 0, .slice none 0 0, .int .i64 0] 31)).heap.size = w6.heap.size + 1 := by simp [World.setCell]
    have vv0 := hxv.cell 0
    have vv7 := hxv.cell 7
    replace hxv := hxv.frr f9 (by omega)
    replace hxz := hxz.frr f9 (by omega)
    replace hf := hf.trans f9
    have hr := hr9
    have HST := phide (And.intro hr (And.intro hf (And.intro hxv hxz)))
    have HK9 := phide (And.intro hk9 hs9)
    have hal : w6.heap.size < w6.heap.size + 1 := Nat.lt_succ_self _
    clear hr hr9 hf hxv hxz f9 hk9 hs9
    go_wp2_with (at_builtin; refine wpList_append_own _ rfl _ _ 28 rfl (w6.heap.size + 1 + 1) 31 i1 (.agg #[.int .i64 0, .int .u64 0, .bool false, .string ⟨#[]⟩, .int .i64 0, .string ⟨#[]⟩, .slice none 0 0, .slice none 0 0, .int .i64 0]) 9 120 Tryd.underlying28 hi1 hy0 hy1 hy2 rfl (by decide) _ 0 [] rfl (World.ownsRow_nil _ _ _ _) ⟨w6.heap.size + 1, 0, none⟩ 1 1 [.int .i64 4, .int .u64 0, .bool false, .string dg, .int .i64 0, .string ⟨#[]⟩, .slice none 0 0, .slice none 0 0, .int .i64 0] rfl rfl (by have := cells_new ((w6.setCell ⟨rb, 5, none⟩ (.bool false)).alloc (.cells #[.int .i64 4, .int .u64 0, .bool false, .string dg, .int .i64 0, .string ⟨#[]⟩, .slice none 0 0, .slice none 0 0, .int .i64 0] 31)) [.int .i64 4, .int .u64 0, .bool false, .string dg, .int .i64 0, .string ⟨#[]⟩, .slice none 0 0, .slice none 0 0, .int .i64 0] 31; rw [(punhide HK9).2] at this; exact this) (nine_one 4 0 false dg 0 ⟨#[]⟩ none 0 0 none 0 0 0) (by unfold maxLen; omega) (by omega) (by simp [World.setCell]) ?_)
    intro dv' X hoD' hgr _
    obtain ⟨g, cp, rfl, hg1, hg2, -⟩ := own_get hoD' (by omega)
    have hBX : Below ((w6.setCell ⟨rb, 5, none⟩ (.bool false)).alloc (.cells #[.int .i64 4, .int .u64 0, .bool false, .string dg, .int .i64 0, .string ⟨#[]⟩, .slice none 0 0, .slice none 0 0, .int .i64 0] 31)).heap.size ((w6.setCell ⟨rb, 5, none⟩ (.bool false)).alloc (.cells #[.int .i64 4, .int .u64 0, .bool false, .string dg, .int .i64 0, .string ⟨#[]⟩, .slice none 0 0, .slice none 0 0, .int .i64 0] 31)) X := ((Below.refl _ _).alloc (Nat.le_refl _) _).grown hgr (by simp [World.setCell]) (fun j hj => by cases hj)
    have hzX := hBX.size
    rw [(punhide HK9).2] at hzX
    have f9 : FrR B rb _ X := FrR.of hBX (by rw [(punhide HK9).2]; omega)
    obtain ⟨hr, hf, hxv, hxz⟩ := punhide HST
    clear HST y1 y5 yf5 vv0 vv7
    replace hr := hr.below hBX
    replace hxv := hxv.frr f9 (by omega)
    replace hxz := hxz.frr f9 (by omega)
    replace hf := hf.trans f9
    have hgq : g ≠ rb ∧ g ≠ vb ∧ g ≠ vb + 1 := by have := hxz.lt; omega
    have y7 := hxv.cell 7
    have yf7 := hxv.free 7
    replace hr : Rd (X.setCell ⟨vb, 7, none⟩ (.slice (some ⟨g, 0, none⟩) 1 cp)) rb S p2 (m + 1) := Bx.setX hr (by omega)
    replace hf := hf.setX (i := 7) (v := (.slice (some ⟨g, 0, none⟩) 1 cp)) (show B ≤ vb by omega) (by rw [punhide HVB]; exact Nat.le_refl _)
    replace hxv : Bx (X.setCell ⟨vb, 7, none⟩ (.slice (some ⟨g, 0, none⟩) 1 cp)) vb #[.int .i64 6, .int .u64 0, .bool false, .string ⟨#[]⟩, .int .i64 0, .string ⟨#[]⟩, .slice none 0 0, .slice (some ⟨g, 0, none⟩) 1 cp, .int .i64 0] 31 := Bx.setAt (i := 7) hxv (.slice (some ⟨g, 0, none⟩) 1 cp) rfl
    replace hxz := hxz.setX (i := 7) (v := (.slice (some ⟨g, 0, none⟩) 1 cp)) (show vb + 1 ≠ vb by omega)
    have hoD : (X.setCell ⟨vb, 7, none⟩ (.slice (some ⟨g, 0, none⟩) 1 cp)).ownsRow vb 31 9 (.slice (some ⟨g, 0, none⟩) 1 cp) 1 [.int .i64 4, .int .u64 0, .bool false, .string dg, .int .i64 0, .string ⟨#[]⟩, .slice none 0 0, .slice none 0 0, .int .i64 0] := own_lo (own_at hoD' (Below.heap_setCell _ _ _ _ hgq.2.1)) (by omega)
    clear hoD' hgr hBX hzX f9 HK9 hg1 hg2 hsz6 hrb6 hv6
    have HST := phide (And.intro hr (And.intro hf (And.intro hxv (And.intro hxz hoD))))
    clear hr hf hxv hxz hoD
    go_wp2_with fail
    refine (punhide HB2 _ (punhide HST).1).mono ?_
    rintro e9 w9 ⟨rfl, hr9, f9⟩
    obtain ⟨hr, hf, hxv, hxz, hoD⟩ := punhide HST
    clear HST y7 yf7
    clear hr
    have hr := hr9
    replace hxv := hxv.frr f9 (by omega)
    replace hxz := hxz.frr f9 (by omega)
    replace hoD := own_at hoD (f9.2.2 g (by omega) (hoD.lt g rfl).2)
    replace hf := hf.trans f9
    clear f9 hr9
    have y0 := hr.cell 0
    have y1 := hr.cell 1
    have y2 := hr.cell 2
    have y3 := hr.cell 3
    have y4 := hr.cell 4
    have y5 := hr.cell 5
    have yf1 := hr.free 1
    have yf5 := hr.free 5
    have v0 := hxv.cell 0
    have v1 := hxv.cell 1
    have v2 := hxv.cell 2
    have v3 := hxv.cell 3
    have v4 := hxv.cell 4
    have v5 := hxv.cell 5
    have v6 := hxv.cell 6
    have v7 := hxv.cell 7
    have v8 := hxv.cell 8
    have vf7 := hxv.free 7
    have z0 := hxz.cell 0
    have z1 := hxz.cell 1
    have z2 := hxz.cell 2
    have z3 := hxz.cell 3
    have z4 := hxz.cell 4
    have z5 := hxz.cell 5
    have z6 := hxz.cell 6
    have z7 := hxz.cell 7
    have z8 := hxz.cell 8
    have HST := phide (And.intro hr (And.intro hf (And.intro hxv (And.intro hxz hoD))))
    clear hr hf hxv hxz hoD
    go_wp2_with fail
    refine (punhide HN2 _ (punhide HST).1).mono ?_
    rintro e9 w10 ⟨rfl, hr9, f9⟩
    obtain ⟨hr, hf, hxv, hxz, hoD⟩ := punhide HST
    clear HST y0 y1 y2 y3 y4 y5 yf1 yf5 v0 v1 v2 v3 v4 v5 v6 v7 v8 vf7 z0 z1 z2 z3 z4 z5 z6 z7 z8
    clear hr
    have hr := hr9
    replace hxv := hxv.frr f9 (by omega)
    replace hxz := hxz.frr f9 (by omega)
    replace hoD := own_at hoD (f9.2.2 g (by omega) (hoD.lt g rfl).2)
    replace hf := hf.trans f9
    clear f9 hr9
    have y0 := hr.cell 0
    have y1 := hr.cell 1
    have y2 := hr.cell 2
    have y3 := hr.cell 3
    have y4 := hr.cell 4
    have y5 := hr.cell 5
    have yf1 := hr.free 1
    have yf5 := hr.free 5
    have v0 := hxv.cell 0
    have v1 := hxv.cell 1
    have v2 := hxv.cell 2
    have v3 := hxv.cell 3
    have v4 := hxv.cell 4
    have v5 := hxv.cell 5
    have v6 := hxv.cell 6
    have v7 := hxv.cell 7
    have v8 := hxv.cell 8
    have vf7 := hxv.free 7
    have z0 := hxz.cell 0
    have z1 := hxz.cell 1
    have z2 := hxz.cell 2
    have z3 := hxz.cell 3
    have z4 := hxz.cell 4
    have z5 := hxz.cell 5
    have z6 := hxz.cell 6
    have z7 := hxz.cell 7
    have z8 := hxz.cell 8
    have HST := phide (And.intro hr (And.intro hf (And.intro hxv (And.intro hxz hoD))))
    clear hr hf hxv hxz hoD
    go_upto_region 27 with fail
    obtain ⟨hr, hf, hxv, hxz, hoD⟩ := punhide HST
    clear HST y0 y1 y2 y3 y4 y5 yf1 yf5 v0 v1 v2 v3 v4 v5 v6 v7 v8 vf7 z0 z1 z2 z3 z4 z5 z6 z7 z8
    have f9 := FrR.set (B := B) (rb := rb) w10 hB 1 (.int .i64 ((p2 : Int) + 1))
    have hr9 : Rd (w10.setCell ⟨rb, 1, none⟩ (.int .i64 ((p2 : Int) + 1))) rb S p3 (m + 1) := by rw [punhide HQ3]; exact hr.at' p3
    clear hr
    have hr := hr9
    replace hxv := hxv.frr f9 (by omega)
    replace hxz := hxz.frr f9 (by omega)
    replace hoD := own_at hoD (f9.2.2 g (by omega) (hoD.lt g rfl).2)
    replace hf := hf.trans f9
    clear f9 hr9
    generalize (w10.setCell ⟨rb, 1, none⟩ (.int .i64 ((p2 : Int) + 1))) = w11 at *
    have yz := fun i => hxz.cell i
    have z0 := hxz.cell 0
    have z1 := hxz.cell 1
    have z2 := hxz.cell 2
    have z3 := hxz.cell 3
    have z4 := hxz.cell 4
    have z5 := hxz.cell 5
    have z6 := hxz.cell 6
    have z7 := hxz.cell 7
    have z8 := hxz.cell 8
    have zf0 := hxz.free 0
    have zf1 := hxz.free 1
    have zf2 := hxz.free 2
    have zf3 := hxz.free 3
    have zf4 := hxz.free 4
    have zf5 := hxz.free 5
    have zf6 := hxz.free 6
    have zf7 := hxz.free 7
    have zf8 := hxz.free 8
    have v0 := hxv.cell 0
    have v1 := hxv.cell 1
    have v2 := hxv.cell 2
    have v3 := hxv.cell 3
    have v4 := hxv.cell 4
    have v5 := hxv.cell 5
    have v6 := hxv.cell 6
    have v7 := hxv.cell 7
    have v8 := hxv.cell 8
    have HRes := phide (res9 w11 (vb + 1) (.int .i64 6) (.int .u64 0) (.bool false) (.string ⟨#[]⟩) (.int .i64 0) (.string ⟨#[]⟩) (.slice none 0 0) (.slice (some ⟨g, 0, none⟩) 1 cp) (.int .i64 0) (fun r hr => by rw [hxz.cell r, Array.getElem?_eq_getElem (by simpa using hr)]; rfl))
    have HFIN := phide (And.intro (show Rd (w11.setCells (vb + 1) 0 [.int .i64 6, .int .u64 0, .bool false, .string ⟨#[]⟩, .int .i64 0, .string ⟨#[]⟩, .slice none 0 0, .slice (some ⟨g, 0, none⟩) 1 cp, .int .i64 0]) rb S p3 (m + 1) from Bx.setN hr (by omega)) (And.intro (FrR.setN hf (show B ≤ vb + 1 by omega) (by rw [punhide HVB]; omega) [.int .i64 6, .int .u64 0, .bool false, .string ⟨#[]⟩, .int .i64 0, .string ⟨#[]⟩, .slice none 0 0, .slice (some ⟨g, 0, none⟩) 1 cp, .int .i64 0]) (show World.ownsRow _ w.heap.size _ _ _ _ _ from own_lo (own_at hoD ((setCells_frame (vb + 1) [.int .i64 6, .int .u64 0, .bool false, .string ⟨#[]⟩, .int .i64 0, .string ⟨#[]⟩, .slice none 0 0, .slice (some ⟨g, 0, none⟩) 1 cp, .int .i64 0] 0 w11).2.2.2.2 g (by omega))) (by rw [punhide HVB]; exact Nat.le_refl _))))
    clear hr hf hxv hxz hoD yz
    go_upto_region 28 with fail
    repeat (first | go_guarded | go_step)
    change bodyPost _ _ _ _ _ (w11.setCells (vb + 1) 0 [.int .i64 6, .int .u64 0, .bool false, .string ⟨#[]⟩, .int .i64 0, .string ⟨#[]⟩, .slice none 0 0, .slice (some ⟨g, 0, none⟩) 1 cp, .int .i64 0])
    obtain ⟨r0, r1, r2, r3, r4, r5, r6, r7, r8⟩ := punhide HRes
    exact bodyPost_ret (v := .agg #[.int .i64 6, .int .u64 0, .bool false, .string ⟨#[]⟩, .int .i64 0, .string ⟨#[]⟩, .slice none 0 0, .slice (some ⟨g, 0, none⟩) 1 cp, .int .i64 0]) (by simp [results, Tryd.results83, go_sem, r0, r1, r2, r3, r4, r5, r6, r7, r8]) rfl ⟨g, cp, rfl, punhide HFIN⟩
end Go.Proofs.YtppkknmgdahniaaDoor.Pol
/- What is proved here: value of the document's own reader of layer 5, at a row, if kids is known, walked; conditions: as each theorem states. Written by value_gen.py. -/
namespace Go.Proofs.YtppkknmgdahniaaDoor.Pol
set_option maxRecDepth 100000
open Go.RowKit Go.Proofs.YtppkknmgdahniaaDoor.Nc Go.Proofs.YtppkknmgdahniaaDoor.Np Go.Proofs.YtppkknmgdahniaaDoor.Nq
set_option maxRecDepth 100000
set_option linter.unusedVariables false
set_option linter.unusedSimpArgs false

set_option maxHeartbeats 4000000 in
theorem value_list (B rb : Nat) (S : ByteArray) (p pe m me d : Nat) (hB : B ≤ rb) (hS : S.size ≤ 1000000) (hm : m + 1 ≤ 400) (hd : d ≤ 12) (hp : p < S.size) (c : Nat) (hc : (S[p]'hp).toNat = c) (h1 : c = 91)
    (P : Nat → World → Option Addr → Nat → Nat → Option Addr → Nat → Nat → Prop) (hst : ∀ lo W W' ka kn kc da dn dc, P lo W ka kn kc da dn dc → (∀ b, lo ≤ b → b < W.heap.size → W'.heap[b]? = W.heap[b]?) → P lo W' ka kn kc da dn dc) (hmo : ∀ lo lo' W ka kn kc da dn dc, P lo W ka kn kc da dn dc → lo' ≤ lo → P lo' W ka kn kc da dn dc)
    (KC : ∀ W, Rd W rb S p (m + 1) → B ≤ W.heap.size → Calls Tryd.prog 83 #[.pointer (some ⟨rb, 0, none⟩), .agg #[.int .i64 6, .int .u64 0, .bool false, .string ⟨#[]⟩, .int .i64 0, .string ⟨#[]⟩, .slice none 0 0, .slice none 0 0, .int .i64 0], .int .i64 (d : Int), .int .u8 93] W fun e W' => ∃ ka kn kc da dn dc, e = .returned (.agg #[.int .i64 6, .int .u64 0, .bool false, .string ⟨#[]⟩, .int .i64 0, .string ⟨#[]⟩, .slice ka kn kc, .slice da dn dc, .int .i64 0]) ∧ Rd W' rb S pe me ∧ FrR B rb W W' ∧ P W.heap.size W' ka kn kc da dn dc)
    (w : World) (hR : Rd w rb S p m) (hBw : B ≤ w.heap.size) :
    Calls Tryd.prog 68 #[.pointer (some ⟨rb, 0, none⟩), .int .i64 (d : Int)] w fun e w' => ∃ ka kn kc da dn dc, e = .returned (.agg #[.int .i64 6, .int .u64 0, .bool false, .string ⟨#[]⟩, .int .i64 0, .string ⟨#[]⟩, .slice ka kn kc, .slice da dn dc, .int .i64 0]) ∧ Rd w' rb S pe me ∧ FrR B rb w w' ∧ P w.heap.size w' ka kn kc da dn dc := by
  have HC := phide hc
  have HM : Hid ((m : Int) + 1 = ((m + 1 : Nat) : Int)) := phide (by omega)
  obtain ⟨w1, e1, z1, g1, x1⟩ := alloc_facts w #[.int .i64 0, .int .u64 0, .bool false, .string ⟨#[]⟩, .int .i64 0, .string ⟨#[]⟩, .slice none 0 0, .slice none 0 0, .int .i64 0] 31
  have hr1 := hR.below g1
  have hne : w.heap.size ≠ rb := by have := Bx.lt hR; omega
  have hf1 := FrR.of (B := B) (rb := rb) g1 hBw
  have HE := phide e1
  have n1 : c ≠ 32 := by omega
  have n2 : c ≠ 9 := by omega
  have n3 : c ≠ 10 := by omega
  have n4 : c ≠ 13 := by omega
  have t1 : ((c : Int) == 34) = false := beq_eq_false_iff_ne.2 (by omega)
  have t2 : ((c : Int) == 91) = true := beq_iff_eq.2 (by omega)
  have HKC := phide KC
  have HST := phide hst
  have HMO := phide hmo
  clear KC hst hmo h1
  have hm9 : decide ((400 : Int) < (m : Int) + 1) = false := decide_eq_false (by omega)
  have hd9 : decide ((12 : Int) < (d : Int)) = false := decide_eq_false (by omega)
  have CB := fun W hR => blanks_at B rb S p m hB hS hp c hc n1 n2 n3 n4 W hR
  have CN := fun W hR => next_at B rb S p (m + 1) hB hS hp c hc W hR
  have HCB := phide CB
  have HCN := phide CN
  clear CB CN hR e1 z1 g1 hc n1 n2 n3 n4
  have HX1 := phide (And.intro hr1 (And.intro x1 hf1))
  clear hr1 x1 hf1
  go_enter Tryd.func68, Tryd.ntmps68
  go_upto_region 1 with fail
  rw [punhide HE]
  clear HE
  generalize hvb : w.heap.size = vb at *
  have HVB := phide hvb
  clear hvb
  go_wp2_with fail
  refine (punhide HCB _ (punhide HX1).1).mono ?_
  rintro e9 w2 ⟨rfl, hr2, f2⟩
  have hx2 := (punhide HX1).2.1.frr f2 hne
  have hf2 := (punhide HX1).2.2.trans f2
  clear HX1 f2
  have y0 := hr2.cell 0
  have y1 := hr2.cell 1
  have y2 := hr2.cell 2
  have y3 := hr2.cell 3
  have y4 := hr2.cell 4
  have y5 := hr2.cell 5
  have yf1 := hr2.free 1
  have yf2 := hr2.free 2
  have yf3 := hr2.free 3
  have yf4 := hr2.free 4
  have yf5 := hr2.free 5
  have HX2 := phide (And.intro hr2 (And.intro hx2 hf2))
  clear hr2 hx2 hf2
  go_wp2_with fail
  have hr3 : Rd (((w2.setCell ⟨rb, 2, none⟩ (.int .i64 ((m : Int) + 1))).setCell ⟨rb, 4, none⟩ (.bool false)).setCell ⟨rb, 5, none⟩ (.bool false)) rb S p (m + 1) := by rw [punhide HM]; exact (((punhide HX2).1.nodes (m + 1)).deep).big
  have hx3 := (((punhide HX2).2.1.frr (FrR.set w2 hB 2 (.int .i64 ((m : Int) + 1))) hne).frr (FrR.set _ hB 4 (.bool false)) hne).frr (FrR.set _ hB 5 (.bool false)) hne
  have hf3 := (((punhide HX2).2.2.trans (FrR.set w2 hB 2 (.int .i64 ((m : Int) + 1)))).trans (FrR.set _ hB 4 (.bool false))).trans (FrR.set _ hB 5 (.bool false))
  refine (punhide HCN _ hr3).mono ?_
  rintro e9 w4 ⟨rfl, hr4, f4⟩
  have hx4 := hx3.frr f4 hne
  have hf4 := hf3.trans f4
  clear hr3 hx3 hf3 f4 HX2
  clear y0 y1 y2 y3 y4 y5 yf1 yf2 yf3 yf4 yf5
  have hBw4 : B ≤ w4.heap.size := by have := hx4.lt; omega
  have HX4 := phide (And.intro hr4 (And.intro hx4 hf4))
  have hvl : vb < w4.heap.size := hx4.lt
  clear hr4 hx4 hf4
  go_wp2_with fail
  refine (punhide HKC _ (punhide HX4).1 hBw4).mono ?_
  rintro e9 w5 ⟨ka, kn, kc, da, dn, dc, rfl, hr5, f5, hP5⟩
  have hx5 := (punhide HX4).2.1.frr f5 hne
  have hf5 := (punhide HX4).2.2.trans f5
  have hP6 : P w.heap.size (w5.setCells vb 0 [.int .i64 6, .int .u64 0, .bool false, .string ⟨#[]⟩, .int .i64 0, .string ⟨#[]⟩, .slice ka kn kc, .slice da dn dc, .int .i64 0]) ka kn kc da dn dc := punhide HMO _ _ _ _ _ _ _ _ _ (punhide HST _ w5 (w5.setCells vb 0 [.int .i64 6, .int .u64 0, .bool false, .string ⟨#[]⟩, .int .i64 0, .string ⟨#[]⟩, .slice ka kn kc, .slice da dn dc, .int .i64 0]) _ _ _ _ _ _ hP5 (fun b h1 h2 => (setCells_frame vb [.int .i64 6, .int .u64 0, .bool false, .string ⟨#[]⟩, .int .i64 0, .string ⟨#[]⟩, .slice ka kn kc, .slice da dn dc, .int .i64 0] 0 w5).2.2.2.2 b (by omega))) (by rw [punhide HVB]; exact Nat.le_of_lt hvl)
  have HP6 := phide hP6
  clear HX4 f5 hP5 hP6 t1 t2
  have v0 := hx5.cell 0
  have u0 := hx5.free 0
  have v1 := hx5.cell 1
  have u1 := hx5.free 1
  have v2 := hx5.cell 2
  have u2 := hx5.free 2
  have v3 := hx5.cell 3
  have u3 := hx5.free 3
  have v4 := hx5.cell 4
  have u4 := hx5.free 4
  have v5 := hx5.cell 5
  have u5 := hx5.free 5
  have v6 := hx5.cell 6
  have u6 := hx5.free 6
  have v7 := hx5.cell 7
  have u7 := hx5.free 7
  have v8 := hx5.cell 8
  have u8 := hx5.free 8
  have HRes := phide (res9 w5 vb (.int .i64 6) (.int .u64 0) (.bool false) (.string ⟨#[]⟩) (.int .i64 0) (.string ⟨#[]⟩) (.slice ka kn kc) (.slice da dn dc) (.int .i64 0) (fun r hr => by rw [hx5.cell r, Array.getElem?_eq_getElem (by simpa using hr)]; rfl))
  have HG := phide (And.intro (Bx.setN (vs := [.int .i64 6, .int .u64 0, .bool false, .string ⟨#[]⟩, .int .i64 0, .string ⟨#[]⟩, .slice ka kn kc, .slice da dn dc, .int .i64 0]) hr5 hne) (FrR.setN hf5 hBw (by rw [punhide HVB]; exact Nat.le_refl _) [.int .i64 6, .int .u64 0, .bool false, .string ⟨#[]⟩, .int .i64 0, .string ⟨#[]⟩, .slice ka kn kc, .slice da dn dc, .int .i64 0]))
  clear hr5 hx5 hf5
  go_wp2_with fail
  change bodyPost _ _ _ _ _ (w5.setCells vb 0 [.int .i64 6, .int .u64 0, .bool false, .string ⟨#[]⟩, .int .i64 0, .string ⟨#[]⟩, .slice ka kn kc, .slice da dn dc, .int .i64 0])
  obtain ⟨r0, r1, r2, r3, r4, r5, r6, r7, r8⟩ := punhide HRes
  exact bodyPost_ret (v := .agg #[.int .i64 6, .int .u64 0, .bool false, .string ⟨#[]⟩, .int .i64 0, .string ⟨#[]⟩, .slice ka kn kc, .slice da dn dc, .int .i64 0]) (by simp [results, Tryd.results68, go_sem, r0, r1, r2, r3, r4, r5, r6, r7, r8]) rfl ⟨ka, kn, kc, da, dn, dc, rfl, (punhide HG).1, (punhide HG).2, punhide HP6⟩
set_option maxHeartbeats 4000000 in
theorem value_obj (B rb : Nat) (S : ByteArray) (p pe m me d : Nat) (hB : B ≤ rb) (hS : S.size ≤ 1000000) (hm : m + 1 ≤ 400) (hd : d ≤ 12) (hp : p < S.size) (c : Nat) (hc : (S[p]'hp).toNat = c) (h1 : c = 123)
    (P : Nat → World → Option Addr → Nat → Nat → Option Addr → Nat → Nat → Prop) (hst : ∀ lo W W' ka kn kc da dn dc, P lo W ka kn kc da dn dc → (∀ b, lo ≤ b → b < W.heap.size → W'.heap[b]? = W.heap[b]?) → P lo W' ka kn kc da dn dc) (hmo : ∀ lo lo' W ka kn kc da dn dc, P lo W ka kn kc da dn dc → lo' ≤ lo → P lo' W ka kn kc da dn dc)
    (KC : ∀ W, Rd W rb S p (m + 1) → B ≤ W.heap.size → Calls Tryd.prog 83 #[.pointer (some ⟨rb, 0, none⟩), .agg #[.int .i64 7, .int .u64 0, .bool false, .string ⟨#[]⟩, .int .i64 0, .string ⟨#[]⟩, .slice none 0 0, .slice none 0 0, .int .i64 0], .int .i64 (d : Int), .int .u8 125] W fun e W' => ∃ ka kn kc da dn dc, e = .returned (.agg #[.int .i64 7, .int .u64 0, .bool false, .string ⟨#[]⟩, .int .i64 0, .string ⟨#[]⟩, .slice ka kn kc, .slice da dn dc, .int .i64 0]) ∧ Rd W' rb S pe me ∧ FrR B rb W W' ∧ P W.heap.size W' ka kn kc da dn dc)
    (w : World) (hR : Rd w rb S p m) (hBw : B ≤ w.heap.size) :
    Calls Tryd.prog 68 #[.pointer (some ⟨rb, 0, none⟩), .int .i64 (d : Int)] w fun e w' => ∃ ka kn kc da dn dc, e = .returned (.agg #[.int .i64 7, .int .u64 0, .bool false, .string ⟨#[]⟩, .int .i64 0, .string ⟨#[]⟩, .slice ka kn kc, .slice da dn dc, .int .i64 0]) ∧ Rd w' rb S pe me ∧ FrR B rb w w' ∧ P w.heap.size w' ka kn kc da dn dc := by
  have HC := phide hc
  have HM : Hid ((m : Int) + 1 = ((m + 1 : Nat) : Int)) := phide (by omega)
  obtain ⟨w1, e1, z1, g1, x1⟩ := alloc_facts w #[.int .i64 0, .int .u64 0, .bool false, .string ⟨#[]⟩, .int .i64 0, .string ⟨#[]⟩, .slice none 0 0, .slice none 0 0, .int .i64 0] 31
  have hr1 := hR.below g1
  have hne : w.heap.size ≠ rb := by have := Bx.lt hR; omega
  have hf1 := FrR.of (B := B) (rb := rb) g1 hBw
  have HE := phide e1
  have n1 : c ≠ 32 := by omega
  have n2 : c ≠ 9 := by omega
  have n3 : c ≠ 10 := by omega
  have n4 : c ≠ 13 := by omega
  have t1 : ((c : Int) == 34) = false := beq_eq_false_iff_ne.2 (by omega)
  have t2 : ((c : Int) == 91) = false := beq_eq_false_iff_ne.2 (by omega)
  have t3 : ((c : Int) == 123) = true := beq_iff_eq.2 (by omega)
  have HKC := phide KC
  have HST := phide hst
  have HMO := phide hmo
  clear KC hst hmo h1
  have hm9 : decide ((400 : Int) < (m : Int) + 1) = false := decide_eq_false (by omega)
  have hd9 : decide ((12 : Int) < (d : Int)) = false := decide_eq_false (by omega)
  have CB := fun W hR => blanks_at B rb S p m hB hS hp c hc n1 n2 n3 n4 W hR
  have CN := fun W hR => next_at B rb S p (m + 1) hB hS hp c hc W hR
  have HCB := phide CB
  have HCN := phide CN
  clear CB CN hR e1 z1 g1 hc n1 n2 n3 n4
  have HX1 := phide (And.intro hr1 (And.intro x1 hf1))
  clear hr1 x1 hf1
  go_enter Tryd.func68, Tryd.ntmps68
  go_upto_region 1 with fail
  rw [punhide HE]
  clear HE
  generalize hvb : w.heap.size = vb at *
  have HVB := phide hvb
  clear hvb
  go_wp2_with fail
  refine (punhide HCB _ (punhide HX1).1).mono ?_
  rintro e9 w2 ⟨rfl, hr2, f2⟩
  have hx2 := (punhide HX1).2.1.frr f2 hne
  have hf2 := (punhide HX1).2.2.trans f2
  clear HX1 f2
  have y0 := hr2.cell 0
  have y1 := hr2.cell 1
  have y2 := hr2.cell 2
  have y3 := hr2.cell 3
  have y4 := hr2.cell 4
  have y5 := hr2.cell 5
  have yf1 := hr2.free 1
  have yf2 := hr2.free 2
  have yf3 := hr2.free 3
  have yf4 := hr2.free 4
  have yf5 := hr2.free 5
  have HX2 := phide (And.intro hr2 (And.intro hx2 hf2))
  clear hr2 hx2 hf2
  go_wp2_with fail
  have hr3 : Rd (((w2.setCell ⟨rb, 2, none⟩ (.int .i64 ((m : Int) + 1))).setCell ⟨rb, 4, none⟩ (.bool false)).setCell ⟨rb, 5, none⟩ (.bool false)) rb S p (m + 1) := by rw [punhide HM]; exact (((punhide HX2).1.nodes (m + 1)).deep).big
  have hx3 := (((punhide HX2).2.1.frr (FrR.set w2 hB 2 (.int .i64 ((m : Int) + 1))) hne).frr (FrR.set _ hB 4 (.bool false)) hne).frr (FrR.set _ hB 5 (.bool false)) hne
  have hf3 := (((punhide HX2).2.2.trans (FrR.set w2 hB 2 (.int .i64 ((m : Int) + 1)))).trans (FrR.set _ hB 4 (.bool false))).trans (FrR.set _ hB 5 (.bool false))
  refine (punhide HCN _ hr3).mono ?_
  rintro e9 w4 ⟨rfl, hr4, f4⟩
  have hx4 := hx3.frr f4 hne
  have hf4 := hf3.trans f4
  clear hr3 hx3 hf3 f4 HX2
  clear y0 y1 y2 y3 y4 y5 yf1 yf2 yf3 yf4 yf5
  have hBw4 : B ≤ w4.heap.size := by have := hx4.lt; omega
  have HX4 := phide (And.intro hr4 (And.intro hx4 hf4))
  have hvl : vb < w4.heap.size := hx4.lt
  clear hr4 hx4 hf4
  go_wp2_with fail
  refine (punhide HKC _ (punhide HX4).1 hBw4).mono ?_
  rintro e9 w5 ⟨ka, kn, kc, da, dn, dc, rfl, hr5, f5, hP5⟩
  have hx5 := (punhide HX4).2.1.frr f5 hne
  have hf5 := (punhide HX4).2.2.trans f5
  have hP6 : P w.heap.size (w5.setCells vb 0 [.int .i64 7, .int .u64 0, .bool false, .string ⟨#[]⟩, .int .i64 0, .string ⟨#[]⟩, .slice ka kn kc, .slice da dn dc, .int .i64 0]) ka kn kc da dn dc := punhide HMO _ _ _ _ _ _ _ _ _ (punhide HST _ w5 (w5.setCells vb 0 [.int .i64 7, .int .u64 0, .bool false, .string ⟨#[]⟩, .int .i64 0, .string ⟨#[]⟩, .slice ka kn kc, .slice da dn dc, .int .i64 0]) _ _ _ _ _ _ hP5 (fun b h1 h2 => (setCells_frame vb [.int .i64 7, .int .u64 0, .bool false, .string ⟨#[]⟩, .int .i64 0, .string ⟨#[]⟩, .slice ka kn kc, .slice da dn dc, .int .i64 0] 0 w5).2.2.2.2 b (by omega))) (by rw [punhide HVB]; exact Nat.le_of_lt hvl)
  have HP6 := phide hP6
  clear HX4 f5 hP5 hP6 t1 t2 t3
  have v0 := hx5.cell 0
  have u0 := hx5.free 0
  have v1 := hx5.cell 1
  have u1 := hx5.free 1
  have v2 := hx5.cell 2
  have u2 := hx5.free 2
  have v3 := hx5.cell 3
  have u3 := hx5.free 3
  have v4 := hx5.cell 4
  have u4 := hx5.free 4
  have v5 := hx5.cell 5
  have u5 := hx5.free 5
  have v6 := hx5.cell 6
  have u6 := hx5.free 6
  have v7 := hx5.cell 7
  have u7 := hx5.free 7
  have v8 := hx5.cell 8
  have u8 := hx5.free 8
  have HRes := phide (res9 w5 vb (.int .i64 7) (.int .u64 0) (.bool false) (.string ⟨#[]⟩) (.int .i64 0) (.string ⟨#[]⟩) (.slice ka kn kc) (.slice da dn dc) (.int .i64 0) (fun r hr => by rw [hx5.cell r, Array.getElem?_eq_getElem (by simpa using hr)]; rfl))
  have HG := phide (And.intro (Bx.setN (vs := [.int .i64 7, .int .u64 0, .bool false, .string ⟨#[]⟩, .int .i64 0, .string ⟨#[]⟩, .slice ka kn kc, .slice da dn dc, .int .i64 0]) hr5 hne) (FrR.setN hf5 hBw (by rw [punhide HVB]; exact Nat.le_refl _) [.int .i64 7, .int .u64 0, .bool false, .string ⟨#[]⟩, .int .i64 0, .string ⟨#[]⟩, .slice ka kn kc, .slice da dn dc, .int .i64 0]))
  clear hr5 hx5 hf5
  go_wp2_with fail
  change bodyPost _ _ _ _ _ (w5.setCells vb 0 [.int .i64 7, .int .u64 0, .bool false, .string ⟨#[]⟩, .int .i64 0, .string ⟨#[]⟩, .slice ka kn kc, .slice da dn dc, .int .i64 0])
  obtain ⟨r0, r1, r2, r3, r4, r5, r6, r7, r8⟩ := punhide HRes
  exact bodyPost_ret (v := .agg #[.int .i64 7, .int .u64 0, .bool false, .string ⟨#[]⟩, .int .i64 0, .string ⟨#[]⟩, .slice ka kn kc, .slice da dn dc, .int .i64 0]) (by simp [results, Tryd.results68, go_sem, r0, r1, r2, r3, r4, r5, r6, r7, r8]) rfl ⟨ka, kn, kc, da, dn, dc, rfl, (punhide HG).1, (punhide HG).2, punhide HP6⟩
end Go.Proofs.YtppkknmgdahniaaDoor.Pol
/- What is proved here: kids of the document's own reader of layer 5 at an object of two members, a digit and a list of one digit, walked; conditions: as each theorem states. Written by kobj_gen.py. -/
namespace Go.Proofs.YtppkknmgdahniaaDoor.Pol
set_option maxRecDepth 100000
open Go.RowKit Go.Proofs.YtppkknmgdahniaaDoor.Nc Go.Proofs.YtppkknmgdahniaaDoor.Np Go.Proofs.YtppkknmgdahniaaDoor.Nq
set_option maxRecDepth 100000
set_option linter.unusedVariables false
set_option linter.unusedSimpArgs false

theorem FrR.belowV {B rb vb : Nat} {w W W' : World} (h : FrR B rb w W) (g : Below vb W W') (hB : B ≤ vb) (hw : w.heap.size ≤ vb) : FrR B rb w W' :=
  ⟨h.1.trans (g.mono hB), ⟨Nat.le_trans h.2.1 g.size, fun k hk hl => (g.block k (Nat.lt_of_lt_of_le hl hw)).trans (h.2.2 k hk hl)⟩⟩
theorem Bx.setAll {W : World} {b : Nat} {cs : Array Value} {t : TypeId} {vs : List Value} (h : Bx W b cs t) (hl : cs.size = vs.length) : Bx (W.setCells b 0 vs) b vs.toArray t := by
  have aux : ∀ (vs : List Value) (o : Nat) (W : World) (cs : Array Value), Bx W b cs t → o + vs.length = cs.size → Bx (W.setCells b o vs) b (cs.toList.take o ++ vs).toArray t := by
    intro vs
    induction vs with
    | nil =>
      intro o W cs h hl
      have : cs.toList.take o = cs.toList := List.take_of_length_le (by simp at hl ⊢; omega)
      rw [this, List.append_nil, Array.toArray_toList]
      exact h
    | cons v r ih =>
      intro o W cs h hl
      have h2 := Bx.setAt (i := o) h v rfl
      have h3 := ih (o + 1) _ _ h2 (by simp at hl ⊢; omega)
      have e : ((cs.setIfInBounds o v).toList.take (o + 1) ++ r) = (cs.toList.take o ++ v :: r) := by
        have ho : o < cs.toList.length := by simp at hl ⊢; omega
        rw [Array.toList_setIfInBounds, List.take_succ_eq_append_getElem (by simpa using ho), List.take_set_of_le (Nat.le_refl o)]
        simp
      rw [e] at h3
      exact h3
  have := aux vs 0 W cs h (by omega)
  simpa using this
set_option maxHeartbeats 16000000 in
theorem kids_obj (B rb : Nat) (S dg dg2 ka kb : ByteArray) (p p1 p4 p5 p6 p7 p10 p11 p14 p15 m me d : Nat) (hB : B ≤ rb) (hS : S.size ≤ 1000000) (hl0 : p ≤ 1000) (hl4 : p4 ≤ 1000) (hl6 : p6 ≤ 1000) (hl10 : p10 ≤ 1000) (hl14 : p14 ≤ 1000) (hl9 : d ≤ 1000) (q1 : p1 = p + 1) (q5 : p5 = p4 + 1) (q7 : p7 = p6 + 1) (q11 : p11 = p10 + 1) (q15 : p15 = p14 + 1) (hab : ka ≠ kb)
    (b1 : ∀ W (k : Nat), Rd W rb S p1 k → Calls Tryd.prog 80 #[.pointer (some ⟨rb, 0, none⟩)] W fun e w' => e = .returned (.tuple #[]) ∧ Rd w' rb S p1 k ∧ FrR B rb W w')
    (n1 : ∀ W (k : Nat), Rd W rb S p1 k → Calls Tryd.prog 81 #[.pointer (some ⟨rb, 0, none⟩)] W fun e w' => e = .returned (.int .u8 34) ∧ Rd w' rb S p1 k ∧ FrR B rb W w')
    (qa : ∀ W (k : Nat), Rd W rb S p1 k → B ≤ W.heap.size → Calls Tryd.prog 82 #[.pointer (some ⟨rb, 0, none⟩)] W fun e w' => e = .returned (.string ka) ∧ Rd w' rb S p4 k ∧ FrR B rb W w')
    (b4 : ∀ W (k : Nat), Rd W rb S p4 k → Calls Tryd.prog 80 #[.pointer (some ⟨rb, 0, none⟩)] W fun e w' => e = .returned (.tuple #[]) ∧ Rd w' rb S p4 k ∧ FrR B rb W w')
    (n4 : ∀ W (k : Nat), Rd W rb S p4 k → Calls Tryd.prog 81 #[.pointer (some ⟨rb, 0, none⟩)] W fun e w' => e = .returned (.int .u8 58) ∧ Rd w' rb S p4 k ∧ FrR B rb W w')
    (v5 : ∀ W, Rd W rb S p5 m → B ≤ W.heap.size → Calls Tryd.prog 68 #[.pointer (some ⟨rb, 0, none⟩), .int .i64 ((d : Int) + 1)] W fun e w' => e = .returned (.agg #[.int .i64 4, .int .u64 0, .bool false, .string dg, .int .i64 0, .string ⟨#[]⟩, .slice none 0 0, .slice none 0 0, .int .i64 0]) ∧ Rd w' rb S p6 (m + 1) ∧ FrR B rb W w')
    (b6 : ∀ W (k : Nat), Rd W rb S p6 k → Calls Tryd.prog 80 #[.pointer (some ⟨rb, 0, none⟩)] W fun e w' => e = .returned (.tuple #[]) ∧ Rd w' rb S p6 k ∧ FrR B rb W w')
    (n6 : ∀ W (k : Nat), Rd W rb S p6 k → Calls Tryd.prog 81 #[.pointer (some ⟨rb, 0, none⟩)] W fun e w' => e = .returned (.int .u8 44) ∧ Rd w' rb S p6 k ∧ FrR B rb W w')
    (b7 : ∀ W (k : Nat), Rd W rb S p7 k → Calls Tryd.prog 80 #[.pointer (some ⟨rb, 0, none⟩)] W fun e w' => e = .returned (.tuple #[]) ∧ Rd w' rb S p7 k ∧ FrR B rb W w')
    (qb : ∀ W (k : Nat), Rd W rb S p7 k → B ≤ W.heap.size → Calls Tryd.prog 82 #[.pointer (some ⟨rb, 0, none⟩)] W fun e w' => e = .returned (.string kb) ∧ Rd w' rb S p10 k ∧ FrR B rb W w')
    (b10 : ∀ W (k : Nat), Rd W rb S p10 k → Calls Tryd.prog 80 #[.pointer (some ⟨rb, 0, none⟩)] W fun e w' => e = .returned (.tuple #[]) ∧ Rd w' rb S p10 k ∧ FrR B rb W w')
    (n10 : ∀ W (k : Nat), Rd W rb S p10 k → Calls Tryd.prog 81 #[.pointer (some ⟨rb, 0, none⟩)] W fun e w' => e = .returned (.int .u8 58) ∧ Rd w' rb S p10 k ∧ FrR B rb W w')
    (v11 : ∀ W, Rd W rb S p11 (m + 1) → B ≤ W.heap.size → Calls Tryd.prog 68 #[.pointer (some ⟨rb, 0, none⟩), .int .i64 ((d : Int) + 1)] W fun e w' => ∃ gl cl, e = .returned (.agg #[.int .i64 6, .int .u64 0, .bool false, .string ⟨#[]⟩, .int .i64 0, .string ⟨#[]⟩, .slice none 0 0, .slice (some ⟨gl, 0, none⟩) 1 cl, .int .i64 0]) ∧ Rd w' rb S p14 me ∧ FrR B rb W w' ∧ w'.ownsRow W.heap.size 31 9 (.slice (some ⟨gl, 0, none⟩) 1 cl) 1 [.int .i64 4, .int .u64 0, .bool false, .string dg2, .int .i64 0, .string ⟨#[]⟩, .slice none 0 0, .slice none 0 0, .int .i64 0])
    (b14 : ∀ W (k : Nat), Rd W rb S p14 k → Calls Tryd.prog 80 #[.pointer (some ⟨rb, 0, none⟩)] W fun e w' => e = .returned (.tuple #[]) ∧ Rd w' rb S p14 k ∧ FrR B rb W w')
    (n14 : ∀ W (k : Nat), Rd W rb S p14 k → Calls Tryd.prog 81 #[.pointer (some ⟨rb, 0, none⟩)] W fun e w' => e = .returned (.int .u8 125) ∧ Rd w' rb S p14 k ∧ FrR B rb W w')
    (w : World) (hR : Rd w rb S p m) (hBw : B ≤ w.heap.size) :
    Calls Tryd.prog 83 #[.pointer (some ⟨rb, 0, none⟩), .agg #[.int .i64 7, .int .u64 0, .bool false, .string ⟨#[]⟩, .int .i64 0, .string ⟨#[]⟩, .slice none 0 0, .slice none 0 0, .int .i64 0], .int .i64 (d : Int), .int .u8 125] w fun e w' => ∃ kg2 kc2 gg2 cp2 gl cl, e = .returned (.agg #[.int .i64 7, .int .u64 0, .bool false, .string ⟨#[]⟩, .int .i64 0, .string ⟨#[]⟩, .slice (some ⟨kg2, 0, none⟩) 2 kc2, .slice (some ⟨gg2, 0, none⟩) 2 cp2, .int .i64 0]) ∧ Rd w' rb S p15 me ∧ FrR B rb w w' ∧
      w'.ownsRow w.heap.size 9 1 (.slice (some ⟨kg2, 0, none⟩) 2 kc2) 2 [.string ka, .string kb] ∧ w'.ownsRow w.heap.size 31 9 (.slice (some ⟨gg2, 0, none⟩) 2 cp2) 2 ([.int .i64 4, .int .u64 0, .bool false, .string dg, .int .i64 0, .string ⟨#[]⟩, .slice none 0 0, .slice none 0 0, .int .i64 0] ++ [.int .i64 6, .int .u64 0, .bool false, .string ⟨#[]⟩, .int .i64 0, .string ⟨#[]⟩, .slice none 0 0, .slice (some ⟨gl, 0, none⟩) 1 cl, .int .i64 0]) ∧ w'.ownsRow w.heap.size 31 9 (.slice (some ⟨gl, 0, none⟩) 1 cl) 1 [.int .i64 4, .int .u64 0, .bool false, .string dg2, .int .i64 0, .string ⟨#[]⟩, .slice none 0 0, .slice none 0 0, .int .i64 0] ∧ kg2 ≠ gg2 ∧ gl ≠ gg2 := by
  have HQ1 : Hid ((p : Int) + 1 = (p1 : Int)) := phide (by omega)
  have HQ5 : Hid ((p4 : Int) + 1 = (p5 : Int)) := phide (by omega)
  have HQ7 : Hid ((p6 : Int) + 1 = (p7 : Int)) := phide (by omega)
  have HQ11 : Hid ((p10 : Int) + 1 = (p11 : Int)) := phide (by omega)
  have HQ15 : Hid ((p14 : Int) + 1 = (p15 : Int)) := phide (by omega)
  obtain ⟨w1, e1, z1, g1, x1⟩ := alloc_facts w #[.int .i64 7, .int .u64 0, .bool false, .string ⟨#[]⟩, .int .i64 0, .string ⟨#[]⟩, .slice none 0 0, .slice none 0 0, .int .i64 0] 31
  obtain ⟨w2, e2, z2, g2, x2⟩ := alloc_facts w1 #[.int .i64 0, .int .u64 0, .bool false, .string ⟨#[]⟩, .int .i64 0, .string ⟨#[]⟩, .slice none 0 0, .slice none 0 0, .int .i64 0] 31
  have hb : Below w.heap.size w w2 := g1.trans (g2.mono (by omega))
  rw [z1] at x2
  have hrl := Bx.lt hR
  have hf := FrR.of (B := B) (rb := rb) hb hBw
  have hr := hR.below hb
  have hxv := x1.below g2
  have hxz := x2
  have HE : Hid (w.alloc (.cells #[.int .i64 7, .int .u64 0, .bool false, .string ⟨#[]⟩, .int .i64 0, .string ⟨#[]⟩, .slice none 0 0, .slice none 0 0, .int .i64 0] 31) = w1 ∧ w1.alloc (.cells #[.int .i64 0, .int .u64 0, .bool false, .string ⟨#[]⟩, .int .i64 0, .string ⟨#[]⟩, .slice none 0 0, .slice none 0 0, .int .i64 0] 31) = w2) := phide ⟨e1, e2⟩
  have HB1 := phide (fun W hR => b1 W m hR)
  have HN1 := phide (fun W hR => n1 W m hR)
  have HQA := phide (fun W hR hW => qa W m hR hW)
  have HB4 := phide (fun W hR => b4 W m hR)
  have HN4 := phide (fun W hR => n4 W m hR)
  have HV5 := phide v5
  have HB6 := phide (fun W hR => b6 W (m + 1) hR)
  have HN6 := phide (fun W hR => n6 W (m + 1) hR)
  have HB7 := phide (fun W hR => b7 W (m + 1) hR)
  have HQB := phide (fun W hR hW => qb W (m + 1) hR hW)
  have HB10 := phide (fun W hR => b10 W (m + 1) hR)
  have HN10 := phide (fun W hR => n10 W (m + 1) hR)
  have HV11 := phide v11
  have HB14 := phide (fun W hR => b14 W me hR)
  have HN14 := phide (fun W hR => n14 W me hR)
  have hsb : w.heap.size ≠ rb ∧ w.heap.size + 1 ≠ rb := by omega
  clear hR e1 e2 z1 g1 g2 x1 x2 hb b1 n1 qa b4 n4 v5 b6 n6 b7 qb b10 n10 v11 b14 n14 q1 q5 q7 q11 q15
  have HST := phide (And.intro hr (And.intro hf (And.intro hxv hxz)))
  clear hr hf hxv hxz
  go_enter Tryd.func83, Tryd.ntmps83
  go_upto_region 1 with fail
  rw [(punhide HE).1, (punhide HE).2]
  clear HE
  generalize hvb : w.heap.size = vb at *
  have HVB := phide hvb
  clear hvb
  obtain ⟨hr, hf, hxv, hxz⟩ := punhide HST
  clear HST
  have y0 := hr.cell 0
  have y1 := hr.cell 1
  have y2 := hr.cell 2
  have y3 := hr.cell 3
  have y4 := hr.cell 4
  have y5 := hr.cell 5
  have yf1 := hr.free 1
  have yf5 := hr.free 5
  have v0 := hxv.cell 0
  have v1 := hxv.cell 1
  have v2 := hxv.cell 2
  have v3 := hxv.cell 3
  have v4 := hxv.cell 4
  have v5 := hxv.cell 5
  have v6 := hxv.cell 6
  have v7 := hxv.cell 7
  have v8 := hxv.cell 8
  have vf0 := hxv.free 0
  have vf1 := hxv.free 1
  have vf2 := hxv.free 2
  have vf3 := hxv.free 3
  have vf4 := hxv.free 4
  have vf5 := hxv.free 5
  have vf6 := hxv.free 6
  have vf7 := hxv.free 7
  have vf8 := hxv.free 8
  have z0 := hxz.cell 0
  have z1 := hxz.cell 1
  have z2 := hxz.cell 2
  have z3 := hxz.cell 3
  have z4 := hxz.cell 4
  have z5 := hxz.cell 5
  have z6 := hxz.cell 6
  have z7 := hxz.cell 7
  have z8 := hxz.cell 8
  have HST := phide (And.intro hr (And.intro hf (And.intro hxv hxz)))
  clear hr hf hxv hxz
  go_wp2_with fail
  obtain ⟨hr, hf, hxv, hxz⟩ := punhide HST
  clear HST y0 y1 y2 y3 y4 y5 yf1 yf5 v0 v1 v2 v3 v4 v5 v6 v7 v8 vf0 vf1 vf2 vf3 vf4 vf5 vf6 vf7 vf8 z0 z1 z2 z3 z4 z5 z6 z7 z8
  have f9 := FrR.set (B := B) (rb := rb) w2 hB 1 (.int .i64 ((p : Int) + 1))
  have hr9 : Rd (w2.setCell ⟨rb, 1, none⟩ (.int .i64 ((p : Int) + 1))) rb S p1 m := by rw [punhide HQ1]; exact hr.at' p1
  clear hr
  have hr := hr9
  replace hxv := hxv.frr f9 (by omega)
  replace hxz := hxz.frr f9 (by omega)
  replace hf := hf.trans f9
  clear f9 hr9
  have y0 := hr.cell 0
  have y1 := hr.cell 1
  have y2 := hr.cell 2
  have y3 := hr.cell 3
  have y4 := hr.cell 4
  have y5 := hr.cell 5
  have yf1 := hr.free 1
  have yf5 := hr.free 5
  have v0 := hxv.cell 0
  have v1 := hxv.cell 1
  have v2 := hxv.cell 2
  have v3 := hxv.cell 3
  have v4 := hxv.cell 4
  have v5 := hxv.cell 5
  have v6 := hxv.cell 6
  have v7 := hxv.cell 7
  have v8 := hxv.cell 8
  have vf0 := hxv.free 0
  have vf1 := hxv.free 1
  have vf2 := hxv.free 2
  have vf3 := hxv.free 3
  have vf4 := hxv.free 4
  have vf5 := hxv.free 5
  have vf6 := hxv.free 6
  have vf7 := hxv.free 7
  have vf8 := hxv.free 8
  have z0 := hxz.cell 0
  have z1 := hxz.cell 1
  have z2 := hxz.cell 2
  have z3 := hxz.cell 3
  have z4 := hxz.cell 4
  have z5 := hxz.cell 5
  have z6 := hxz.cell 6
  have z7 := hxz.cell 7
  have z8 := hxz.cell 8
  have HST := phide (And.intro hr (And.intro hf (And.intro hxv hxz)))
  clear hr hf hxv hxz
  refine (punhide HB1 _ (punhide HST).1).mono ?_
  rintro e9 w3 ⟨rfl, hr9, f9⟩
  obtain ⟨hr, hf, hxv, hxz⟩ := punhide HST
  clear HST y0 y1 y2 y3 y4 y5 yf1 yf5 v0 v1 v2 v3 v4 v5 v6 v7 v8 vf0 vf1 vf2 vf3 vf4 vf5 vf6 vf7 vf8 z0 z1 z2 z3 z4 z5 z6 z7 z8
  clear hr
  have hr := hr9
  replace hxv := hxv.frr f9 (by omega)
  replace hxz := hxz.frr f9 (by omega)
  replace hf := hf.trans f9
  clear f9 hr9
  have y0 := hr.cell 0
  have y1 := hr.cell 1
  have y2 := hr.cell 2
  have y3 := hr.cell 3
  have y4 := hr.cell 4
  have y5 := hr.cell 5
  have yf1 := hr.free 1
  have yf5 := hr.free 5
  have v0 := hxv.cell 0
  have v1 := hxv.cell 1
  have v2 := hxv.cell 2
  have v3 := hxv.cell 3
  have v4 := hxv.cell 4
  have v5 := hxv.cell 5
  have v6 := hxv.cell 6
  have v7 := hxv.cell 7
  have v8 := hxv.cell 8
  have vf0 := hxv.free 0
  have vf1 := hxv.free 1
  have vf2 := hxv.free 2
  have vf3 := hxv.free 3
  have vf4 := hxv.free 4
  have vf5 := hxv.free 5
  have vf6 := hxv.free 6
  have vf7 := hxv.free 7
  have vf8 := hxv.free 8
  have z0 := hxz.cell 0
  have z1 := hxz.cell 1
  have z2 := hxz.cell 2
  have z3 := hxz.cell 3
  have z4 := hxz.cell 4
  have z5 := hxz.cell 5
  have z6 := hxz.cell 6
  have z7 := hxz.cell 7
  have z8 := hxz.cell 8
  have HST := phide (And.intro hr (And.intro hf (And.intro hxv hxz)))
  clear hr hf hxv hxz
  go_wp2_with fail
  refine (punhide HN1 _ (punhide HST).1).mono ?_
  rintro e9 w4 ⟨rfl, hr9, f9⟩
  obtain ⟨hr, hf, hxv, hxz⟩ := punhide HST
  clear HST y0 y1 y2 y3 y4 y5 yf1 yf5 v0 v1 v2 v3 v4 v5 v6 v7 v8 vf0 vf1 vf2 vf3 vf4 vf5 vf6 vf7 vf8 z0 z1 z2 z3 z4 z5 z6 z7 z8
  clear hr
  have hr := hr9
  replace hxv := hxv.frr f9 (by omega)
  replace hxz := hxz.frr f9 (by omega)
  replace hf := hf.trans f9
  clear f9 hr9
  have y0 := hr.cell 0
  have y1 := hr.cell 1
  have y2 := hr.cell 2
  have y3 := hr.cell 3
  have y4 := hr.cell 4
  have y5 := hr.cell 5
  have yf1 := hr.free 1
  have yf5 := hr.free 5
  have v0 := hxv.cell 0
  have v1 := hxv.cell 1
  have v2 := hxv.cell 2
  have v3 := hxv.cell 3
  have v4 := hxv.cell 4
  have v5 := hxv.cell 5
  have v6 := hxv.cell 6
  have v7 := hxv.cell 7
  have v8 := hxv.cell 8
  have vf0 := hxv.free 0
  have vf1 := hxv.free 1
  have vf2 := hxv.free 2
  have vf3 := hxv.free 3
  have vf4 := hxv.free 4
  have vf5 := hxv.free 5
  have vf6 := hxv.free 6
  have vf7 := hxv.free 7
  have vf8 := hxv.free 8
  have z0 := hxz.cell 0
  have z1 := hxz.cell 1
  have z2 := hxz.cell 2
  have z3 := hxz.cell 3
  have z4 := hxz.cell 4
  have z5 := hxz.cell 5
  have z6 := hxz.cell 6
  have z7 := hxz.cell 7
  have z8 := hxz.cell 8
  have HST := phide (And.intro hr (And.intro hf (And.intro hxv hxz)))
  clear hr hf hxv hxz
  go_wp2_with fail
  go_loopg [9] 1 (fun gh M wr => (M = .int .i64 0 ∧ gh = 1 ∧ wr = w4) ∨ (∃ kg kc g cp, M = .int .i64 1 ∧ gh = 0 ∧ Rd wr rb S p7 (m + 1) ∧ FrR B rb w wr ∧ Bx wr vb #[.int .i64 7, .int .u64 0, .bool false, .string ⟨#[]⟩, .int .i64 0, .string ⟨#[]⟩, .slice (some ⟨kg, 0, none⟩) 1 kc, .slice (some ⟨g, 0, none⟩) 1 cp, .int .i64 0] 31 ∧ Bx wr (vb + 1) #[.int .i64 0, .int .u64 0, .bool false, .string ⟨#[]⟩, .int .i64 0, .string ⟨#[]⟩, .slice none 0 0, .slice none 0 0, .int .i64 0] 31 ∧ wr.ownsRow vb 9 1 (.slice (some ⟨kg, 0, none⟩) 1 kc) 1 [.string ka] ∧ wr.ownsRow vb 31 9 (.slice (some ⟨g, 0, none⟩) 1 cp) 1 [.int .i64 4, .int .u64 0, .bool false, .string dg, .int .i64 0, .string ⟨#[]⟩, .slice none 0 0, .slice none 0 0, .int .i64 0] ∧ kg ≠ g ∧ vb + 1 < kg ∧ vb + 1 < g))
  case atStart => exact .inl ⟨rfl, rfl, rfl⟩
  case round =>
    rcases hrel with ⟨rfl, rfl, rfl⟩ | ⟨kg, kc, g, cp, rfl, rfl, hr, hf, hxv, hxz, hoK, hoD, hkd, hk1, hg1⟩
    · skip
      go_wp2_with fail
      refine (punhide HB1 _ (punhide HST).1).mono ?_
      rintro e9 w5 ⟨rfl, hr9, f9⟩
      obtain ⟨hr, hf, hxv, hxz⟩ := punhide HST
      clear HST y0 y1 y2 y3 y4 y5 yf1 yf5 v0 v1 v2 v3 v4 v5 v6 v7 v8 vf0 vf1 vf2 vf3 vf4 vf5 vf6 vf7 vf8 z0 z1 z2 z3 z4 z5 z6 z7 z8
      clear hr
      have hr := hr9
      replace hxv := hxv.frr f9 (by omega)
      replace hxz := hxz.frr f9 (by omega)
      replace hf := hf.trans f9
      clear f9 hr9
      have y0 := hr.cell 0
      have y1 := hr.cell 1
      have y2 := hr.cell 2
      have y3 := hr.cell 3
      have y4 := hr.cell 4
      have y5 := hr.cell 5
      have yf1 := hr.free 1
      have yf5 := hr.free 5
      have v0 := hxv.cell 0
      have v1 := hxv.cell 1
      have v2 := hxv.cell 2
      have v3 := hxv.cell 3
      have v4 := hxv.cell 4
      have v5 := hxv.cell 5
      have v6 := hxv.cell 6
      have v7 := hxv.cell 7
      have v8 := hxv.cell 8
      have vf0 := hxv.free 0
      have vf1 := hxv.free 1
      have vf2 := hxv.free 2
      have vf3 := hxv.free 3
      have vf4 := hxv.free 4
      have vf5 := hxv.free 5
      have vf6 := hxv.free 6
      have vf7 := hxv.free 7
      have vf8 := hxv.free 8
      have z0 := hxz.cell 0
      have z1 := hxz.cell 1
      have z2 := hxz.cell 2
      have z3 := hxz.cell 3
      have z4 := hxz.cell 4
      have z5 := hxz.cell 5
      have z6 := hxz.cell 6
      have z7 := hxz.cell 7
      have z8 := hxz.cell 8
      have HST := phide (And.intro hr (And.intro hf (And.intro hxv hxz)))
      clear hr hf hxv hxz
      have hBw9 : B ≤ w5.heap.size := by have := (punhide HST).2.2.1.lt; omega
      go_wp2_with fail
      refine (punhide HQA _ (punhide HST).1 hBw9).mono ?_
      rintro e9 w6 ⟨rfl, hr9, f9⟩
      obtain ⟨hr, hf, hxv, hxz⟩ := punhide HST
      clear HST y0 y1 y2 y3 y4 y5 yf1 yf5 v0 v1 v2 v3 v4 v5 v6 v7 v8 vf0 vf1 vf2 vf3 vf4 vf5 vf6 vf7 vf8 z0 z1 z2 z3 z4 z5 z6 z7 z8
      clear hr
      have hr := hr9
      replace hxv := hxv.frr f9 (by omega)
      replace hxz := hxz.frr f9 (by omega)
      replace hf := hf.trans f9
      clear f9 hr9 hBw9
      have y0 := hr.cell 0
      have y1 := hr.cell 1
      have y2 := hr.cell 2
      have y3 := hr.cell 3
      have y4 := hr.cell 4
      have y5 := hr.cell 5
      have yf1 := hr.free 1
      have yf5 := hr.free 5
      have v0 := hxv.cell 0
      have v1 := hxv.cell 1
      have v2 := hxv.cell 2
      have v3 := hxv.cell 3
      have v4 := hxv.cell 4
      have v5 := hxv.cell 5
      have v6 := hxv.cell 6
      have v7 := hxv.cell 7
      have v8 := hxv.cell 8
      have vf0 := hxv.free 0
      have vf1 := hxv.free 1
      have vf2 := hxv.free 2
      have vf3 := hxv.free 3
      have vf4 := hxv.free 4
      have vf5 := hxv.free 5
      have vf6 := hxv.free 6
      have vf7 := hxv.free 7
      have vf8 := hxv.free 8
      have z0 := hxz.cell 0
      have z1 := hxz.cell 1
      have z2 := hxz.cell 2
      have z3 := hxz.cell 3
      have z4 := hxz.cell 4
      have z5 := hxz.cell 5
      have z6 := hxz.cell 6
      have z7 := hxz.cell 7
      have z8 := hxz.cell 8
      have HST := phide (And.intro hr (And.intro hf (And.intro hxv hxz)))
      clear hr hf hxv hxz
      go_wp2_with fail
      refine (punhide HB4 _ (punhide HST).1).mono ?_
      rintro e9 w7 ⟨rfl, hr9, f9⟩
      obtain ⟨hr, hf, hxv, hxz⟩ := punhide HST
      clear HST y0 y1 y2 y3 y4 y5 yf1 yf5 v0 v1 v2 v3 v4 v5 v6 v7 v8 vf0 vf1 vf2 vf3 vf4 vf5 vf6 vf7 vf8 z0 z1 z2 z3 z4 z5 z6 z7 z8
      clear hr
      have hr := hr9
      replace hxv := hxv.frr f9 (by omega)
      replace hxz := hxz.frr f9 (by omega)
      replace hf := hf.trans f9
      clear f9 hr9
      have y0 := hr.cell 0
      have y1 := hr.cell 1
      have y2 := hr.cell 2
      have y3 := hr.cell 3
      have y4 := hr.cell 4
      have y5 := hr.cell 5
      have yf1 := hr.free 1
      have yf5 := hr.free 5
      have v0 := hxv.cell 0
      have v1 := hxv.cell 1
      have v2 := hxv.cell 2
      have v3 := hxv.cell 3
      have v4 := hxv.cell 4
      have v5 := hxv.cell 5
      have v6 := hxv.cell 6
      have v7 := hxv.cell 7
      have v8 := hxv.cell 8
      have vf0 := hxv.free 0
      have vf1 := hxv.free 1
      have vf2 := hxv.free 2
      have vf3 := hxv.free 3
      have vf4 := hxv.free 4
      have vf5 := hxv.free 5
      have vf6 := hxv.free 6
      have vf7 := hxv.free 7
      have vf8 := hxv.free 8
      have z0 := hxz.cell 0
      have z1 := hxz.cell 1
      have z2 := hxz.cell 2
      have z3 := hxz.cell 3
      have z4 := hxz.cell 4
      have z5 := hxz.cell 5
      have z6 := hxz.cell 6
      have z7 := hxz.cell 7
      have z8 := hxz.cell 8
      have HST := phide (And.intro hr (And.intro hf (And.intro hxv hxz)))
      clear hr hf hxv hxz
      go_wp2_with fail
      refine (punhide HN4 _ (punhide HST).1).mono ?_
      rintro e9 w8 ⟨rfl, hr9, f9⟩
      obtain ⟨hr, hf, hxv, hxz⟩ := punhide HST
      clear HST y0 y1 y2 y3 y4 y5 yf1 yf5 v0 v1 v2 v3 v4 v5 v6 v7 v8 vf0 vf1 vf2 vf3 vf4 vf5 vf6 vf7 vf8 z0 z1 z2 z3 z4 z5 z6 z7 z8
      clear hr
      have hr := hr9
      replace hxv := hxv.frr f9 (by omega)
      replace hxz := hxz.frr f9 (by omega)
      replace hf := hf.trans f9
      clear f9 hr9
      have y0 := hr.cell 0
      have y1 := hr.cell 1
      have y2 := hr.cell 2
      have y3 := hr.cell 3
      have y4 := hr.cell 4
      have y5 := hr.cell 5
      have yf1 := hr.free 1
      have yf5 := hr.free 5
      have v0 := hxv.cell 0
      have v1 := hxv.cell 1
      have v2 := hxv.cell 2
      have v3 := hxv.cell 3
      have v4 := hxv.cell 4
      have v5 := hxv.cell 5
      have v6 := hxv.cell 6
      have v7 := hxv.cell 7
      have v8 := hxv.cell 8
      have vf0 := hxv.free 0
      have vf1 := hxv.free 1
      have vf2 := hxv.free 2
      have vf3 := hxv.free 3
      have vf4 := hxv.free 4
      have vf5 := hxv.free 5
      have vf6 := hxv.free 6
      have vf7 := hxv.free 7
      have vf8 := hxv.free 8
      have z0 := hxz.cell 0
      have z1 := hxz.cell 1
      have z2 := hxz.cell 2
      have z3 := hxz.cell 3
      have z4 := hxz.cell 4
      have z5 := hxz.cell 5
      have z6 := hxz.cell 6
      have z7 := hxz.cell 7
      have z8 := hxz.cell 8
      have HST := phide (And.intro hr (And.intro hf (And.intro hxv hxz)))
      clear hr hf hxv hxz
      go_upto_region 16 with fail
      obtain ⟨hr, hf, hxv, hxz⟩ := punhide HST
      clear HST y0 y1 y2 y3 y4 y5 yf1 yf5 v0 v1 v2 v3 v4 v5 v6 v7 v8 vf0 vf1 vf2 vf3 vf4 vf5 vf6 vf7 vf8 z0 z1 z2 z3 z4 z5 z6 z7 z8
      have f9 := FrR.set (B := B) (rb := rb) w8 hB 1 (.int .i64 ((p4 : Int) + 1))
      have hr9 : Rd (w8.setCell ⟨rb, 1, none⟩ (.int .i64 ((p4 : Int) + 1))) rb S p5 m := by rw [punhide HQ5]; exact hr.at' p5
      clear hr
      have hr := hr9
      replace hxv := hxv.frr f9 (by omega)
      replace hxz := hxz.frr f9 (by omega)
      replace hf := hf.trans f9
      clear f9 hr9
      generalize (w8.setCell ⟨rb, 1, none⟩ (.int .i64 ((p4 : Int) + 1))) = w9 at *
      have y0 := hr.cell 0
      have y1 := hr.cell 1
      have y2 := hr.cell 2
      have y3 := hr.cell 3
      have y4 := hr.cell 4
      have y5 := hr.cell 5
      have yf1 := hr.free 1
      have yf5 := hr.free 5
      have v0 := hxv.cell 0
      have v1 := hxv.cell 1
      have v2 := hxv.cell 2
      have v3 := hxv.cell 3
      have v4 := hxv.cell 4
      have v5 := hxv.cell 5
      have v6 := hxv.cell 6
      have v7 := hxv.cell 7
      have v8 := hxv.cell 8
      have vf0 := hxv.free 0
      have vf1 := hxv.free 1
      have vf2 := hxv.free 2
      have vf3 := hxv.free 3
      have vf4 := hxv.free 4
      have vf5 := hxv.free 5
      have vf6 := hxv.free 6
      have vf7 := hxv.free 7
      have vf8 := hxv.free 8
      have z0 := hxz.cell 0
      have z1 := hxz.cell 1
      have z2 := hxz.cell 2
      have z3 := hxz.cell 3
      have z4 := hxz.cell 4
      have z5 := hxz.cell 5
      have z6 := hxz.cell 6
      have z7 := hxz.cell 7
      have z8 := hxz.cell 8
      have HST := phide (And.intro hr (And.intro hf (And.intro hxv hxz)))
      clear hr hf hxv hxz
      have hBw9 : B ≤ w9.heap.size := by have := (punhide HST).2.2.1.lt; omega
      go_wp2_with fail
      refine (punhide HV5 _ (punhide HST).1 hBw9).mono ?_
      rintro e9 w10 ⟨rfl, hr9, f9⟩
      obtain ⟨hr, hf, hxv, hxz⟩ := punhide HST
      clear HST y0 y1 y2 y3 y4 y5 yf1 yf5 v0 v1 v2 v3 v4 v5 v6 v7 v8 vf0 vf1 vf2 vf3 vf4 vf5 vf6 vf7 vf8 z0 z1 z2 z3 z4 z5 z6 z7 z8
      clear hr
      have hr := hr9
      replace hxv := hxv.frr f9 (by omega)
      replace hxz := hxz.frr f9 (by omega)
      replace hf := hf.trans f9
      clear f9 hr9 hBw9
      have hrb6 : rb < w10.heap.size := Bx.lt hr
      have hv6 : vb < w10.heap.size := hxv.lt
      have hv7 : vb + 1 < w10.heap.size := hxz.lt
      have v0 := hxv.cell 0
      have v1 := hxv.cell 1
      have v2 := hxv.cell 2
      have v3 := hxv.cell 3
      have v4 := hxv.cell 4
      have v5 := hxv.cell 5
      have v6 := hxv.cell 6
      have v7 := hxv.cell 7
      have v8 := hxv.cell 8
      have y1 := hr.cell 1
      have y5 := hr.cell 5
      have yf5 := hr.free 5
      have f9 := (FrR.set (B := B) (rb := rb) w10 hB 5 (.bool false)).trans (FrR.of (B := B) (rb := rb) ((Below.refl _ (w10.setCell ⟨rb, 5, none⟩ (.bool false))).alloc (Nat.le_refl _) (.cells #[.int .i64 4, .int .u64 0, .bool false, .string dg, .int .i64 0, .string ⟨#[]⟩, .slice none 0 0, .slice none 0 0, .int .i64 0] 31)) (by simp only [World.setCell, Array.size_modify]; omega))
      have hr9 : Rd ((w10.setCell ⟨rb, 5, none⟩ (.bool false)).alloc (.cells #[.int .i64 4, .int .u64 0, .bool false, .string dg, .int .i64 0, .string ⟨#[]⟩, .slice none 0 0, .slice none 0 0, .int .i64 0] 31)) rb S p6 (m + 1) := (hr.big).below ((Below.refl _ _).alloc (Nat.le_refl _) _)
      replace hxv := hxv.frr f9 (by omega)
      replace hxz := hxz.frr f9 (by omega)
      replace hf := hf.trans f9
      clear hr
      have hr := hr9
      have hs9 : ((w10.setCell ⟨rb, 5, none⟩ (.bool false)).alloc (.cells #[.int .i64 4, .int .u64 0, .bool false, .string dg, .int .i64 0, .string ⟨#[]⟩, .slice none 0 0, .slice none 0 0, .int .i64 0] 31)).heap.size = w10.heap.size + 1 := by simp [World.setCell]
      have HST := phide (And.intro hr (And.intro hf (And.intro hxv hxz)))
      have HS9 := phide hs9
      clear hr9 f9 hs9 hr hf hxv hxz
      have CPN := put_nil ka ⟨4, 0, false, dg, 0, ⟨#[]⟩, [], 0⟩ none 0 0 none 0 0 ((w10.setCell ⟨rb, 5, none⟩ (.bool false)).alloc (.cells #[.int .i64 4, .int .u64 0, .bool false, .string dg, .int .i64 0, .string ⟨#[]⟩, .slice none 0 0, .slice none 0 0, .int .i64 0] 31))
      have HPN := phide CPN
      clear CPN
      go_wp2_with fail
      refine (punhide HPN).mono ?_
      rintro e9 w11 ⟨kg, kc, g, cp, rfl, hoK, hoD, hkd, b11⟩
      obtain ⟨hr, hf, hxv, hxz⟩ := punhide HST
      clear HST y1 y5 yf5 v0 v1 v2 v3 v4 v5 v6 v7 v8
      have hlo := punhide HS9
      rw [hlo] at hoK hoD
      have f9 := FrR.of (B := B) (rb := rb) b11 (by rw [hlo]; omega)
      replace hr := hr.below b11
      replace hxv := hxv.frr f9 (by omega)
      replace hxz := hxz.frr f9 (by omega)
      replace hf := hf.trans f9
      clear f9 b11
      have hkl := (hoK.lt kg rfl).1
      have hgl := (hoD.lt g rfl).1
      replace hoK := own_lo hoK (show vb ≤ w10.heap.size + 1 by omega)
      replace hoD := own_lo hoD (show vb ≤ w10.heap.size + 1 by omega)
      have hkr : kg ≠ rb ∧ g ≠ rb ∧ kg ≠ vb ∧ g ≠ vb ∧ vb + 1 < kg ∧ vb + 1 < g := by omega
      clear hkl hgl HS9 hlo hrb6 hv6 hv7
      have v0 := hxv.cell 0
      have v1 := hxv.cell 1
      have v2 := hxv.cell 2
      have v3 := hxv.cell 3
      have v4 := hxv.cell 4
      have v5 := hxv.cell 5
      have v6 := hxv.cell 6
      have v7 := hxv.cell 7
      have v8 := hxv.cell 8
      have vf0 := hxv.free 0
      have vf1 := hxv.free 1
      have vf2 := hxv.free 2
      have vf3 := hxv.free 3
      have vf4 := hxv.free 4
      have vf5 := hxv.free 5
      have vf6 := hxv.free 6
      have vf7 := hxv.free 7
      have vf8 := hxv.free 8
      have yf1 := hr.free 1
      have y0 := hr.cell 0
      have y1 := hr.cell 1
      have y2 := hr.cell 2
      have y3 := hr.cell 3
      have y4 := hr.cell 4
      have y5 := hr.cell 5
      have hfr := (setCells_frame vb [.int .i64 7, .int .u64 0, .bool false, .string ⟨#[]⟩, .int .i64 0, .string ⟨#[]⟩, .slice (some ⟨kg, 0, none⟩) 1 kc, .slice (some ⟨g, 0, none⟩) 1 cp, .int .i64 0] 0 w11).2.2.2.2
      have hxv9 : Bx (w11.setCells vb 0 [.int .i64 7, .int .u64 0, .bool false, .string ⟨#[]⟩, .int .i64 0, .string ⟨#[]⟩, .slice (some ⟨kg, 0, none⟩) 1 kc, .slice (some ⟨g, 0, none⟩) 1 cp, .int .i64 0]) vb #[.int .i64 7, .int .u64 0, .bool false, .string ⟨#[]⟩, .int .i64 0, .string ⟨#[]⟩, .slice (some ⟨kg, 0, none⟩) 1 kc, .slice (some ⟨g, 0, none⟩) 1 cp, .int .i64 0] 31 := Bx.setAll hxv rfl
      replace hr : Rd (w11.setCells vb 0 [.int .i64 7, .int .u64 0, .bool false, .string ⟨#[]⟩, .int .i64 0, .string ⟨#[]⟩, .slice (some ⟨kg, 0, none⟩) 1 kc, .slice (some ⟨g, 0, none⟩) 1 cp, .int .i64 0]) rb S p6 (m + 1) := Bx.setN hr (by omega)
      replace hxz := hxz.setN (vs := [.int .i64 7, .int .u64 0, .bool false, .string ⟨#[]⟩, .int .i64 0, .string ⟨#[]⟩, .slice (some ⟨kg, 0, none⟩) 1 kc, .slice (some ⟨g, 0, none⟩) 1 cp, .int .i64 0]) (show vb ≠ vb + 1 by omega)
      replace hf := FrR.setN hf (show B ≤ vb by omega) (by rw [punhide HVB]; exact Nat.le_refl _) [.int .i64 7, .int .u64 0, .bool false, .string ⟨#[]⟩, .int .i64 0, .string ⟨#[]⟩, .slice (some ⟨kg, 0, none⟩) 1 kc, .slice (some ⟨g, 0, none⟩) 1 cp, .int .i64 0]
      replace hoK := own_at hoK (hfr kg (by omega))
      replace hoD := own_at hoD (hfr g (by omega))
      clear hxv hfr
      have hxv := hxv9
      clear hxv9
      have HST := phide (And.intro hr (And.intro hf (And.intro hxv (And.intro hxz (And.intro hoK hoD)))))
      clear hr hf hxv hxz hoK hoD
      go_wp2_with fail
      refine (punhide HB6 (w11.setCells vb 0 [.int .i64 7, .int .u64 0, .bool false, .string ⟨#[]⟩, .int .i64 0, .string ⟨#[]⟩, .slice (some ⟨kg, 0, none⟩) 1 kc, .slice (some ⟨g, 0, none⟩) 1 cp, .int .i64 0]) (punhide HST).1).mono ?_
      rintro e9 w12 ⟨rfl, hr9, f9⟩
      obtain ⟨hr, hf, hxv, hxz, hoK, hoD⟩ := punhide HST
      clear HST y0 y1 y2 y3 y4 y5 yf1 v0 v1 v2 v3 v4 v5 v6 v7 v8 vf0 vf1 vf2 vf3 vf4 vf5 vf6 vf7 vf8
      clear hr
      have hr := hr9
      replace hxv := hxv.frr f9 (by omega)
      replace hxz := hxz.frr f9 (by omega)
      replace hoK := own_at hoK (f9.2.2 kg (by omega) (hoK.lt kg rfl).2)
      replace hoD := own_at hoD (f9.2.2 g (by omega) (hoD.lt g rfl).2)
      replace hf := hf.trans f9
      clear f9 hr9
      have y0 := hr.cell 0
      have y1 := hr.cell 1
      have y2 := hr.cell 2
      have y3 := hr.cell 3
      have y4 := hr.cell 4
      have y5 := hr.cell 5
      have yf1 := hr.free 1
      have yf5 := hr.free 5
      have v0 := hxv.cell 0
      have v1 := hxv.cell 1
      have v2 := hxv.cell 2
      have v3 := hxv.cell 3
      have v4 := hxv.cell 4
      have v5 := hxv.cell 5
      have v6 := hxv.cell 6
      have v7 := hxv.cell 7
      have v8 := hxv.cell 8
      have vf0 := hxv.free 0
      have vf1 := hxv.free 1
      have vf2 := hxv.free 2
      have vf3 := hxv.free 3
      have vf4 := hxv.free 4
      have vf5 := hxv.free 5
      have vf6 := hxv.free 6
      have vf7 := hxv.free 7
      have vf8 := hxv.free 8
      have z0 := hxz.cell 0
      have z1 := hxz.cell 1
      have z2 := hxz.cell 2
      have z3 := hxz.cell 3
      have z4 := hxz.cell 4
      have z5 := hxz.cell 5
      have z6 := hxz.cell 6
      have z7 := hxz.cell 7
      have z8 := hxz.cell 8
      have HST := phide (And.intro hr (And.intro hf (And.intro hxv (And.intro hxz (And.intro hoK hoD)))))
      clear hr hf hxv hxz hoK hoD
      go_wp2_with fail
      refine (punhide HN6 _ (punhide HST).1).mono ?_
      rintro e9 w13 ⟨rfl, hr9, f9⟩
      obtain ⟨hr, hf, hxv, hxz, hoK, hoD⟩ := punhide HST
      clear HST y0 y1 y2 y3 y4 y5 yf1 yf5 v0 v1 v2 v3 v4 v5 v6 v7 v8 vf0 vf1 vf2 vf3 vf4 vf5 vf6 vf7 vf8 z0 z1 z2 z3 z4 z5 z6 z7 z8
      clear hr
      have hr := hr9
      replace hxv := hxv.frr f9 (by omega)
      replace hxz := hxz.frr f9 (by omega)
      replace hoK := own_at hoK (f9.2.2 kg (by omega) (hoK.lt kg rfl).2)
      replace hoD := own_at hoD (f9.2.2 g (by omega) (hoD.lt g rfl).2)
      replace hf := hf.trans f9
      clear f9 hr9
      have y0 := hr.cell 0
      have y1 := hr.cell 1
      have y2 := hr.cell 2
      have y3 := hr.cell 3
      have y4 := hr.cell 4
      have y5 := hr.cell 5
      have yf1 := hr.free 1
      have yf5 := hr.free 5
      have v0 := hxv.cell 0
      have v1 := hxv.cell 1
      have v2 := hxv.cell 2
      have v3 := hxv.cell 3
      have v4 := hxv.cell 4
      have v5 := hxv.cell 5
      have v6 := hxv.cell 6
      have v7 := hxv.cell 7
      have v8 := hxv.cell 8
      have vf0 := hxv.free 0
      have vf1 := hxv.free 1
      have vf2 := hxv.free 2
      have vf3 := hxv.free 3
      have vf4 := hxv.free 4
      have vf5 := hxv.free 5
      have vf6 := hxv.free 6
      have vf7 := hxv.free 7
      have vf8 := hxv.free 8
      have z0 := hxz.cell 0
      have z1 := hxz.cell 1
      have z2 := hxz.cell 2
      have z3 := hxz.cell 3
      have z4 := hxz.cell 4
      have z5 := hxz.cell 5
      have z6 := hxz.cell 6
      have z7 := hxz.cell 7
      have z8 := hxz.cell 8
      have HST := phide (And.intro hr (And.intro hf (And.intro hxv (And.intro hxz (And.intro hoK hoD)))))
      clear hr hf hxv hxz hoK hoD
      go_upto_region 27 with fail
      obtain ⟨hr, hf, hxv, hxz, hoK, hoD⟩ := punhide HST
      clear HST y0 y1 y2 y3 y4 y5 yf1 yf5 v0 v1 v2 v3 v4 v5 v6 v7 v8 vf0 vf1 vf2 vf3 vf4 vf5 vf6 vf7 vf8 z0 z1 z2 z3 z4 z5 z6 z7 z8
      have f9 := FrR.set (B := B) (rb := rb) w13 hB 1 (.int .i64 ((p6 : Int) + 1))
      have hr9 : Rd (w13.setCell ⟨rb, 1, none⟩ (.int .i64 ((p6 : Int) + 1))) rb S p7 (m + 1) := by rw [punhide HQ7]; exact hr.at' p7
      clear hr
      have hr := hr9
      replace hxv := hxv.frr f9 (by omega)
      replace hxz := hxz.frr f9 (by omega)
      replace hoK := own_at hoK (f9.2.2 kg (by omega) (hoK.lt kg rfl).2)
      replace hoD := own_at hoD (f9.2.2 g (by omega) (hoD.lt g rfl).2)
      replace hf := hf.trans f9
      clear f9 hr9
      generalize (w13.setCell ⟨rb, 1, none⟩ (.int .i64 ((p6 : Int) + 1))) = w14 at *
      have y0 := hr.cell 0
      have y1 := hr.cell 1
      have y2 := hr.cell 2
      have y3 := hr.cell 3
      have y4 := hr.cell 4
      have y5 := hr.cell 5
      have yf1 := hr.free 1
      have yf5 := hr.free 5
      have v0 := hxv.cell 0
      have v1 := hxv.cell 1
      have v2 := hxv.cell 2
      have v3 := hxv.cell 3
      have v4 := hxv.cell 4
      have v5 := hxv.cell 5
      have v6 := hxv.cell 6
      have v7 := hxv.cell 7
      have v8 := hxv.cell 8
      have vf0 := hxv.free 0
      have vf1 := hxv.free 1
      have vf2 := hxv.free 2
      have vf3 := hxv.free 3
      have vf4 := hxv.free 4
      have vf5 := hxv.free 5
      have vf6 := hxv.free 6
      have vf7 := hxv.free 7
      have vf8 := hxv.free 8
      have z0 := hxz.cell 0
      have z1 := hxz.cell 1
      have z2 := hxz.cell 2
      have z3 := hxz.cell 3
      have z4 := hxz.cell 4
      have z5 := hxz.cell 5
      have z6 := hxz.cell 6
      have z7 := hxz.cell 7
      have z8 := hxz.cell 8
      have HST := phide (And.intro hr (And.intro hf (And.intro hxv (And.intro hxz (And.intro hoK hoD)))))
      clear hr hf hxv hxz hoK hoD
      go_wp2_with fail
      go_roundg 0
      case measure => omega
      case rel =>
        obtain ⟨hr, hf, hxv, hxz, hoK, hoD⟩ := punhide HST
        clear HST y0 y1 y2 y3 y4 y5 yf1 yf5 v0 v1 v2 v3 v4 v5 v6 v7 v8 vf0 vf1 vf2 vf3 vf4 vf5 vf6 vf7 vf8 z0 z1 z2 z3 z4 z5 z6 z7 z8
        exact .inr ⟨kg, kc, g, cp, rfl, rfl, hr, hf, hxv, hxz, hoK, hoD, hkd, hkr.2.2.2.2⟩
    · skip
      clear HST y0 y1 y2 y3 y4 y5 yf1 yf5 v0 v1 v2 v3 v4 v5 v6 v7 v8 vf0 vf1 vf2 vf3 vf4 vf5 vf6 vf7 vf8 z0 z1 z2 z3 z4 z5 z6 z7 z8
      have hkr : kg ≠ rb ∧ g ≠ rb ∧ kg ≠ vb ∧ g ≠ vb := by omega
      have y0 := hr.cell 0
      have y1 := hr.cell 1
      have y2 := hr.cell 2
      have y3 := hr.cell 3
      have y4 := hr.cell 4
      have y5 := hr.cell 5
      have yf1 := hr.free 1
      have yf5 := hr.free 5
      have v0 := hxv.cell 0
      have v1 := hxv.cell 1
      have v2 := hxv.cell 2
      have v3 := hxv.cell 3
      have v4 := hxv.cell 4
      have v5 := hxv.cell 5
      have v6 := hxv.cell 6
      have v7 := hxv.cell 7
      have v8 := hxv.cell 8
      have vf0 := hxv.free 0
      have vf1 := hxv.free 1
      have vf2 := hxv.free 2
      have vf3 := hxv.free 3
      have vf4 := hxv.free 4
      have vf5 := hxv.free 5
      have vf6 := hxv.free 6
      have vf7 := hxv.free 7
      have vf8 := hxv.free 8
      have z0 := hxz.cell 0
      have z1 := hxz.cell 1
      have z2 := hxz.cell 2
      have z3 := hxz.cell 3
      have z4 := hxz.cell 4
      have z5 := hxz.cell 5
      have z6 := hxz.cell 6
      have z7 := hxz.cell 7
      have z8 := hxz.cell 8
      have HST := phide (And.intro hr (And.intro hf (And.intro hxv (And.intro hxz (And.intro hoK hoD)))))
      clear hr hf hxv hxz hoK hoD
      go_wp2_with fail
      refine (punhide HB7 _ (punhide HST).1).mono ?_
      rintro e9 w5 ⟨rfl, hr9, f9⟩
      obtain ⟨hr, hf, hxv, hxz, hoK, hoD⟩ := punhide HST
      clear HST y0 y1 y2 y3 y4 y5 yf1 yf5 v0 v1 v2 v3 v4 v5 v6 v7 v8 vf0 vf1 vf2 vf3 vf4 vf5 vf6 vf7 vf8 z0 z1 z2 z3 z4 z5 z6 z7 z8
      clear hr
      have hr := hr9
      replace hxv := hxv.frr f9 (by omega)
      replace hxz := hxz.frr f9 (by omega)
      replace hoK := own_at hoK (f9.2.2 kg (by omega) (hoK.lt kg rfl).2)
      replace hoD := own_at hoD (f9.2.2 g (by omega) (hoD.lt g rfl).2)
      replace hf := hf.trans f9
      clear f9 hr9
      have y0 := hr.cell 0
      have y1 := hr.cell 1
      have y2 := hr.cell 2
      have y3 := hr.cell 3
      have y4 := hr.cell 4
      have y5 := hr.cell 5
      have yf1 := hr.free 1
      have yf5 := hr.free 5
      have v0 := hxv.cell 0
      have v1 := hxv.cell 1
      have v2 := hxv.cell 2
      have v3 := hxv.cell 3
      have v4 := hxv.cell 4
      have v5 := hxv.cell 5
      have v6 := hxv.cell 6
      have v7 := hxv.cell 7
      have v8 := hxv.cell 8
      have vf0 := hxv.free 0
      have vf1 := hxv.free 1
      have vf2 := hxv.free 2
      have vf3 := hxv.free 3
      have vf4 := hxv.free 4
      have vf5 := hxv.free 5
      have vf6 := hxv.free 6
      have vf7 := hxv.free 7
      have vf8 := hxv.free 8
      have z0 := hxz.cell 0
      have z1 := hxz.cell 1
      have z2 := hxz.cell 2
      have z3 := hxz.cell 3
      have z4 := hxz.cell 4
      have z5 := hxz.cell 5
      have z6 := hxz.cell 6
      have z7 := hxz.cell 7
      have z8 := hxz.cell 8
      have HST := phide (And.intro hr (And.intro hf (And.intro hxv (And.intro hxz (And.intro hoK hoD)))))
      clear hr hf hxv hxz hoK hoD
      have hBw9 : B ≤ w5.heap.size := by have := (punhide HST).2.2.1.lt; omega
      go_wp2_with fail
      refine (punhide HQB _ (punhide HST).1 hBw9).mono ?_
      rintro e9 w6 ⟨rfl, hr9, f9⟩
      obtain ⟨hr, hf, hxv, hxz, hoK, hoD⟩ := punhide HST
      clear HST y0 y1 y2 y3 y4 y5 yf1 yf5 v0 v1 v2 v3 v4 v5 v6 v7 v8 vf0 vf1 vf2 vf3 vf4 vf5 vf6 vf7 vf8 z0 z1 z2 z3 z4 z5 z6 z7 z8
      clear hr
      have hr := hr9
      replace hxv := hxv.frr f9 (by omega)
      replace hxz := hxz.frr f9 (by omega)
      replace hoK := own_at hoK (f9.2.2 kg (by omega) (hoK.lt kg rfl).2)
      replace hoD := own_at hoD (f9.2.2 g (by omega) (hoD.lt g rfl).2)
      replace hf := hf.trans f9
      clear f9 hr9 hBw9
      have y0 := hr.cell 0
      have y1 := hr.cell 1
      have y2 := hr.cell 2
      have y3 := hr.cell 3
      have y4 := hr.cell 4
      have y5 := hr.cell 5
      have yf1 := hr.free 1
      have yf5 := hr.free 5
      have v0 := hxv.cell 0
      have v1 := hxv.cell 1
      have v2 := hxv.cell 2
      have v3 := hxv.cell 3
      have v4 := hxv.cell 4
      have v5 := hxv.cell 5
      have v6 := hxv.cell 6
      have v7 := hxv.cell 7
      have v8 := hxv.cell 8
      have vf0 := hxv.free 0
      have vf1 := hxv.free 1
      have vf2 := hxv.free 2
      have vf3 := hxv.free 3
      have vf4 := hxv.free 4
      have vf5 := hxv.free 5
      have vf6 := hxv.free 6
      have vf7 := hxv.free 7
      have vf8 := hxv.free 8
      have z0 := hxz.cell 0
      have z1 := hxz.cell 1
      have z2 := hxz.cell 2
      have z3 := hxz.cell 3
      have z4 := hxz.cell 4
      have z5 := hxz.cell 5
      have z6 := hxz.cell 6
      have z7 := hxz.cell 7
      have z8 := hxz.cell 8
      have HST := phide (And.intro hr (And.intro hf (And.intro hxv (And.intro hxz (And.intro hoK hoD)))))
      clear hr hf hxv hxz hoK hoD
      go_wp2_with fail
      refine (punhide HB10 _ (punhide HST).1).mono ?_
      rintro e9 w7 ⟨rfl, hr9, f9⟩
      obtain ⟨hr, hf, hxv, hxz, hoK, hoD⟩ := punhide HST
      clear HST y0 y1 y2 y3 y4 y5 yf1 yf5 v0 v1 v2 v3 v4 v5 v6 v7 v8 vf0 vf1 vf2 vf3 vf4 vf5 vf6 vf7 vf8 z0 z1 z2 z3 z4 z5 z6 z7 z8
      clear hr
      have hr := hr9
      replace hxv := hxv.frr f9 (by omega)
      replace hxz := hxz.frr f9 (by omega)
      replace hoK := own_at hoK (f9.2.2 kg (by omega) (hoK.lt kg rfl).2)
      replace hoD := own_at hoD (f9.2.2 g (by omega) (hoD.lt g rfl).2)
      replace hf := hf.trans f9
      clear f9 hr9
      have y0 := hr.cell 0
      have y1 := hr.cell 1
      have y2 := hr.cell 2
      have y3 := hr.cell 3
      have y4 := hr.cell 4
      have y5 := hr.cell 5
      have yf1 := hr.free 1
      have yf5 := hr.free 5
      have v0 := hxv.cell 0
      have v1 := hxv.cell 1
      have v2 := hxv.cell 2
      have v3 := hxv.cell 3
      have v4 := hxv.cell 4
      have v5 := hxv.cell 5
      have v6 := hxv.cell 6
      have v7 := hxv.cell 7
      have v8 := hxv.cell 8
      have vf0 := hxv.free 0
      have vf1 := hxv.free 1
      have vf2 := hxv.free 2
      have vf3 := hxv.free 3
      have vf4 := hxv.free 4
      have vf5 := hxv.free 5
      have vf6 := hxv.free 6
      have vf7 := hxv.free 7
      have vf8 := hxv.free 8
      have z0 := hxz.cell 0
      have z1 := hxz.cell 1
      have z2 := hxz.cell 2
      have z3 := hxz.cell 3
      have z4 := hxz.cell 4
      have z5 := hxz.cell 5
      have z6 := hxz.cell 6
      have z7 := hxz.cell 7
      have z8 := hxz.cell 8
      have HST := phide (And.intro hr (And.intro hf (And.intro hxv (And.intro hxz (And.intro hoK hoD)))))
      clear hr hf hxv hxz hoK hoD
      go_wp2_with fail
      refine (punhide HN10 _ (punhide HST).1).mono ?_
      rintro e9 w8 ⟨rfl, hr9, f9⟩
      obtain ⟨hr, hf, hxv, hxz, hoK, hoD⟩ := punhide HST
      clear HST y0 y1 y2 y3 y4 y5 yf1 yf5 v0 v1 v2 v3 v4 v5 v6 v7 v8 vf0 vf1 vf2 vf3 vf4 vf5 vf6 vf7 vf8 z0 z1 z2 z3 z4 z5 z6 z7 z8
      clear hr
      have hr := hr9
      replace hxv := hxv.frr f9 (by omega)
      replace hxz := hxz.frr f9 (by omega)
      replace hoK := own_at hoK (f9.2.2 kg (by omega) (hoK.lt kg rfl).2)
      replace hoD := own_at hoD (f9.2.2 g (by omega) (hoD.lt g rfl).2)
      replace hf := hf.trans f9
      clear f9 hr9
      have y0 := hr.cell 0
      have y1 := hr.cell 1
      have y2 := hr.cell 2
      have y3 := hr.cell 3
      have y4 := hr.cell 4
      have y5 := hr.cell 5
      have yf1 := hr.free 1
      have yf5 := hr.free 5
      have v0 := hxv.cell 0
      have v1 := hxv.cell 1
      have v2 := hxv.cell 2
      have v3 := hxv.cell 3
      have v4 := hxv.cell 4
      have v5 := hxv.cell 5
      have v6 := hxv.cell 6
      have v7 := hxv.cell 7
      have v8 := hxv.cell 8
      have vf0 := hxv.free 0
      have vf1 := hxv.free 1
      have vf2 := hxv.free 2
      have vf3 := hxv.free 3
      have vf4 := hxv.free 4
      have vf5 := hxv.free 5
      have vf6 := hxv.free 6
      have vf7 := hxv.free 7
      have vf8 := hxv.free 8
      have z0 := hxz.cell 0
      have z1 := hxz.cell 1
      have z2 := hxz.cell 2
      have z3 := hxz.cell 3
      have z4 := hxz.cell 4
      have z5 := hxz.cell 5
      have z6 := hxz.cell 6
      have z7 := hxz.cell 7
      have z8 := hxz.cell 8
      have HST := phide (And.intro hr (And.intro hf (And.intro hxv (And.intro hxz (And.intro hoK hoD)))))
      clear hr hf hxv hxz hoK hoD
      go_upto_region 16 with fail
      obtain ⟨hr, hf, hxv, hxz, hoK, hoD⟩ := punhide HST
      clear HST y0 y1 y2 y3 y4 y5 yf1 yf5 v0 v1 v2 v3 v4 v5 v6 v7 v8 vf0 vf1 vf2 vf3 vf4 vf5 vf6 vf7 vf8 z0 z1 z2 z3 z4 z5 z6 z7 z8
      have f9 := FrR.set (B := B) (rb := rb) w8 hB 1 (.int .i64 ((p10 : Int) + 1))
      have hr9 : Rd (w8.setCell ⟨rb, 1, none⟩ (.int .i64 ((p10 : Int) + 1))) rb S p11 (m + 1) := by rw [punhide HQ11]; exact hr.at' p11
      clear hr
      have hr := hr9
      replace hxv := hxv.frr f9 (by omega)
      replace hxz := hxz.frr f9 (by omega)
      replace hoK := own_at hoK (f9.2.2 kg (by omega) (hoK.lt kg rfl).2)
      replace hoD := own_at hoD (f9.2.2 g (by omega) (hoD.lt g rfl).2)
      replace hf := hf.trans f9
      clear f9 hr9
      generalize (w8.setCell ⟨rb, 1, none⟩ (.int .i64 ((p10 : Int) + 1))) = w9 at *
      have hkl := (hoK.lt kg rfl).2
      have hgl := (hoD.lt g rfl).2
      have y0 := hr.cell 0
      have y1 := hr.cell 1
      have y2 := hr.cell 2
      have y3 := hr.cell 3
      have y4 := hr.cell 4
      have y5 := hr.cell 5
      have yf1 := hr.free 1
      have yf5 := hr.free 5
      have v0 := hxv.cell 0
      have v1 := hxv.cell 1
      have v2 := hxv.cell 2
      have v3 := hxv.cell 3
      have v4 := hxv.cell 4
      have v5 := hxv.cell 5
      have v6 := hxv.cell 6
      have v7 := hxv.cell 7
      have v8 := hxv.cell 8
      have vf0 := hxv.free 0
      have vf1 := hxv.free 1
      have vf2 := hxv.free 2
      have vf3 := hxv.free 3
      have vf4 := hxv.free 4
      have vf5 := hxv.free 5
      have vf6 := hxv.free 6
      have vf7 := hxv.free 7
      have vf8 := hxv.free 8
      have z0 := hxz.cell 0
      have z1 := hxz.cell 1
      have z2 := hxz.cell 2
      have z3 := hxz.cell 3
      have z4 := hxz.cell 4
      have z5 := hxz.cell 5
      have z6 := hxz.cell 6
      have z7 := hxz.cell 7
      have z8 := hxz.cell 8
      have HST := phide (And.intro hr (And.intro hf (And.intro hxv (And.intro hxz (And.intro hoK hoD)))))
      clear hr hf hxv hxz hoK hoD
      have hBw9 : B ≤ w9.heap.size := by have := (punhide HST).2.2.1.lt; omega
      have hrb9 := Bx.lt (punhide HST).1
      have hvb9 := (punhide HST).2.2.2.1.lt
      go_wp2_with fail
      refine (punhide HV11 _ (punhide HST).1 hBw9).mono ?_
      rintro e9 w10 ⟨gl, cl, rfl, hr9, f9, hoL⟩
      obtain ⟨hr, hf, hxv, hxz, hoK, hoD⟩ := punhide HST
      clear HST y0 y1 y2 y3 y4 y5 yf1 yf5 v0 v1 v2 v3 v4 v5 v6 v7 v8 vf0 vf1 vf2 vf3 vf4 vf5 vf6 vf7 vf8 z0 z1 z2 z3 z4 z5 z6 z7 z8
      clear hr
      have hr := hr9
      replace hxv := hxv.frr f9 (by omega)
      replace hxz := hxz.frr f9 (by omega)
      replace hoK := own_at hoK (f9.2.2 kg (by omega) (hoK.lt kg rfl).2)
      replace hoD := own_at hoD (f9.2.2 g (by omega) (hoD.lt g rfl).2)
      replace hf := hf.trans f9
      clear f9 hr9 hBw9
      have hll := (hoL.lt gl rfl).1
      have hll2 := (hoL.lt gl rfl).2
      have hlr : gl ≠ rb ∧ gl ≠ kg ∧ gl ≠ g ∧ vb + 1 < gl := by omega
      have hrb6 : rb < w10.heap.size := Bx.lt hr
      have hv6 : vb < w10.heap.size := hxv.lt
      have hv7 : vb + 1 < w10.heap.size := hxz.lt
      have v0 := hxv.cell 0
      have v1 := hxv.cell 1
      have v2 := hxv.cell 2
      have v3 := hxv.cell 3
      have v4 := hxv.cell 4
      have v5 := hxv.cell 5
      have v6 := hxv.cell 6
      have v7 := hxv.cell 7
      have v8 := hxv.cell 8
      have y1 := hr.cell 1
      have y5 := hr.cell 5
      have yf5 := hr.free 5
      have f9 := (FrR.set (B := B) (rb := rb) w10 hB 5 (.bool false)).trans (FrR.of (B := B) (rb := rb) ((Below.refl _ (w10.setCell ⟨rb, 5, none⟩ (.bool false))).alloc (Nat.le_refl _) (.cells #[.int .i64 6, .int .u64 0, .bool false, .string ⟨#[]⟩, .int .i64 0, .string ⟨#[]⟩, .slice none 0 0, .slice (some ⟨gl, 0, none⟩) 1 cl, .int .i64 0] 31)) (by simp only [World.setCell, Array.size_modify]; omega))
      have hr9 : Rd ((w10.setCell ⟨rb, 5, none⟩ (.bool false)).alloc (.cells #[.int .i64 6, .int .u64 0, .bool false, .string ⟨#[]⟩, .int .i64 0, .string ⟨#[]⟩, .slice none 0 0, .slice (some ⟨gl, 0, none⟩) 1 cl, .int .i64 0] 31)) rb S p14 me := (hr.big).below ((Below.refl _ _).alloc (Nat.le_refl _) _)
      replace hxv := hxv.frr f9 (by omega)
      replace hxz := hxz.frr f9 (by omega)
      replace hoK := own_at hoK (f9.2.2 kg (by omega) (hoK.lt kg rfl).2)
      replace hoD := own_at hoD (f9.2.2 g (by omega) (hoD.lt g rfl).2)
      replace hoL := own_at hoL (f9.2.2 gl (by omega) (hoL.lt gl rfl).2)
      replace hf := hf.trans f9
      clear hr
      have hr := hr9
      have hs9 : ((w10.setCell ⟨rb, 5, none⟩ (.bool false)).alloc (.cells #[.int .i64 6, .int .u64 0, .bool false, .string ⟨#[]⟩, .int .i64 0, .string ⟨#[]⟩, .slice none 0 0, .slice (some ⟨gl, 0, none⟩) 1 cl, .int .i64 0] 31)).heap.size = w10.heap.size + 1 := by simp [World.setCell]
      have HST := phide (And.intro hr (And.intro hf (And.intro hxv (And.intro hxz (And.intro hoK (And.intro hoD hoL))))))
      have HS9 := phide hs9
      clear hr9 f9 hs9 hr hf hxv hxz hoK hoD hoL
      have CPN := put_one vb kg kc g cp kb ka [.int .i64 4, .int .u64 0, .bool false, .string dg, .int .i64 0, .string ⟨#[]⟩, .slice none 0 0, .slice none 0 0, .int .i64 0] ⟨6, 0, false, ⟨#[]⟩, 0, ⟨#[]⟩, [], 0⟩ none 0 0 (some ⟨gl, 0, none⟩) 1 cl ((w10.setCell ⟨rb, 5, none⟩ (.bool false)).alloc (.cells #[.int .i64 6, .int .u64 0, .bool false, .string ⟨#[]⟩, .int .i64 0, .string ⟨#[]⟩, .slice none 0 0, .slice (some ⟨gl, 0, none⟩) 1 cl, .int .i64 0] 31)) (by rw [punhide HS9]; omega) hab hkd (punhide HST).2.2.2.2.1 (punhide HST).2.2.2.2.2.1
      have HPN := phide CPN
      clear CPN
      go_wp2_with fail
      refine (punhide HPN).mono ?_
      rintro e9 w11 ⟨kg2, kc2, gg2, cp2, rfl, hoK2, hoD2, hne2, hk2, hg2, b11, hall⟩
      obtain ⟨hr, hf, hxv, hxz, hoK, hoD, hoL⟩ := punhide HST
      clear HST y1 y5 yf5 v0 v1 v2 v3 v4 v5 v6 v7 v8
      have hlo := punhide HS9
      rw [hlo] at hk2 hg2 hall
      replace hr : Rd w11 rb S p14 me := (hall rb (by omega) (by omega) (by omega)).trans hr
      replace hxv : Bx w11 vb #[.int .i64 7, .int .u64 0, .bool false, .string ⟨#[]⟩, .int .i64 0, .string ⟨#[]⟩, .slice (some ⟨kg, 0, none⟩) 1 kc, .slice (some ⟨g, 0, none⟩) 1 cp, .int .i64 0] 31 := (hall vb (by omega) (by omega) (by omega)).trans hxv
      replace hxz : Bx w11 (vb + 1) #[.int .i64 0, .int .u64 0, .bool false, .string ⟨#[]⟩, .int .i64 0, .string ⟨#[]⟩, .slice none 0 0, .slice none 0 0, .int .i64 0] 31 := (hall (vb + 1) (by omega) (by omega) (by omega)).trans hxz
      replace hoL := own_at hoL (hall gl (by omega) (by omega) (by omega))
      replace hf := hf.belowV b11 (show B ≤ vb by omega) (by rw [punhide HVB]; exact Nat.le_refl _)
      have hkr2 : kg2 ≠ rb ∧ gg2 ≠ rb ∧ gl ≠ rb ∧ kg2 ≠ vb ∧ gg2 ≠ vb ∧ gl ≠ vb ∧ kg2 ≠ vb + 1 ∧ gg2 ≠ vb + 1 ∧ gl ≠ vb + 1 ∧ gl ≠ gg2 := by omega
      have hvl : vb ≤ w9.heap.size := by omega
      clear hoK hoD b11 hall hk2 hg2 HS9 hlo hrb6 hv6 hv7 hrb9 hvb9 hkl hgl hll hll2 hlr hkr hk1 hg1 hkd
      have hoK := hoK2
      have hoD := hoD2
      clear hoK2 hoD2
      have v0 := hxv.cell 0
      have v1 := hxv.cell 1
      have v2 := hxv.cell 2
      have v3 := hxv.cell 3
      have v4 := hxv.cell 4
      have v5 := hxv.cell 5
      have v6 := hxv.cell 6
      have v7 := hxv.cell 7
      have v8 := hxv.cell 8
      have vf0 := hxv.free 0
      have vf1 := hxv.free 1
      have vf2 := hxv.free 2
      have vf3 := hxv.free 3
      have vf4 := hxv.free 4
      have vf5 := hxv.free 5
      have vf6 := hxv.free 6
      have vf7 := hxv.free 7
      have vf8 := hxv.free 8
      have yf1 := hr.free 1
      have y0 := hr.cell 0
      have y1 := hr.cell 1
      have y2 := hr.cell 2
      have y3 := hr.cell 3
      have y4 := hr.cell 4
      have y5 := hr.cell 5
      have hfr := (setCells_frame vb [.int .i64 7, .int .u64 0, .bool false, .string ⟨#[]⟩, .int .i64 0, .string ⟨#[]⟩, .slice (some ⟨kg2, 0, none⟩) 2 kc2, .slice (some ⟨gg2, 0, none⟩) 2 cp2, .int .i64 0] 0 w11).2.2.2.2
      have hxv9 : Bx (w11.setCells vb 0 [.int .i64 7, .int .u64 0, .bool false, .string ⟨#[]⟩, .int .i64 0, .string ⟨#[]⟩, .slice (some ⟨kg2, 0, none⟩) 2 kc2, .slice (some ⟨gg2, 0, none⟩) 2 cp2, .int .i64 0]) vb #[.int .i64 7, .int .u64 0, .bool false, .string ⟨#[]⟩, .int .i64 0, .string ⟨#[]⟩, .slice (some ⟨kg2, 0, none⟩) 2 kc2, .slice (some ⟨gg2, 0, none⟩) 2 cp2, .int .i64 0] 31 := Bx.setAll hxv rfl
      replace hr : Rd (w11.setCells vb 0 [.int .i64 7, .int .u64 0, .bool false, .string ⟨#[]⟩, .int .i64 0, .string ⟨#[]⟩, .slice (some ⟨kg2, 0, none⟩) 2 kc2, .slice (some ⟨gg2, 0, none⟩) 2 cp2, .int .i64 0]) rb S p14 me := Bx.setN hr (by omega)
      replace hxz := hxz.setN (vs := [.int .i64 7, .int .u64 0, .bool false, .string ⟨#[]⟩, .int .i64 0, .string ⟨#[]⟩, .slice (some ⟨kg2, 0, none⟩) 2 kc2, .slice (some ⟨gg2, 0, none⟩) 2 cp2, .int .i64 0]) (show vb ≠ vb + 1 by omega)
      replace hf := FrR.setN hf (show B ≤ vb by omega) (by rw [punhide HVB]; exact Nat.le_refl _) [.int .i64 7, .int .u64 0, .bool false, .string ⟨#[]⟩, .int .i64 0, .string ⟨#[]⟩, .slice (some ⟨kg2, 0, none⟩) 2 kc2, .slice (some ⟨gg2, 0, none⟩) 2 cp2, .int .i64 0]
      replace hoK := own_at hoK (hfr kg2 (by omega))
      replace hoD := own_at hoD (hfr gg2 (by omega))
      replace hoL := own_at hoL (hfr gl (by omega))
      clear hxv hfr
      have hxv := hxv9
      clear hxv9
      have HST := phide (And.intro hr (And.intro hf (And.intro hxv (And.intro hxz (And.intro hoK (And.intro hoD hoL))))))
      clear hr hf hxv hxz hoK hoD hoL
      go_wp2_with fail
      refine (punhide HB14 (w11.setCells vb 0 [.int .i64 7, .int .u64 0, .bool false, .string ⟨#[]⟩, .int .i64 0, .string ⟨#[]⟩, .slice (some ⟨kg2, 0, none⟩) 2 kc2, .slice (some ⟨gg2, 0, none⟩) 2 cp2, .int .i64 0]) (punhide HST).1).mono ?_
      rintro e9 w12 ⟨rfl, hr9, f9⟩
      obtain ⟨hr, hf, hxv, hxz, hoK, hoD, hoL⟩ := punhide HST
      clear HST y0 y1 y2 y3 y4 y5 yf1 v0 v1 v2 v3 v4 v5 v6 v7 v8 vf0 vf1 vf2 vf3 vf4 vf5 vf6 vf7 vf8
      clear hr
      have hr := hr9
      replace hxv := hxv.frr f9 (by omega)
      replace hxz := hxz.frr f9 (by omega)
      replace hoK := own_at hoK (f9.2.2 kg2 (by omega) (hoK.lt kg2 rfl).2)
      replace hoD := own_at hoD (f9.2.2 gg2 (by omega) (hoD.lt gg2 rfl).2)
      replace hoL := own_at hoL (f9.2.2 gl (by omega) (hoL.lt gl rfl).2)
      replace hf := hf.trans f9
      clear f9 hr9
      have y0 := hr.cell 0
      have y1 := hr.cell 1
      have y2 := hr.cell 2
      have y3 := hr.cell 3
      have y4 := hr.cell 4
      have y5 := hr.cell 5
      have yf1 := hr.free 1
      have yf5 := hr.free 5
      have v0 := hxv.cell 0
      have v1 := hxv.cell 1
      have v2 := hxv.cell 2
      have v3 := hxv.cell 3
      have v4 := hxv.cell 4
      have v5 := hxv.cell 5
      have v6 := hxv.cell 6
      have v7 := hxv.cell 7
      have v8 := hxv.cell 8
      have z0 := hxz.cell 0
      have z1 := hxz.cell 1
      have z2 := hxz.cell 2
      have z3 := hxz.cell 3
      have z4 := hxz.cell 4
      have z5 := hxz.cell 5
      have z6 := hxz.cell 6
      have z7 := hxz.cell 7
      have z8 := hxz.cell 8
      have HST := phide (And.intro hr (And.intro hf (And.intro hxv (And.intro hxz (And.intro hoK (And.intro hoD hoL))))))
      clear hr hf hxv hxz hoK hoD hoL
      go_wp2_with fail
      refine (punhide HN14 _ (punhide HST).1).mono ?_
      rintro e9 w13 ⟨rfl, hr9, f9⟩
      obtain ⟨hr, hf, hxv, hxz, hoK, hoD, hoL⟩ := punhide HST
      clear HST y0 y1 y2 y3 y4 y5 yf1 yf5 v0 v1 v2 v3 v4 v5 v6 v7 v8 z0 z1 z2 z3 z4 z5 z6 z7 z8
      clear hr
      have hr := hr9
      replace hxv := hxv.frr f9 (by omega)
      replace hxz := hxz.frr f9 (by omega)
      replace hoK := own_at hoK (f9.2.2 kg2 (by omega) (hoK.lt kg2 rfl).2)
      replace hoD := own_at hoD (f9.2.2 gg2 (by omega) (hoD.lt gg2 rfl).2)
      replace hoL := own_at hoL (f9.2.2 gl (by omega) (hoL.lt gl rfl).2)
      replace hf := hf.trans f9
      clear f9 hr9
      have y0 := hr.cell 0
      have y1 := hr.cell 1
      have y2 := hr.cell 2
      have y3 := hr.cell 3
      have y4 := hr.cell 4
      have y5 := hr.cell 5
      have yf1 := hr.free 1
      have yf5 := hr.free 5
      have v0 := hxv.cell 0
      have v1 := hxv.cell 1
      have v2 := hxv.cell 2
      have v3 := hxv.cell 3
      have v4 := hxv.cell 4
      have v5 := hxv.cell 5
      have v6 := hxv.cell 6
      have v7 := hxv.cell 7
      have v8 := hxv.cell 8
      have z0 := hxz.cell 0
      have z1 := hxz.cell 1
      have z2 := hxz.cell 2
      have z3 := hxz.cell 3
      have z4 := hxz.cell 4
      have z5 := hxz.cell 5
      have z6 := hxz.cell 6
      have z7 := hxz.cell 7
      have z8 := hxz.cell 8
      have HST := phide (And.intro hr (And.intro hf (And.intro hxv (And.intro hxz (And.intro hoK (And.intro hoD hoL))))))
      clear hr hf hxv hxz hoK hoD hoL
      go_upto_region 27 with fail
      obtain ⟨hr, hf, hxv, hxz, hoK, hoD, hoL⟩ := punhide HST
      clear HST y0 y1 y2 y3 y4 y5 yf1 yf5 v0 v1 v2 v3 v4 v5 v6 v7 v8 z0 z1 z2 z3 z4 z5 z6 z7 z8
      have f9 := FrR.set (B := B) (rb := rb) w13 hB 1 (.int .i64 ((p14 : Int) + 1))
      have hr9 : Rd (w13.setCell ⟨rb, 1, none⟩ (.int .i64 ((p14 : Int) + 1))) rb S p15 me := by rw [punhide HQ15]; exact hr.at' p15
      clear hr
      have hr := hr9
      replace hxv := hxv.frr f9 (by omega)
      replace hxz := hxz.frr f9 (by omega)
      replace hoK := own_at hoK (f9.2.2 kg2 (by omega) (hoK.lt kg2 rfl).2)
      replace hoD := own_at hoD (f9.2.2 gg2 (by omega) (hoD.lt gg2 rfl).2)
      replace hoL := own_at hoL (f9.2.2 gl (by omega) (hoL.lt gl rfl).2)
      replace hf := hf.trans f9
      clear f9 hr9
      generalize (w13.setCell ⟨rb, 1, none⟩ (.int .i64 ((p14 : Int) + 1))) = w14 at *
      have z0 := hxz.cell 0
      have z1 := hxz.cell 1
      have z2 := hxz.cell 2
      have z3 := hxz.cell 3
      have z4 := hxz.cell 4
      have z5 := hxz.cell 5
      have z6 := hxz.cell 6
      have z7 := hxz.cell 7
      have z8 := hxz.cell 8
      have zf0 := hxz.free 0
      have zf1 := hxz.free 1
      have zf2 := hxz.free 2
      have zf3 := hxz.free 3
      have zf4 := hxz.free 4
      have zf5 := hxz.free 5
      have zf6 := hxz.free 6
      have zf7 := hxz.free 7
      have zf8 := hxz.free 8
      have v0 := hxv.cell 0
      have v1 := hxv.cell 1
      have v2 := hxv.cell 2
      have v3 := hxv.cell 3
      have v4 := hxv.cell 4
      have v5 := hxv.cell 5
      have v6 := hxv.cell 6
      have v7 := hxv.cell 7
      have v8 := hxv.cell 8
      have HRes := phide (res9 w14 (vb + 1) (.int .i64 7) (.int .u64 0) (.bool false) (.string ⟨#[]⟩) (.int .i64 0) (.string ⟨#[]⟩) (.slice (some ⟨kg2, 0, none⟩) 2 kc2) (.slice (some ⟨gg2, 0, none⟩) 2 cp2) (.int .i64 0) (fun r hr => by rw [hxz.cell r, Array.getElem?_eq_getElem (by simpa using hr)]; rfl))
      have hfr := (setCells_frame (vb + 1) [.int .i64 7, .int .u64 0, .bool false, .string ⟨#[]⟩, .int .i64 0, .string ⟨#[]⟩, .slice (some ⟨kg2, 0, none⟩) 2 kc2, .slice (some ⟨gg2, 0, none⟩) 2 cp2, .int .i64 0] 0 w14).2.2.2.2
      have HFIN := phide (And.intro (show Rd (w14.setCells (vb + 1) 0 [.int .i64 7, .int .u64 0, .bool false, .string ⟨#[]⟩, .int .i64 0, .string ⟨#[]⟩, .slice (some ⟨kg2, 0, none⟩) 2 kc2, .slice (some ⟨gg2, 0, none⟩) 2 cp2, .int .i64 0]) rb S p15 me from Bx.setN hr (by omega)) (And.intro (FrR.setN hf (show B ≤ vb + 1 by omega) (by rw [punhide HVB]; omega) [.int .i64 7, .int .u64 0, .bool false, .string ⟨#[]⟩, .int .i64 0, .string ⟨#[]⟩, .slice (some ⟨kg2, 0, none⟩) 2 kc2, .slice (some ⟨gg2, 0, none⟩) 2 cp2, .int .i64 0]) (And.intro (show World.ownsRow _ w.heap.size _ _ _ _ _ from own_lo (own_at hoK (hfr kg2 (by omega))) (by rw [punhide HVB]; exact Nat.le_refl _)) (And.intro (show World.ownsRow _ w.heap.size _ _ _ _ _ from own_lo (own_at hoD (hfr gg2 (by omega))) (by rw [punhide HVB]; exact Nat.le_refl _)) (And.intro (show World.ownsRow _ w.heap.size _ _ _ _ _ from own_lo (own_at hoL (hfr gl (by omega))) (by rw [punhide HVB]; exact hvl)) (And.intro hne2 hkr2.2.2.2.2.2.2.2.2.2))))))
      clear hr hf hxv hxz hoK hoD hoL hfr HPN HQ1 HQ5 HQ7 HQ11 HQ15 HB1 HN1 HQA HB4 HN4 HV5 HB6 HN6 HB7 HQB HB10 HN10 HV11 HB14 HN14 hkr2 hne2
      generalize hzb : vb + 1 = zb at *
      clear hzb hsb
      go_upto_region 28 with fail
      repeat (first | go_guarded | go_step)
      change bodyPost _ _ _ _ _ (w14.setCells zb 0 [.int .i64 7, .int .u64 0, .bool false, .string ⟨#[]⟩, .int .i64 0, .string ⟨#[]⟩, .slice (some ⟨kg2, 0, none⟩) 2 kc2, .slice (some ⟨gg2, 0, none⟩) 2 cp2, .int .i64 0])
      obtain ⟨r0, r1, r2, r3, r4, r5, r6, r7, r8⟩ := punhide HRes
      exact bodyPost_ret (v := .agg #[.int .i64 7, .int .u64 0, .bool false, .string ⟨#[]⟩, .int .i64 0, .string ⟨#[]⟩, .slice (some ⟨kg2, 0, none⟩) 2 kc2, .slice (some ⟨gg2, 0, none⟩) 2 cp2, .int .i64 0]) (by simp [results, Tryd.results83, go_sem, r0, r1, r2, r3, r4, r5, r6, r7, r8]) rfl ⟨kg2, kc2, gg2, cp2, gl, cl, rfl, punhide HFIN⟩
end Go.Proofs.YtppkknmgdahniaaDoor.Pol
/- What is proved here: value of the document's own reader of layer 5 at the list in the laws' example, walked; conditions: none but that the reader lies. -/
namespace Go.Proofs.YtppkknmgdahniaaDoor.Pol
set_option maxRecDepth 100000
open Go.RowKit Go.Proofs.YtppkknmgdahniaaDoor.Nc Go.Proofs.YtppkknmgdahniaaDoor.Np Go.Proofs.YtppkknmgdahniaaDoor.Nq
set_option maxRecDepth 100000
set_option linter.unusedVariables false
set_option linter.unusedSimpArgs false

/-- The text of the example. -/
def headS : ByteArray := ⟨#[123, 34, 97, 34, 58, 49, 44, 34, 98, 34, 58, 91, 50, 93, 125]⟩
theorem head_parse {t : ByteArray} {c : UInt8} (h : Dm.parseL t.data.toList = some (some ⟨false, [c], 0⟩)) (hs : t.size ≤ 800) (W : World) :
    Calls Tryd.prog 35 #[.string t] W fun e w' => e = .returned (.tuple #[.agg #[.bool false, .string ⟨#[c]⟩, .int .i64 0], .int .i64 0]) ∧ Below W.heap.size W w' := by
  have := rparse_any t W hs
  rw [h] at this
  exact this
/-- The rows of the list in the example. -/
def ListP (lo : Nat) (W : World) (ka : Option Addr) (kn kc : Nat) (da : Option Addr) (dn dc : Nat) : Prop :=
  ∃ g, ka = none ∧ kn = 0 ∧ kc = 0 ∧ da = some ⟨g, 0, none⟩ ∧ dn = 1 ∧ W.ownsRow lo 31 9 (.slice (some ⟨g, 0, none⟩) 1 dc) 1 [.int .i64 4, .int .u64 0, .bool false, .string ⟨#[50]⟩, .int .i64 0, .string ⟨#[]⟩, .slice none 0 0, .slice none 0 0, .int .i64 0]
theorem ListP.st (lo : Nat) (W W' : World) (ka : Option Addr) (kn kc : Nat) (da : Option Addr) (dn dc : Nat) (h : ListP lo W ka kn kc da dn dc) (hf : ∀ b, lo ≤ b → b < W.heap.size → W'.heap[b]? = W.heap[b]?) : ListP lo W' ka kn kc da dn dc := by
  obtain ⟨g, h1, h2, h3, h4, h5, h6⟩ := h
  have := h6.lt g rfl
  exact ⟨g, h1, h2, h3, h4, h5, own_at h6 (hf g this.1 this.2)⟩
theorem ListP.mo (lo lo' : Nat) (W : World) (ka : Option Addr) (kn kc : Nat) (da : Option Addr) (dn dc : Nat) (h : ListP lo W ka kn kc da dn dc) (hl : lo' ≤ lo) : ListP lo' W ka kn kc da dn dc := by
  obtain ⟨g, h1, h2, h3, h4, h5, h6⟩ := h
  exact ⟨g, h1, h2, h3, h4, h5, own_lo h6 hl⟩
theorem head_list (B rb : Nat) (hB : B ≤ rb) (w : World) (hR : Rd w rb headS 11 2) (hBw : B ≤ w.heap.size) :
    Calls Tryd.prog 68 #[.pointer (some ⟨rb, 0, none⟩), .int .i64 ((1 : Nat) + 1 : Int)] w fun e w' => ∃ gl cl, e = .returned (.agg #[.int .i64 6, .int .u64 0, .bool false, .string ⟨#[]⟩, .int .i64 0, .string ⟨#[]⟩, .slice none 0 0, .slice (some ⟨gl, 0, none⟩) 1 cl, .int .i64 0]) ∧ Rd w' rb headS 14 4 ∧ FrR B rb w w' ∧
      w'.ownsRow w.heap.size 31 9 (.slice (some ⟨gl, 0, none⟩) 1 cl) 1 [.int .i64 4, .int .u64 0, .bool false, .string ⟨#[50]⟩, .int .i64 0, .string ⟨#[]⟩, .slice none 0 0, .slice none 0 0, .int .i64 0] := by
  have C := value_list B rb headS 11 14 2 4 2 hB (by decide) (by decide) (by decide) (by decide) 91 (by decide +kernel) rfl ListP ListP.st ListP.mo (fun W hR hW => by
    refine (kids_list B rb headS (headS.extract 12 13) ⟨#[50]⟩ 11 12 13 14 3 2 hB (by decide) (by decide) (by decide) rfl rfl rfl (by decide) (by decide) (by decide) 50 (by decide +kernel) (by decide) (by decide) (by decide +kernel) rfl (head_parse (by rfl) (by decide +kernel)) W hR hW).mono ?_
    rintro e w' ⟨g, cp, rfl, h1, h2, h3⟩
    exact ⟨none, 0, 0, some ⟨g, 0, none⟩, 1, cp, rfl, h1, h2, g, rfl, rfl, rfl, rfl, rfl, h3⟩) w hR hBw
  refine C.mono ?_
  rintro e w' ⟨ka, kn, kc, da, dn, dc, rfl, h1, h2, g, rfl, rfl, rfl, rfl, rfl, h3⟩
  exact ⟨g, dc, rfl, h1, h2, h3⟩
end Go.Proofs.YtppkknmgdahniaaDoor.Pol
/- What is proved here: value of the document's own reader of layer 5 at the head of the laws' example, walked; conditions: none but that the reader lies. -/
namespace Go.Proofs.YtppkknmgdahniaaDoor.Pol
set_option maxRecDepth 100000
open Go.RowKit Go.Proofs.YtppkknmgdahniaaDoor.Nc Go.Proofs.YtppkknmgdahniaaDoor.Np Go.Proofs.YtppkknmgdahniaaDoor.Nq
set_option maxRecDepth 100000
set_option linter.unusedVariables false
set_option linter.unusedSimpArgs false

/-- The rows of the example. -/
def ObjP (lo : Nat) (W : World) (ka : Option Addr) (kn kc : Nat) (da : Option Addr) (dn dc : Nat) : Prop :=
  ∃ kg gg gl cl, ka = some ⟨kg, 0, none⟩ ∧ kn = 2 ∧ da = some ⟨gg, 0, none⟩ ∧ dn = 2 ∧ W.ownsRow lo 9 1 (.slice (some ⟨kg, 0, none⟩) 2 kc) 2 [.string ⟨#[97]⟩, .string ⟨#[98]⟩] ∧
    W.ownsRow lo 31 9 (.slice (some ⟨gg, 0, none⟩) 2 dc) 2 ([.int .i64 4, .int .u64 0, .bool false, .string ⟨#[49]⟩, .int .i64 0, .string ⟨#[]⟩, .slice none 0 0, .slice none 0 0, .int .i64 0] ++ [.int .i64 6, .int .u64 0, .bool false, .string ⟨#[]⟩, .int .i64 0, .string ⟨#[]⟩, .slice none 0 0, .slice (some ⟨gl, 0, none⟩) 1 cl, .int .i64 0]) ∧
    W.ownsRow lo 31 9 (.slice (some ⟨gl, 0, none⟩) 1 cl) 1 [.int .i64 4, .int .u64 0, .bool false, .string ⟨#[50]⟩, .int .i64 0, .string ⟨#[]⟩, .slice none 0 0, .slice none 0 0, .int .i64 0] ∧ kg ≠ gg ∧ gl ≠ gg
theorem ObjP.st (lo : Nat) (W W' : World) (ka : Option Addr) (kn kc : Nat) (da : Option Addr) (dn dc : Nat) (h : ObjP lo W ka kn kc da dn dc) (hf : ∀ b, lo ≤ b → b < W.heap.size → W'.heap[b]? = W.heap[b]?) : ObjP lo W' ka kn kc da dn dc := by
  obtain ⟨kg, gg, gl, cl, h1, h2, h3, h4, h5, h6, h7, h8⟩ := h
  have a5 := h5.lt kg rfl
  have a6 := h6.lt gg rfl
  have a7 := h7.lt gl rfl
  exact ⟨kg, gg, gl, cl, h1, h2, h3, h4, own_at h5 (hf kg a5.1 a5.2), own_at h6 (hf gg a6.1 a6.2), own_at h7 (hf gl a7.1 a7.2), h8⟩
theorem ObjP.mo (lo lo' : Nat) (W : World) (ka : Option Addr) (kn kc : Nat) (da : Option Addr) (dn dc : Nat) (h : ObjP lo W ka kn kc da dn dc) (hl : lo' ≤ lo) : ObjP lo' W ka kn kc da dn dc := by
  obtain ⟨kg, gg, gl, cl, h1, h2, h3, h4, h5, h6, h7, h8⟩ := h
  exact ⟨kg, gg, gl, cl, h1, h2, h3, h4, own_lo h5 hl, own_lo h6 hl, own_lo h7 hl, h8⟩
theorem head_value (B rb : Nat) (hB : B ≤ rb) (w : World) (hR : Rd w rb headS 0 0) (hBw : B ≤ w.heap.size) :
    Calls Tryd.prog 68 #[.pointer (some ⟨rb, 0, none⟩), .int .i64 ((1 : Nat) : Int)] w fun e w' => ∃ ka kn kc da dn dc, e = .returned (.agg #[.int .i64 7, .int .u64 0, .bool false, .string ⟨#[]⟩, .int .i64 0, .string ⟨#[]⟩, .slice ka kn kc, .slice da dn dc, .int .i64 0]) ∧ Rd w' rb headS 15 4 ∧ FrR B rb w w' ∧ ObjP w.heap.size w' ka kn kc da dn dc := by
  have hs : headS.size ≤ 1000000 := by decide
  have bl := fun (p c : Nat) (hp : p < headS.size) (hc : (headS[p]'hp).toNat = c) h1 h2 h3 h4 W (k : Nat) hR => blanks_at B rb headS p k hB hs hp c hc h1 h2 h3 h4 W hR
  have nx := fun (p c : Nat) (hp : p < headS.size) (hc : (headS[p]'hp).toNat = c) W (k : Nat) hR => next_at B rb headS p k hB hs hp c hc W hR
  refine value_obj B rb headS 0 15 0 4 1 hB hs (by decide) (by decide) (by decide) 123 (by decide +kernel) rfl ObjP ObjP.st ObjP.mo (fun W hR hW => ?_) w hR hBw
  refine (kids_obj B rb headS ⟨#[49]⟩ ⟨#[50]⟩ ⟨#[97]⟩ ⟨#[98]⟩ 0 1 4 5 6 7 10 11 14 15 1 4 1 hB hs (by decide) (by decide) (by decide) (by decide) (by decide) (by decide) rfl rfl rfl rfl rfl (by decide)
    (bl 1 34 (by decide) (by decide +kernel) (by decide) (by decide) (by decide) (by decide)) (nx 1 34 (by decide) (by decide +kernel))
    (fun W k hR hW => quoted_at B rb headS ⟨#[97]⟩ 1 k 3 hB hs (by decide) (by decide) W hR hW (by decide +kernel))
    (bl 4 58 (by decide) (by decide +kernel) (by decide) (by decide) (by decide) (by decide)) (nx 4 58 (by decide) (by decide +kernel))
    (fun W hR hW => value_num B rb headS (headS.extract 5 6) ⟨#[49]⟩ 5 6 1 2 hB hs (by decide) (by decide) rfl (by decide) (by decide) 49 (by decide +kernel) (by decide) (by decide) (.inl (by decide +kernel)) rfl (head_parse (by rfl) (by decide +kernel)) W hR hW)
    (bl 6 44 (by decide) (by decide +kernel) (by decide) (by decide) (by decide) (by decide)) (nx 6 44 (by decide) (by decide +kernel))
    (bl 7 34 (by decide) (by decide +kernel) (by decide) (by decide) (by decide) (by decide))
    (fun W k hR hW => quoted_at B rb headS ⟨#[98]⟩ 7 k 3 hB hs (by decide) (by decide) W hR hW (by decide +kernel))
    (bl 10 58 (by decide) (by decide +kernel) (by decide) (by decide) (by decide) (by decide)) (nx 10 58 (by decide) (by decide +kernel))
    (fun W hR hW => head_list B rb hB W hR hW)
    (bl 14 125 (by decide) (by decide +kernel) (by decide) (by decide) (by decide) (by decide)) (nx 14 125 (by decide) (by decide +kernel)) W hR hW).mono ?_
  rintro e w' ⟨kg2, kc2, gg2, cp2, gl, cl, rfl, h1, h2, h3, h4, h5, h6, h7⟩
  exact ⟨some ⟨kg2, 0, none⟩, 2, kc2, some ⟨gg2, 0, none⟩, 2, cp2, rfl, h1, h2, kg2, gg2, gl, cl, rfl, rfl, rfl, rfl, h3, h4, h5, h6, h7⟩
end Go.Proofs.YtppkknmgdahniaaDoor.Pol
/- What is proved here: One of the document's own answer for layer 5 at the laws' example, walked; conditions: none. -/
namespace Go.Proofs.YtppkknmgdahniaaDoor.Pol
set_option maxRecDepth 100000
open Go.RowKit Go.Proofs.YtppkknmgdahniaaDoor.Nc Go.Proofs.YtppkknmgdahniaaDoor.Np Go.Proofs.YtppkknmgdahniaaDoor.Nq
set_option maxRecDepth 100000
set_option linter.unusedVariables false
set_option linter.unusedSimpArgs false

theorem cell_drewX (W : World) (a : Addr) : W.drew.cell? a = W.cell? a := rfl
theorem ObjP.drewX {lo : Nat} {W : World} {ka : Option Addr} {kn kc : Nat} {da : Option Addr} {dn dc : Nat} (h : ObjP lo W ka kn kc da dn dc) : ObjP lo W.drew ka kn kc da dn dc := h
theorem Bx.drewX {W : World} {b : Nat} {cs : Array Value} {t : TypeId} (h : Bx W b cs t) : Bx W.drew b cs t := h
set_option maxHeartbeats 4000000 in
theorem head_one (w : World) :
    Calls Tryd.prog 34 #[.string headS] w fun e w' => ∃ ka kn kc da dn dc, e = .returned (.tuple #[.agg #[.int .i64 7, .int .u64 0, .bool false, .string ⟨#[]⟩, .int .i64 0, .string ⟨#[]⟩, .slice ka kn kc, .slice da dn dc, .int .i64 0], .int .i64 15, .int .i64 0]) ∧ Below w.heap.size w w' ∧ ObjP w.heap.size w' ka kn kc da dn dc := by
  obtain ⟨w1, e1, z1, g1, x1⟩ := alloc_facts w #[.int .i64 0, .int .u64 0, .bool false, .string ⟨#[]⟩, .int .i64 0, .string ⟨#[]⟩, .slice none 0 0, .slice none 0 0, .int .i64 0] 31
  obtain ⟨w2, e2, z2, g2, x2⟩ := alloc_facts w1 #[.string headS, .int .i64 0, .int .i64 0, .bool false, .bool false, .bool false] 108
  have hb : Below w.heap.size w w2 := g1.trans (g2.mono (by omega))
  rw [z1] at x2
  have hR : Rd w2 (w.heap.size + 1) headS 0 0 := x2
  have hx2 := x1.below g2
  have hsz : w2.heap.size = w.heap.size + 1 + 1 := by omega
  have CV := head_value w.heap.size (w.heap.size + 1) (Nat.le_succ _) w2 hR (by omega)
  have HCV := phide CV
  have HE : Hid (w.alloc (.cells #[.int .i64 0, .int .u64 0, .bool false, .string ⟨#[]⟩, .int .i64 0, .string ⟨#[]⟩, .slice none 0 0, .slice none 0 0, .int .i64 0] 31) = w1 ∧ w1.alloc (.cells #[.string headS, .int .i64 0, .int .i64 0, .bool false, .bool false, .bool false] 108) = w2) := phide ⟨e1, e2⟩
  have HB := phide hb
  clear CV e1 e2 z1 g1 g2 x1 x2 hb hR z2
  go_enter Tryd.func34, Tryd.ntmps34
  go_upto_region 2 with fail
  rw [(punhide HE).1, (punhide HE).2]
  clear HE
  go_wp2_with fail
  refine (punhide HCV).mono ?_
  rintro e9 w3 ⟨ka, kn, kc, da, dn, dc, rfl, hr3, f3, hP⟩
  have hx3 := hx2.frr f3 (by omega)
  have hb3 : Below w.heap.size w w3 := (punhide HB).trans f3.1
  have hz3 := f3.1.size
  clear hx2 f3 HCV
  have hw3 : w.heap.size + 1 < w3.heap.size := hr3.lt
  have g4 : Below w3.heap.size w3 (w3.alloc (.cells #[.int .i64 7, .int .u64 0, .bool false, .string ⟨#[]⟩, .int .i64 0, .string ⟨#[]⟩, .slice ka kn kc, .slice da dn dc, .int .i64 0] 31)) := (Below.refl _ _).alloc (Nat.le_refl _) _
  have hx6 := Bx.new w3 #[.int .i64 7, .int .u64 0, .bool false, .string ⟨#[]⟩, .int .i64 0, .string ⟨#[]⟩, .slice ka kn kc, .slice da dn dc, .int .i64 0] 31
  have hr4 := hr3.below g4
  have hx4 := hx3.below g4
  have hb4 := below_next hb3 g4
  have hP4 := ObjP.st _ _ (w3.alloc (.cells #[.int .i64 7, .int .u64 0, .bool false, .string ⟨#[]⟩, .int .i64 0, .string ⟨#[]⟩, .slice ka kn kc, .slice da dn dc, .int .i64 0] 31)) _ _ _ _ _ _ hP (fun b h1 h2 => g4.block b h2)
  have y0 := hr4.cell 0
  have y1 := hr4.cell 1
  have y2 := hr4.cell 2
  have y3 := hr4.cell 3
  have y4 := hr4.cell 4
  have y5 := hr4.cell 5
  have z0 := hx4.cell 0
  have zf0 := hx4.free 0
  have v0 := hx6.cell 0
  have z1 := hx4.cell 1
  have zf1 := hx4.free 1
  have v1 := hx6.cell 1
  have z2 := hx4.cell 2
  have zf2 := hx4.free 2
  have v2 := hx6.cell 2
  have z3 := hx4.cell 3
  have zf3 := hx4.free 3
  have v3 := hx6.cell 3
  have z4 := hx4.cell 4
  have zf4 := hx4.free 4
  have v4 := hx6.cell 4
  have z5 := hx4.cell 5
  have zf5 := hx4.free 5
  have v5 := hx6.cell 5
  have z6 := hx4.cell 6
  have zf6 := hx4.free 6
  have v6 := hx6.cell 6
  have z7 := hx4.cell 7
  have zf7 := hx4.free 7
  have v7 := hx6.cell 7
  have z8 := hx4.cell 8
  have zf8 := hx4.free 8
  have v8 := hx6.cell 8
  go_upto_region 3 with fail
  have HSZ := phide hsz
  have HX := phide (And.intro hr4 (And.intro hx4 (And.intro hx6 (And.intro hb4 hP4))))
  have hlt6 : w.heap.size < w3.heap.size := by omega
  clear hr3 hx3 hb3 g4 hx6 hr4 hx4 hb4 hP4 hP hz3
  generalize w3.alloc (.cells #[.int .i64 7, .int .u64 0, .bool false, .string ⟨#[]⟩, .int .i64 0, .string ⟨#[]⟩, .slice ka kn kc, .slice da dn dc, .int .i64 0] 31) = W4 at *
  have HSB : Hid (∀ W, Bx W w3.heap.size #[.int .i64 7, .int .u64 0, .bool false, .string ⟨#[]⟩, .int .i64 0, .string ⟨#[]⟩, .slice ka kn kc, .slice da dn dc, .int .i64 0] 31 → Rd W (w.heap.size + 1) headS 15 4 → (W.cell? ⟨w3.heap.size, 0, none⟩ = some (.int .i64 7) ∧ W.cell? ⟨w3.heap.size, 1, none⟩ = some (.int .u64 0) ∧ W.cell? ⟨w3.heap.size, 2, none⟩ = some (.bool false) ∧ W.cell? ⟨w3.heap.size, 3, none⟩ = some (.string ⟨#[]⟩) ∧ W.cell? ⟨w3.heap.size, 4, none⟩ = some (.int .i64 0) ∧ W.cell? ⟨w3.heap.size, 5, none⟩ = some (.string ⟨#[]⟩) ∧ W.cell? ⟨w3.heap.size, 6, none⟩ = some (.slice ka kn kc) ∧ W.cell? ⟨w3.heap.size, 7, none⟩ = some (.slice da dn dc) ∧ W.cell? ⟨w3.heap.size, 8, none⟩ = some (.int .i64 0) ∧ W.cell? ⟨w.heap.size + 1, 1, none⟩ = some (.int .i64 15))) := phide (fun W h1 h2 => ⟨h1.cell 0, h1.cell 1, h1.cell 2, h1.cell 3, h1.cell 4, h1.cell 5, h1.cell 6, h1.cell 7, h1.cell 8, h2.cell 1⟩)
  go_upto_region 9 with fail
  have hD6 : Bx W4.drew w3.heap.size _ _ := (punhide HX).2.2.1
  have hDr : Rd W4.drew (w.heap.size + 1) headS 15 4 := (punhide HX).1
  have HS0 := phide (punhide HSB _ hD6 hDr)
  have HD6 := phide hD6
  have HDR := phide (show Bx W4.drew (w.heap.size + 1) _ _ from hDr)
  have HR8 := phide (show Bx W4 (w.heap.size + 1) #[.string headS, .int .i64 ((15 : Nat) : Int), .int .i64 ((4 : Nat) : Int), .bool false, .bool false, .bool false] 108 from (punhide HX).1)
  clear hD6 hDr y0 y2 y3 y4 y5 v0 v1 v2 v3 v4 v5 v6 v7 v8 y1 HB hsz
  go_region_held3? (fun W => W.cell? ⟨w3.heap.size, 0, none⟩ = some (.int .i64 7) ∧ W.cell? ⟨w3.heap.size, 1, none⟩ = some (.int .u64 0) ∧ W.cell? ⟨w3.heap.size, 2, none⟩ = some (.bool false) ∧ W.cell? ⟨w3.heap.size, 3, none⟩ = some (.string ⟨#[]⟩) ∧ W.cell? ⟨w3.heap.size, 4, none⟩ = some (.int .i64 0) ∧ W.cell? ⟨w3.heap.size, 5, none⟩ = some (.string ⟨#[]⟩) ∧ W.cell? ⟨w3.heap.size, 6, none⟩ = some (.slice ka kn kc) ∧ W.cell? ⟨w3.heap.size, 7, none⟩ = some (.slice da dn dc) ∧ W.cell? ⟨w3.heap.size, 8, none⟩ = some (.int .i64 0) ∧ W.cell? ⟨w.heap.size + 1, 1, none⟩ = some (.int .i64 15)) (first | with_reducible exact punhide HS0 | exact punhide HSB _ (by repeat (first | with_reducible exact punhide HD6 | with_reducible exact (punhide HX).2.2.1 | with_reducible refine Bx.drewX ?_ | with_reducible refine Bx.setX ?_ (by omega))) (by unfold Rd; repeat (first | with_reducible exact punhide HDR | with_reducible exact punhide HR8 | with_reducible refine Bx.drewX ?_ | with_reducible refine Bx.setX ?_ (by omega)))) (fail)
  all_goals
    have hRes := res9 W4 w.heap.size (.int .i64 7) (.int .u64 0) (.bool false) (.string ⟨#[]⟩) (.int .i64 0) (.string ⟨#[]⟩) (.slice ka kn kc) (.slice da dn dc) (.int .i64 0) (fun r hr => by rw [(punhide HX).2.1.cell r, Array.getElem?_eq_getElem (by simpa using hr)]; rfl)
    have hfr := (setCells_frame w.heap.size [.int .i64 7, .int .u64 0, .bool false, .string ⟨#[]⟩, .int .i64 0, .string ⟨#[]⟩, .slice ka kn kc, .slice da dn dc, .int .i64 0] 0 W4).2.2.2.2
    have HFIN : Hid (Below w.heap.size w ((W4.setCells w.heap.size 0 [.int .i64 7, .int .u64 0, .bool false, .string ⟨#[]⟩, .int .i64 0, .string ⟨#[]⟩, .slice ka kn kc, .slice da dn dc, .int .i64 0]).drew) ∧ ObjP w.heap.size ((W4.setCells w.heap.size 0 [.int .i64 7, .int .u64 0, .bool false, .string ⟨#[]⟩, .int .i64 0, .string ⟨#[]⟩, .slice ka kn kc, .slice da dn dc, .int .i64 0]).drew) ka kn kc da dn dc) := phide ⟨(setCells_below (punhide HX).2.2.2.1 (Nat.le_refl _) 0 _).drew, ObjP.drewX (ObjP.mo _ w.heap.size _ _ _ _ _ _ _ (ObjP.st _ W4 _ _ _ _ _ _ _ (punhide HX).2.2.2.2 (fun b h1 h2 => hfr b (by have := punhide HSZ; omega))) (by have := punhide HSZ; omega))⟩
    have q0 : (((W4.setCells w.heap.size 0 [.int .i64 7, .int .u64 0, .bool false, .string ⟨#[]⟩, .int .i64 0, .string ⟨#[]⟩, .slice ka kn kc, .slice da dn dc, .int .i64 0]).drew)).cell? ⟨w.heap.size, 0, none⟩ = some (.int .i64 7) := (cell_drewX _ _).trans hRes.1
    have q1 : (((W4.setCells w.heap.size 0 [.int .i64 7, .int .u64 0, .bool false, .string ⟨#[]⟩, .int .i64 0, .string ⟨#[]⟩, .slice ka kn kc, .slice da dn dc, .int .i64 0]).drew)).cell? ⟨w.heap.size, 1, none⟩ = some (.int .u64 0) := (cell_drewX _ _).trans hRes.2.1
    have q2 : (((W4.setCells w.heap.size 0 [.int .i64 7, .int .u64 0, .bool false, .string ⟨#[]⟩, .int .i64 0, .string ⟨#[]⟩, .slice ka kn kc, .slice da dn dc, .int .i64 0]).drew)).cell? ⟨w.heap.size, 2, none⟩ = some (.bool false) := (cell_drewX _ _).trans hRes.2.2.1
    have q3 : (((W4.setCells w.heap.size 0 [.int .i64 7, .int .u64 0, .bool false, .string ⟨#[]⟩, .int .i64 0, .string ⟨#[]⟩, .slice ka kn kc, .slice da dn dc, .int .i64 0]).drew)).cell? ⟨w.heap.size, 3, none⟩ = some (.string ⟨#[]⟩) := (cell_drewX _ _).trans hRes.2.2.2.1
    have q4 : (((W4.setCells w.heap.size 0 [.int .i64 7, .int .u64 0, .bool false, .string ⟨#[]⟩, .int .i64 0, .string ⟨#[]⟩, .slice ka kn kc, .slice da dn dc, .int .i64 0]).drew)).cell? ⟨w.heap.size, 4, none⟩ = some (.int .i64 0) := (cell_drewX _ _).trans hRes.2.2.2.2.1
    have q5 : (((W4.setCells w.heap.size 0 [.int .i64 7, .int .u64 0, .bool false, .string ⟨#[]⟩, .int .i64 0, .string ⟨#[]⟩, .slice ka kn kc, .slice da dn dc, .int .i64 0]).drew)).cell? ⟨w.heap.size, 5, none⟩ = some (.string ⟨#[]⟩) := (cell_drewX _ _).trans hRes.2.2.2.2.2.1
    have q6 : (((W4.setCells w.heap.size 0 [.int .i64 7, .int .u64 0, .bool false, .string ⟨#[]⟩, .int .i64 0, .string ⟨#[]⟩, .slice ka kn kc, .slice da dn dc, .int .i64 0]).drew)).cell? ⟨w.heap.size, 6, none⟩ = some (.slice ka kn kc) := (cell_drewX _ _).trans hRes.2.2.2.2.2.2.1
    have q7 : (((W4.setCells w.heap.size 0 [.int .i64 7, .int .u64 0, .bool false, .string ⟨#[]⟩, .int .i64 0, .string ⟨#[]⟩, .slice ka kn kc, .slice da dn dc, .int .i64 0]).drew)).cell? ⟨w.heap.size, 7, none⟩ = some (.slice da dn dc) := (cell_drewX _ _).trans hRes.2.2.2.2.2.2.2.1
    have q8 : (((W4.setCells w.heap.size 0 [.int .i64 7, .int .u64 0, .bool false, .string ⟨#[]⟩, .int .i64 0, .string ⟨#[]⟩, .slice ka kn kc, .slice da dn dc, .int .i64 0]).drew)).cell? ⟨w.heap.size, 8, none⟩ = some (.int .i64 0) := (cell_drewX _ _).trans hRes.2.2.2.2.2.2.2.2
    have HQ := phide (And.intro q0 (And.intro q1 (And.intro q2 (And.intro q3 (And.intro q4 (And.intro q5 (And.intro q6 (And.intro q7 q8))))))))
    clear hRes hfr q0 q1 q2 q3 q4 q5 q6 q7 q8 z0 z1 z2 z3 z4 z5 z6 z7 z8 zf0 zf1 zf2 zf3 zf4 zf5 zf6 zf7 zf8
    change Exit.then _ _ Exit.normal _ ((W4.setCells w.heap.size 0 [.int .i64 7, .int .u64 0, .bool false, .string ⟨#[]⟩, .int .i64 0, .string ⟨#[]⟩, .slice ka kn kc, .slice da dn dc, .int .i64 0]).drew)
    generalize ((W4.setCells w.heap.size 0 [.int .i64 7, .int .u64 0, .bool false, .string ⟨#[]⟩, .int .i64 0, .string ⟨#[]⟩, .slice ka kn kc, .slice da dn dc, .int .i64 0]).drew) = WF9 at *
    repeat (first | go_guarded | go_step)
    obtain ⟨r0, r1, r2, r3, r4, r5, r6, r7, r8⟩ := punhide HQ
    exact bodyPost_ret (v := .tuple #[.agg #[.int .i64 7, .int .u64 0, .bool false, .string ⟨#[]⟩, .int .i64 0, .string ⟨#[]⟩, .slice ka kn kc, .slice da dn dc, .int .i64 0], .int .i64 15, .int .i64 0]) (by simp [results, Tryd.results34, go_sem, r0, r1, r2, r3, r4, r5, r6, r7, r8]) rfl ⟨ka, kn, kc, da, dn, dc, rfl, punhide HFIN⟩
end Go.Proofs.YtppkknmgdahniaaDoor.Pol
