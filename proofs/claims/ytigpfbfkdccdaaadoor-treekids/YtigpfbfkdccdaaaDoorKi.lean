/- What is proved here: what package tree's Clone and Bare make of a value, walked; condition: not too many keys and kids anywhere. -/
import Derived.Test.YtigpfbfkdccdaaaDoorKh
namespace Go.Proofs.YtigpfbfkdccdaaaDoor
open Go.RowKit
set_option linter.unusedVariables false
set_option linter.unusedSimpArgs false

/-- What is known of a box and of the cells of a result, in a later world. -/
theorem res_ready (w : World) (c1 c2 : Array Value) (t1 t2 : TypeId) (W : World) (hB : Below ((w.alloc (.cells c1 t1)).alloc (.cells c2 t2)).heap.size ((w.alloc (.cells c1 t1)).alloc (.cells c2 t2)) W) (h9 : c2.size = 9) :
    (∀ r, r < 9 → (W.cell? ⟨w.heap.size + 1, r, none⟩).isSome = true) ∧ (∀ r, W.frozen? ⟨w.heap.size + 1, r, none⟩ = false) ∧ Below w.heap.size w W ∧ w.heap.size + 1 < W.heap.size := by
  obtain ⟨b1, b2, f1, f2, hz, hB2⟩ := box2 w c1 c2 t1 t2 W hB
  refine ⟨fun r hr => ?_, f2, hB2, hz⟩
  rw [b2 r, Array.getElem?_eq_getElem (by omega)]
  rfl
theorem isSome_some {w : World} {a : Addr} (h : (w.cell? a).isSome = true) : ∃ v, w.cell? a = some v := Option.isSome_iff_exists.1 h
set_option maxHeartbeats 2000000 in
set_option maxRecDepth 1000000 in
theorem clone_any : ∀ (n : Nat) (v : Value) (t : Tr) (w : World), Lies anyB w n v t → okT n t →
    Calls Tryd.prog 31 #[v] w fun e w' => ∃ v', e = .returned v' ∧ Lies (fun b => w.heap.size ≤ b) w' n v' t ∧ Below w.heap.size w w'
  | 0, _, _, _, h, _ => h.elim
  | n + 1, v, t, w, hl, ho => by
    obtain ⟨h, l, ka, kc, da, dc, rfl, rfl, hm64, hkc, hdc, hks, hkid⟩ := hl.node
    have IH := clone_any n
    have C : ∀ W, Below w.heap.size w W → Calls Tryd.prog 61 #[.agg #[.int .i64 h.k, .int .u64 (h.m : Int), .bool h.ng, .string h.dg, .int .i64 h.sc, .string h.tx, .slice ka h.ks.length kc, .slice da l.length dc, .int .i64 h.cd], .func (Fn.func 31) #[] #[]] W
        fun e w' => ∃ v', e = .returned v' ∧ Lies (fun b => W.heap.size ≤ b) w' (n + 1) v' (Tr.mk h l) ∧ Below W.heap.size W w' := by
      intro W hW
      have := eachkid_clone (fun t => t) n _ h l W (hl.below hW) ho.2.1 ho.1 (fun v t W hm hlt => IH v t W hlt (ho.2.2 t hm))
      rwa [List.map_id'] at this
    have HC := khide C
    clear C IH hl ho hks hkid
    go_enter Tryd.func31, Tryd.ntmps31
    go_wp2_with fail
    refine (kunhide HC _ (((Below.refl _ w).alloc (Nat.le_refl _) _).alloc (by simp) _)).mono ?_
    rintro e W ⟨v', rfl, hlv, hB1⟩
    obtain ⟨rs, rf, hB, hz⟩ := res_ready w _ _ _ _ W hB1 rfl
    obtain ⟨hd4, ka4, kn4, kc4, da4, dn4, dc4, rfl⟩ := hlv.shape
    have HRS := khide rs
    obtain ⟨g0, y0⟩ := isSome_some (rs 0 (by omega))
    obtain ⟨g1, y1⟩ := isSome_some (rs 1 (by omega))
    obtain ⟨g2, y2⟩ := isSome_some (rs 2 (by omega))
    obtain ⟨g3, y3⟩ := isSome_some (rs 3 (by omega))
    obtain ⟨g4, y4⟩ := isSome_some (rs 4 (by omega))
    obtain ⟨g5, y5⟩ := isSome_some (rs 5 (by omega))
    obtain ⟨g6, y6⟩ := isSome_some (rs 6 (by omega))
    obtain ⟨g7, y7⟩ := isSome_some (rs 7 (by omega))
    obtain ⟨g8, y8⟩ := isSome_some (rs 8 (by omega))
    have HLV := khide hlv
    have HB := khide hB
    clear rs hlv hB hB1
    go_wp2_with fail
    change bodyPost _ _ _ _ _ (W.setCells (w.heap.size + 1) 0 [.int .i64 hd4.k, .int .u64 (hd4.m : Int), .bool hd4.ng, .string hd4.dg, .int .i64 hd4.sc, .string hd4.tx, .slice ka4 kn4 kc4, .slice da4 dn4 dc4, .int .i64 hd4.cd])
    have hres := res9 W (w.heap.size + 1) (.int .i64 hd4.k) (.int .u64 (hd4.m : Int)) (.bool hd4.ng) (.string hd4.dg) (.int .i64 hd4.sc) (.string hd4.tx) (.slice ka4 kn4 kc4) (.slice da4 dn4 dc4) (.int .i64 hd4.cd) (kunhide HRS)
    have hBV := setCells_below (kunhide HB) (G := w.heap.size + 1) (by omega) 0 [.int .i64 hd4.k, .int .u64 (hd4.m : Int), .bool hd4.ng, .string hd4.dg, .int .i64 hd4.sc, .string hd4.tx, .slice ka4 kn4 kc4, .slice da4 dn4 dc4, .int .i64 hd4.cd]
    have hKV := setCells_kept (ok := fun b => w.heap.size + 2 ≤ b) W (w.heap.size + 1) 0 [.int .i64 hd4.k, .int .u64 (hd4.m : Int), .bool hd4.ng, .string hd4.dg, .int .i64 hd4.sc, .string hd4.tx, .slice ka4 kn4 kc4, .slice da4 dn4 dc4, .int .i64 hd4.cd] (fun b hb e => by omega)
    generalize W.setCells (w.heap.size + 1) 0 [.int .i64 hd4.k, .int .u64 (hd4.m : Int), .bool hd4.ng, .string hd4.dg, .int .i64 hd4.sc, .string hd4.tx, .slice ka4 kn4 kc4, .slice da4 dn4 dc4, .int .i64 hd4.cd] = V at hres hBV hKV ⊢
    obtain ⟨r0, r1, r2, r3, r4, r5, r6, r7, r8⟩ := hres
    refine bodyPost_ret (v := .agg #[.int .i64 hd4.k, .int .u64 (hd4.m : Int), .bool hd4.ng, .string hd4.dg, .int .i64 hd4.sc, .string hd4.tx, .slice ka4 kn4 kc4, .slice da4 dn4 dc4, .int .i64 hd4.cd]) (by simp [results, Tryd.results31, go_sem, r0, r1, r2, r3, r4, r5, r6, r7, r8]) rfl ⟨_, rfl, ?_, hBV⟩
    exact ((kunhide HLV).weak (ok' := fun b => w.heap.size + 2 ≤ b) (fun b _ hb => by simpa using hb)).keep hKV (fun b _ hb => by have hb2 : w.heap.size + 2 ≤ b := hb; show w.heap.size ≤ b; omega)
end Go.Proofs.YtigpfbfkdccdaaaDoor
