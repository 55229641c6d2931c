/- What is proved here: what package tree's Bare and Tidy make of a value, walked; condition: not too many keys and kids anywhere. -/
import Derived.Test.YtigpfbfkdccdaaaDoorKi
import Derived.Deep.RegionWith
namespace Go.Proofs.YtigpfbfkdccdaaaDoor
open Go.RowKit
set_option linter.unusedVariables false
set_option linter.unusedSimpArgs false

set_option maxHeartbeats 2000000 in
set_option maxRecDepth 1000000 in
theorem bare_any : ∀ (n : Nat) (v : Value) (t : Tr) (w : World), Lies anyB w n v t → okT n t →
    Calls Tryd.prog 23 #[v] w fun e w' => ∃ v', e = .returned v' ∧ Lies (fun b => w.heap.size ≤ b) w' n v' (bareT n t) ∧ Below w.heap.size w w'
  | 0, _, _, _, h, _ => h.elim
  | n + 1, v, t, w, hl, ho => by
    obtain ⟨h, l, ka, kc, da, dc, rfl, rfl, hm64, hkc, hdc, hks, hkid⟩ := hl.node
    have IH := bare_any n
    have hl0 : Lies anyB w (n + 1) (.agg #[.int .i64 h.k, .int .u64 0, .bool h.ng, .string h.dg, .int .i64 h.sc, .string h.tx, .slice ka h.ks.length kc, .slice da l.length dc, .int .i64 h.cd]) (Tr.mk { h with m := 0 } l) := Lies.mk (hd := { h with m := 0 }) (show (0 : Nat) < 18446744073709551616 by decide) hkc hdc hks hkid
    have C : ∀ W, Below w.heap.size w W → Calls Tryd.prog 61 #[.agg #[.int .i64 h.k, .int .u64 0, .bool h.ng, .string h.dg, .int .i64 h.sc, .string h.tx, .slice ka h.ks.length kc, .slice da l.length dc, .int .i64 h.cd], .func (Fn.func 23) #[] #[]] W
        fun e w' => ∃ v', e = .returned v' ∧ Lies (fun b => W.heap.size ≤ b) w' (n + 1) v' (bareT (n + 1) (Tr.mk h l)) ∧ Below W.heap.size W w' := by
      intro W hW
      exact eachkid_bare (bareT n) n _ { h with m := 0 } l W (hl0.below hW) ho.2.1 ho.1 (fun v t W hm hlt => IH v t W hlt (ho.2.2 t hm))
    have HC := khide C
    clear C IH hl hl0 ho hks hkid
    go_enter Tryd.func23, Tryd.ntmps23
    go_wp2_with fail
    refine (kunhide HC _ (((Below.refl _ w).alloc (Nat.le_refl _) _).alloc (by simp) _)).mono ?_
    rintro e W ⟨v', rfl, hlv, hB1⟩
    obtain ⟨rs, rf, hB, hz⟩ := res_ready w _ _ _ _ W hB1 rfl
    obtain ⟨hd4, ka4, kn4, kc4, da4, dn4, dc4, rfl⟩ := hlv.shape
    have HRS := khide rs
    obtain ⟨g0, y0⟩ := isSome_some (rs 0 (by omega))
    obtain ⟨g1, y1⟩ := isSome_some (rs 1 (by omega))
    obtain ⟨g2, y2⟩ := isSome_some (rs 2 (by omega))
    obtain ⟨g3, y3⟩ := isSome_some (rs 3 (by omega))
    obtain ⟨g4, y4⟩ := isSome_some (rs 4 (by omega))
    obtain ⟨g5, y5⟩ := isSome_some (rs 5 (by omega))
    obtain ⟨g6, y6⟩ := isSome_some (rs 6 (by omega))
    obtain ⟨g7, y7⟩ := isSome_some (rs 7 (by omega))
    obtain ⟨g8, y8⟩ := isSome_some (rs 8 (by omega))
    have HLV := khide hlv
    have HB := khide hB
    clear rs hlv hB hB1
    go_wp2_with fail
    change bodyPost _ _ _ _ _ (W.setCells (w.heap.size + 1) 0 [.int .i64 hd4.k, .int .u64 (hd4.m : Int), .bool hd4.ng, .string hd4.dg, .int .i64 hd4.sc, .string hd4.tx, .slice ka4 kn4 kc4, .slice da4 dn4 dc4, .int .i64 hd4.cd])
    have hres := res9 W (w.heap.size + 1) (.int .i64 hd4.k) (.int .u64 (hd4.m : Int)) (.bool hd4.ng) (.string hd4.dg) (.int .i64 hd4.sc) (.string hd4.tx) (.slice ka4 kn4 kc4) (.slice da4 dn4 dc4) (.int .i64 hd4.cd) (kunhide HRS)
    have hBV := setCells_below (kunhide HB) (G := w.heap.size + 1) (by omega) 0 [.int .i64 hd4.k, .int .u64 (hd4.m : Int), .bool hd4.ng, .string hd4.dg, .int .i64 hd4.sc, .string hd4.tx, .slice ka4 kn4 kc4, .slice da4 dn4 dc4, .int .i64 hd4.cd]
    have hKV := setCells_kept (ok := fun b => w.heap.size + 2 ≤ b) W (w.heap.size + 1) 0 [.int .i64 hd4.k, .int .u64 (hd4.m : Int), .bool hd4.ng, .string hd4.dg, .int .i64 hd4.sc, .string hd4.tx, .slice ka4 kn4 kc4, .slice da4 dn4 dc4, .int .i64 hd4.cd] (fun b hb e => by omega)
    generalize W.setCells (w.heap.size + 1) 0 [.int .i64 hd4.k, .int .u64 (hd4.m : Int), .bool hd4.ng, .string hd4.dg, .int .i64 hd4.sc, .string hd4.tx, .slice ka4 kn4 kc4, .slice da4 dn4 dc4, .int .i64 hd4.cd] = V at hres hBV hKV ⊢
    obtain ⟨r0, r1, r2, r3, r4, r5, r6, r7, r8⟩ := hres
    refine bodyPost_ret (v := .agg #[.int .i64 hd4.k, .int .u64 (hd4.m : Int), .bool hd4.ng, .string hd4.dg, .int .i64 hd4.sc, .string hd4.tx, .slice ka4 kn4 kc4, .slice da4 dn4 dc4, .int .i64 hd4.cd]) (by simp [results, Tryd.results23, go_sem, r0, r1, r2, r3, r4, r5, r6, r7, r8]) rfl ⟨_, rfl, ?_, hBV⟩
    exact ((kunhide HLV).weak (ok' := fun b => w.heap.size + 2 ≤ b) (fun b _ hb => by simpa using hb)).keep hKV (fun b _ hb => by have hb2 : w.heap.size + 2 ≤ b := hb; show w.heap.size ≤ b; omega)
set_option maxHeartbeats 2000000 in
set_option maxRecDepth 1000000 in
theorem tidy_any : ∀ (n : Nat) (v : Value) (t : Tr) (w : World), Lies anyB w n v t → okT n t → sizeT n t ≤ 1000000 → n ≤ 999999 →
    Calls Tryd.prog 27 #[v] w fun e w' => ∃ v', e = .returned v' ∧ Lies (fun b => w.heap.size ≤ b) w' n v' (tidyT n t) ∧ Below w.heap.size w w'
  | 0, _, _, _, h, _, _, _ => h.elim
  | n + 1, v, t, w, hl, ho, hsz, hn9 => by
    have hl1 := hl
    obtain ⟨h, l, ka, kc, da, dc, rfl, rfl, hm64, hkc, hdc, hks, hkid⟩ := hl.node
    have IH := tidy_any n
    by_cases hm : h.m = 0
    · have heq : tidyT (n + 1) (Tr.mk h l) = Tr.mk h (l.map (tidyT n)) := if_pos hm
      have hmf : ((h.m : Int) == 0) = true := by rw [hm]; rfl
      have hsum : (l.map (sizeT n)).sum ≤ 1000000 := by
        have : 1 + (l.map (sizeT n)).sum ≤ 1000000 := hsz
        omega
      have C : ∀ W, Below w.heap.size w W → Calls Tryd.prog 61 #[.agg #[.int .i64 h.k, .int .u64 (h.m : Int), .bool h.ng, .string h.dg, .int .i64 h.sc, .string h.tx, .slice ka h.ks.length kc, .slice da l.length dc, .int .i64 h.cd], .func (Fn.func 27) #[] #[]] W
          fun e w' => ∃ v', e = .returned v' ∧ Lies (fun b => W.heap.size ≤ b) w' (n + 1) v' (tidyT (n + 1) (Tr.mk h l)) ∧ Below W.heap.size W w' := by
        intro W hW
        rw [heq]
        exact eachkid_tidy (tidyT n) n _ h l W (hl.below hW) ho.2.1 ho.1 (fun v t W hm hlt => IH v t W hlt (ho.2.2 t hm) (Nat.le_trans (by obtain ⟨i, hi, e⟩ := List.getElem_of_mem hm; rw [← e]; exact at_le_sum (sizeT n) l i hi) hsum) (by omega))
      have HC := khide C
      clear C IH hl hl1 ho hks hkid hm heq hsum hsz
      go_enter Tryd.func27, Tryd.ntmps27
      go_wp2_with fail
      refine (kunhide HC _ (((Below.refl _ w).alloc (Nat.le_refl _) _).alloc (by simp) _)).mono ?_
      rintro e W ⟨v', rfl, hlv, hB1⟩
      obtain ⟨rs, rf, hB, hz⟩ := res_ready w _ _ _ _ W hB1 rfl
      obtain ⟨hd4, ka4, kn4, kc4, da4, dn4, dc4, rfl⟩ := hlv.shape
      have HRS := khide rs
      obtain ⟨g0, y0⟩ := isSome_some (rs 0 (by omega))
      obtain ⟨g1, y1⟩ := isSome_some (rs 1 (by omega))
      obtain ⟨g2, y2⟩ := isSome_some (rs 2 (by omega))
      obtain ⟨g3, y3⟩ := isSome_some (rs 3 (by omega))
      obtain ⟨g4, y4⟩ := isSome_some (rs 4 (by omega))
      obtain ⟨g5, y5⟩ := isSome_some (rs 5 (by omega))
      obtain ⟨g6, y6⟩ := isSome_some (rs 6 (by omega))
      obtain ⟨g7, y7⟩ := isSome_some (rs 7 (by omega))
      obtain ⟨g8, y8⟩ := isSome_some (rs 8 (by omega))
      have HLV := khide hlv
      have HB := khide hB
      clear rs hlv hB hB1
      go_wp2_with fail
      change bodyPost _ _ _ _ _ (W.setCells (w.heap.size + 1) 0 [.int .i64 hd4.k, .int .u64 (hd4.m : Int), .bool hd4.ng, .string hd4.dg, .int .i64 hd4.sc, .string hd4.tx, .slice ka4 kn4 kc4, .slice da4 dn4 dc4, .int .i64 hd4.cd])
      have hres := res9 W (w.heap.size + 1) (.int .i64 hd4.k) (.int .u64 (hd4.m : Int)) (.bool hd4.ng) (.string hd4.dg) (.int .i64 hd4.sc) (.string hd4.tx) (.slice ka4 kn4 kc4) (.slice da4 dn4 dc4) (.int .i64 hd4.cd) (kunhide HRS)
      have hBV := setCells_below (kunhide HB) (G := w.heap.size + 1) (by omega) 0 [.int .i64 hd4.k, .int .u64 (hd4.m : Int), .bool hd4.ng, .string hd4.dg, .int .i64 hd4.sc, .string hd4.tx, .slice ka4 kn4 kc4, .slice da4 dn4 dc4, .int .i64 hd4.cd]
      have hKV := setCells_kept (ok := fun b => w.heap.size + 2 ≤ b) W (w.heap.size + 1) 0 [.int .i64 hd4.k, .int .u64 (hd4.m : Int), .bool hd4.ng, .string hd4.dg, .int .i64 hd4.sc, .string hd4.tx, .slice ka4 kn4 kc4, .slice da4 dn4 dc4, .int .i64 hd4.cd] (fun b hb e => by omega)
      generalize W.setCells (w.heap.size + 1) 0 [.int .i64 hd4.k, .int .u64 (hd4.m : Int), .bool hd4.ng, .string hd4.dg, .int .i64 hd4.sc, .string hd4.tx, .slice ka4 kn4 kc4, .slice da4 dn4 dc4, .int .i64 hd4.cd] = V at hres hBV hKV ⊢
      obtain ⟨r0, r1, r2, r3, r4, r5, r6, r7, r8⟩ := hres
      refine bodyPost_ret (v := .agg #[.int .i64 hd4.k, .int .u64 (hd4.m : Int), .bool hd4.ng, .string hd4.dg, .int .i64 hd4.sc, .string hd4.tx, .slice ka4 kn4 kc4, .slice da4 dn4 dc4, .int .i64 hd4.cd]) (by simp [results, Tryd.results27, go_sem, r0, r1, r2, r3, r4, r5, r6, r7, r8]) rfl ⟨_, rfl, ?_, hBV⟩
      exact ((kunhide HLV).weak (ok' := fun b => w.heap.size + 2 ≤ b) (fun b _ hb => by simpa using hb)).keep hKV (fun b _ hb => by have hb2 : w.heap.size + 2 ≤ b := hb; show w.heap.size ≤ b; omega)
    · have heq : tidyT (n + 1) (Tr.mk h l) = withT (deepT (n + 1) (Tr.mk h l)) (bareT (n + 1) (Tr.mk h l)) := if_neg hm
      have hmf : ((h.m : Int) == 0) = false := beq_eq_false_iff_ne.2 (by omega)
      have CB : ∀ W, Below w.heap.size w W → Calls Tryd.prog 23 #[.agg #[.int .i64 h.k, .int .u64 (h.m : Int), .bool h.ng, .string h.dg, .int .i64 h.sc, .string h.tx, .slice ka h.ks.length kc, .slice da l.length dc, .int .i64 h.cd]] W
          fun e w' => ∃ v', e = .returned v' ∧ Lies (fun b => W.heap.size ≤ b) w' (n + 1) v' (bareT (n + 1) (Tr.mk h l)) ∧ Below W.heap.size W w' := fun W hW => bare_any (n + 1) _ _ W (hl.below hW) ho
      have CD : ∀ W, Below w.heap.size w W → Calls Tryd.prog 25 #[.agg #[.int .i64 h.k, .int .u64 (h.m : Int), .bool h.ng, .string h.dg, .int .i64 h.sc, .string h.tx, .slice ka h.ks.length kc, .slice da l.length dc, .int .i64 h.cd]] W
          fun e w' => e = .returned (.int .u64 (deepT (n + 1) (Tr.mk h l) : Int)) ∧ deepT (n + 1) (Tr.mk h l) < 18446744073709551616 ∧ Below W.heap.size W w' := fun W hW => deep_any anyB (n + 1) _ _ W (hl.below hW) hsz hn9
      rw [heq]
      generalize deepT (n + 1) (Tr.mk h l) = D at CD ⊢
      generalize bareT (n + 1) (Tr.mk h l) = T at CB ⊢
      have HCB := khide CB
      have HCD := khide CD
      obtain ⟨O1, hO1⟩ : ∃ O1, Obj.cells #[.int .i64 h.k, .int .u64 (h.m : Int), .bool h.ng, .string h.dg, .int .i64 h.sc, .string h.tx, .slice ka h.ks.length kc, .slice da l.length dc, .int .i64 h.cd] 33 = O1 := ⟨_, rfl⟩
      have hS : Below w.heap.size w w := Below.refl _ _
      clear CB CD IH hl hl1 ho hks hkid hm heq hsz hO1
      go_enter Tryd.func27, Tryd.ntmps27
      go_wp2_with fail
      have hT : Below ((w.alloc (.cells #[.int .i64 h.k, .int .u64 (h.m : Int), .bool h.ng, .string h.dg, .int .i64 h.sc, .string h.tx, .slice ka h.ks.length kc, .slice da l.length dc, .int .i64 h.cd] 33)).alloc (.cells #[.int .i64 0, .int .u64 0, .bool false, .string ⟨#[]⟩, .int .i64 0, .string ⟨#[]⟩, .slice none 0 0, .slice none 0 0, .int .i64 0] 33)).heap.size ((w.alloc (.cells #[.int .i64 h.k, .int .u64 (h.m : Int), .bool h.ng, .string h.dg, .int .i64 h.sc, .string h.tx, .slice ka h.ks.length kc, .slice da l.length dc, .int .i64 h.cd] 33)).alloc (.cells #[.int .i64 0, .int .u64 0, .bool false, .string ⟨#[]⟩, .int .i64 0, .string ⟨#[]⟩, .slice none 0 0, .slice none 0 0, .int .i64 0] 33)) ((w.alloc (.cells #[.int .i64 h.k, .int .u64 (h.m : Int), .bool h.ng, .string h.dg, .int .i64 h.sc, .string h.tx, .slice ka h.ks.length kc, .slice da l.length dc, .int .i64 h.cd] 33)).alloc (.cells #[.int .i64 0, .int .u64 0, .bool false, .string ⟨#[]⟩, .int .i64 0, .string ⟨#[]⟩, .slice none 0 0, .slice none 0 0, .int .i64 0] 33)).drew := (Below.refl _ _).drew
      have HT0 := khide hT
      obtain ⟨p1, p2, p3, p4, hz, hS⟩ := box2 w _ _ _ _ _ hT
      clear p1 p2 p3 p4
      go_region_with (first
        | (go_at_call 23; refine (kunhide HCB _ hS).mono ?_; rintro e w1 ⟨v1, rfl, hl1, hb1⟩; replace hl1 := hl1.weak (ok' := fun b => w.heap.size + 2 ≤ b) (fun b _ hb => (show w.heap.size + 2 ≤ b by omega)); replace hT := hT.trans (hb1.mono hT.size); (try clear b1 b2 f1 f2); clear hz hS; obtain ⟨b1, b2, f1, f2, hz, hS⟩ := box2 w _ _ _ _ _ hT; clear hb1)
        | (go_at_call 25; refine (kunhide HCD _ hS).mono ?_; rintro e w2 ⟨rfl, hd9, hb2⟩; (first | (replace hl1 := Lies.below hb2 hl1) | skip); replace hT := hT.trans (hb2.mono hT.size); (try clear b1 b2 f1 f2); clear hz hS; obtain ⟨b1, b2, f1, f2, hz, hS⟩ := box2 w _ _ _ _ _ hT; clear hb2)
        | (go_at_call 24; refine (with_any _ (n + 1) v1 T D _ hl1 hd9).mono ?_; rintro e w3 ⟨v2, rfl, hl2, hb3⟩; replace hT := hT.trans (hb3.mono hT.size); clear b1 b2 f1 f2 hz hS; obtain ⟨b1, b2, f1, f2, hz, hS⟩ := box2 w _ _ _ _ _ hT; obtain ⟨hd4, ka4, kn4, kc4, da4, dn4, dc4, rfl⟩ := hl2.shape; clear hb3 hl1))
      all_goals
        have rs : ∀ r, r < 9 → (w3.cell? ⟨w.heap.size + 1, r, none⟩).isSome = true := fun r hr => (by rw [b2 r, Array.getElem?_eq_getElem (by simpa using hr)]; rfl)
        have HRS := khide rs
        have HLV := khide hl2
        have HB := khide hS
        clear rs hl2 hS hT b1 b2 f1 f2
        go_wp2_with fail
        change bodyPost _ _ _ _ _ (w3.setCells (w.heap.size + 1) 0 [.int .i64 hd4.k, .int .u64 (hd4.m : Int), .bool hd4.ng, .string hd4.dg, .int .i64 hd4.sc, .string hd4.tx, .slice ka4 kn4 kc4, .slice da4 dn4 dc4, .int .i64 hd4.cd])
        have hres := res9 w3 (w.heap.size + 1) (.int .i64 hd4.k) (.int .u64 (hd4.m : Int)) (.bool hd4.ng) (.string hd4.dg) (.int .i64 hd4.sc) (.string hd4.tx) (.slice ka4 kn4 kc4) (.slice da4 dn4 dc4) (.int .i64 hd4.cd) (kunhide HRS)
        have hBV := setCells_below (kunhide HB) (G := w.heap.size + 1) (by omega) 0 [.int .i64 hd4.k, .int .u64 (hd4.m : Int), .bool hd4.ng, .string hd4.dg, .int .i64 hd4.sc, .string hd4.tx, .slice ka4 kn4 kc4, .slice da4 dn4 dc4, .int .i64 hd4.cd]
        have hKV := setCells_kept (ok := fun b => w.heap.size + 2 ≤ b) w3 (w.heap.size + 1) 0 [.int .i64 hd4.k, .int .u64 (hd4.m : Int), .bool hd4.ng, .string hd4.dg, .int .i64 hd4.sc, .string hd4.tx, .slice ka4 kn4 kc4, .slice da4 dn4 dc4, .int .i64 hd4.cd] (fun b hb e => by omega)
        generalize w3.setCells (w.heap.size + 1) 0 [.int .i64 hd4.k, .int .u64 (hd4.m : Int), .bool hd4.ng, .string hd4.dg, .int .i64 hd4.sc, .string hd4.tx, .slice ka4 kn4 kc4, .slice da4 dn4 dc4, .int .i64 hd4.cd] = V at hres hBV hKV ⊢
        obtain ⟨r0, r1, r2, r3, r4, r5, r6, r7, r8⟩ := hres
        refine bodyPost_ret (v := .agg #[.int .i64 hd4.k, .int .u64 (hd4.m : Int), .bool hd4.ng, .string hd4.dg, .int .i64 hd4.sc, .string hd4.tx, .slice ka4 kn4 kc4, .slice da4 dn4 dc4, .int .i64 hd4.cd]) (by simp [results, Tryd.results27, go_sem, r0, r1, r2, r3, r4, r5, r6, r7, r8]) rfl ⟨_, rfl, ?_, hBV⟩
        exact (kunhide HLV).keep hKV (fun b _ hb => by have hb2 : w.heap.size + 2 ≤ b := hb; show w.heap.size ≤ b; omega)
end Go.Proofs.YtigpfbfkdccdaaaDoor
