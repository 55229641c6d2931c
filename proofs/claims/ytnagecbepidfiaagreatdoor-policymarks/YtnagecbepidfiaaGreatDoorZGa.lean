/- What is proved here: PolicyMarks, walked; conditions: the tables and the two errors lie, the policy and the items lie. Written by marks8_gen.py. -/
import Derived.Test.YtnagecbepidfiaaGreatDoorZHh
import Derived.Test.YtnagecbepidfiaaGreatDoorZHf
import Derived.Test.YtnagecbepidfiaaGreatDoorZHe
import Derived.Test.YtnagecbepidfiaaGreatDoorZHa
namespace Go.Proofs.YtnagecbepidfiaaGreatDoor.Pol
set_option maxRecDepth 100000
open Go.RowKit Go.Proofs.YtnagecbepidfiaaGreatDoor.Nc Go.Proofs.YtnagecbepidfiaaGreatDoor.Np Go.Proofs.YtnagecbepidfiaaGreatDoor.Nq
set_option linter.unusedVariables false
set_option linter.unusedSimpArgs false

set_option maxHeartbeats 8000000 in
theorem marks8 (v : Value) (p : Po) (a0 : Option Addr) (n0 c0 : Nat) (w : World) (hn0 : n0 ≤ 140737488355328) (hit : ∀ i, i < n0 → i < 80 → ItemAt w a0 i) (hI : PolIn w v p) (hT : Tabs w) (hP : Pow w) (hE : Errs w) :
    Calls Tryz.prog 5 #[v, .slice a0 n0 c0] w fun e w' => e = .returned (.bool true) ∧ Below w.heap.size w w' := by
  have HIT := phide hit
  have HI0 := phide hI
  obtain ⟨a, n, c, b, m, d, tok, rfl, htok, hC, hM⟩ := hI
  have CF := fun W h => few8c (.agg #[.slice a n c, .slice b m d, .string tok, .int .i64 p.fuel, .int .i64 p.quota]) p W h
  have b1 : Below w.heap.size w (w.alloc (.cells #[.slice a n c, .slice b m d, .string tok, .int .i64 p.fuel, .int .i64 p.quota] 25)) := (Below.refl _ _).alloc (Nat.le_refl _) _
  have f1 := Five.new w (.slice a n c) (.slice b m d) (.string tok) (.int .i64 p.fuel) (.int .i64 p.quota) 25
  have HT : Hid (∀ W, Below w.heap.size w W → Tabs W ∧ Pow W ∧ Errs W) := phide (fun W hB => ⟨tabs_step hT hB, hP.next hB, Errs.next hE hB⟩)
  clear hT hP hE hC hM htok hit
  go_enter Tryz.func5, Tryz.ntmps5
  go_wp2_with fail
  refine (shown8 _ (punhide HT _ b1).1 (punhide HT _ b1).2.1 (punhide HT _ b1).2.2).mono ?_
  rintro e W1 ⟨rfl, b2⟩
  have hI1 := (punhide HI0).step b1 |>.step b2
  have f2 := f1.step b2
  have hB2 := b1.trans (b2.mono b1.size)
  clear b1 b2 f1
  obtain ⟨hl2, x0, x1, x2, x3, x4, -⟩ := id f2
  go_wp2_with fail
  refine (CF _ hI1).mono ?_
  rintro e W2 ⟨b3, v', p', rfl, hI2, hroom, hbnd⟩
  clear CF hI1 HI0 x0 x1 x2 x3 x4
  have f3 := f2.step b3
  have hB3 := hB2.trans (b3.mono hB2.size)
  obtain ⟨a', n', c', b', m', d', tok', rfl, htok, hC, hM⟩ := hI2
  have HRM := phide (MRoom.of hroom)
  clear hroom
  have hI3 : PolF W2 W1.heap.size (.agg #[.slice a' n' c', .slice b' m' d', .string tok', .int .i64 p'.fuel, .int .i64 p'.quota]) p' := ⟨a', n', c', b', m', d', tok', rfl, htok, hC, hM⟩
  have p1 := (f3.put (.slice a' n' c')).1
  have p2 := (p1.put (.slice b' m' d')).2.1
  have p3 := (p2.put (.string tok')).2.2.1
  have p4 := (p3.put (.int .i64 p'.fuel)).2.2.2.1
  have p5 := (p4.put (.int .i64 p'.quota)).2.2.2.2
  have hkr : ∀ (W : World) (i : Nat) (u : Value), Kp W1.heap.size none W (W.setCell ⟨w.heap.size, i, none⟩ u) := fun W i u => Kp.of_set _ _ hl2
  have hI5 := hI3.keep (((((hkr W2 0 (.slice a' n' c')).trans (hkr _ 1 (.slice b' m' d'))).trans (hkr _ 2 (.string tok'))).trans (hkr _ 3 (.int .i64 p'.fuel))).trans (hkr _ 4 (.int .i64 p'.quota)))
  have hB5 := ((((hB3.setCell (p := ⟨w.heap.size, 0, none⟩) (Nat.le_refl _) (.slice a' n' c')).setCell (p := ⟨w.heap.size, 1, none⟩) (Nat.le_refl _) (.slice b' m' d')).setCell (p := ⟨w.heap.size, 2, none⟩) (Nat.le_refl _) (.string tok')).setCell (p := ⟨w.heap.size, 3, none⟩) (Nat.le_refl _) (.int .i64 p'.fuel)).setCell (p := ⟨w.heap.size, 4, none⟩) (Nat.le_refl _) (.int .i64 p'.quota)
  have y0 := f3.c0
  have y1 := f3.c1
  have y2 := f3.c2
  have y3 := f3.c3
  have y4 := f3.c4
  have g0 := f3.f 0
  have g1 := f3.f 1
  have g2 := f3.f 2
  have g3 := f3.f 3
  have g4 := f3.f 4
  have z1 := p1.c1
  have z2 := p2.c2
  have z3 := p3.c3
  have z4 := p4.c4
  have h5 := hI5.is
  clear htok hC hM f2 hB2 b3 hI3 hI5 hkr p1 p2 p3 p4 hB3 hl2
  go_upto_region 3 with fail
  clear y0 y1 y2 y3 y4 g0 g1 g2 g3 g4 z1 z2 z3 z4 f3
  generalize ((((W2.setCell ⟨w.heap.size, 0, none⟩ (.slice a' n' c')).setCell ⟨w.heap.size, 1, none⟩ (.slice b' m' d')).setCell ⟨w.heap.size, 2, none⟩ (.string tok')).setCell ⟨w.heap.size, 3, none⟩ (.int .i64 p'.fuel)).setCell ⟨w.heap.size, 4, none⟩ (.int .i64 p'.quota) = W5 at *
  obtain ⟨q, hq⟩ : ∃ q, mayP p' = q := ⟨_, rfl⟩
  have CM := fun W hI => rmay8_any (.agg #[.slice a' n' c', .slice b' m' d', .string tok', .int .i64 p'.fuel, .int .i64 p'.quota]) p' q hq (by have := hbnd.cats; omega) (fun x hx => by have := hbnd.names x hx; omega) (by have := hbnd.marks; omega) hbnd.paths8 (by have := hbnd.token; omega) W hI
  have HQ := phide hq
  clear hq
  obtain ⟨hl5, x0, x1, x2, x3, x4, -⟩ := id p5
  have HB5 := phide hB5
  have HP5 := phide (And.intro p5 h5)
  clear p5 hl5 hB5
  go_wp2_with fail
  refine (CM _ h5).mono ?_
  rintro e W6 ⟨rfl, b6⟩
  clear CM h5 x0 x1 x2 x3 x4
  obtain ⟨p5, h5⟩ := punhide HP5
  have h6 := h5.step b6
  have p6 := p5.step b6
  have hB6 := (punhide HB5).trans (b6.mono (punhide HB5).size)
  clear b6 p5 h5 HP5 HB5
  by_cases hq0 : q = 0
  case neg =>
    have d1 : (q == 0) = false := by simp [hq0]
    clear h6 p6 hbnd
    go_wp2_with fail
    go_ret
    exact ⟨rfl, hB6⟩
  case pos =>
  subst hq0
  have HOK := phide (ok_of (punhide HQ))
  have HB := phide hbnd
  have H6 := phide (And.intro hB6 (And.intro h6 p6))
  clear HQ hbnd hB6 h6 p6
  go_wp2_with fail
  refine (built_any a0 n0 c0 W6 hn0 (fun i hi h8 => (punhide HIT i hi h8).below (punhide H6).1)).mono ?_
  rintro e W7 ⟨vt, t, rfl, hl, hg, hs, b7⟩
  obtain ⟨hd4, ka4, kn4, kc4, da4, dn4, dc4, rfl⟩ := hl.shape
  have hok := good_ok 100 t hg
  obtain ⟨hB6, h6, p6⟩ := punhide H6
  have al : Below W7.heap.size W7 (W7.alloc (.cells #[.int .i64 hd4.k, .int .u64 (hd4.m : Int), .bool hd4.ng, .string hd4.dg, .int .i64 hd4.sc, .string hd4.tx, .slice ka4 kn4 kc4, .slice da4 dn4 dc4, .int .i64 hd4.cd] 42)) := (Below.refl _ _).alloc (Nat.le_refl _) _
  have hB7 := (hB6.trans (b7.mono hB6.size)).trans (al.mono (Nat.le_trans hB6.size b7.size))
  have p7 := (p6.step b7).step al
  have h7 := (h6.step b7).step al
  have l7 := hl.any.below al
  have k7 : Box (W7.alloc (.cells #[.int .i64 hd4.k, .int .u64 (hd4.m : Int), .bool hd4.ng, .string hd4.dg, .int .i64 hd4.sc, .string hd4.tx, .slice ka4 kn4 kc4, .slice da4 dn4 dc4, .int .i64 hd4.cd] 42)) W7.heap.size #[.int .i64 hd4.k, .int .u64 (hd4.m : Int), .bool hd4.ng, .string hd4.dg, .int .i64 hd4.sc, .string hd4.tx, .slice ka4 kn4 kc4, .slice da4 dn4 dc4, .int .i64 hd4.cd] := Box.new _ _ _
  have H7 := phide (And.intro hB7 (And.intro p7 (And.intro h7 (And.intro l7 k7))))
  clear hB6 h6 p6 al hB7 p7 h7 l7 k7 hl hg hs b7 H6
  go_upto_region 6 with fail
  obtain ⟨hB7, p7, h7, l7, k7⟩ := punhide H7
  clear H7
  generalize hWB : W7.heap.size = vb at *
  generalize W7.alloc (.cells #[.int .i64 hd4.k, .int .u64 (hd4.m : Int), .bool hd4.ng, .string hd4.dg, .int .i64 hd4.sc, .string hd4.tx, .slice ka4 kn4 kc4, .slice da4 dn4 dc4, .int .i64 hd4.cd] 42) = W8 at *
  clear hWB
  obtain ⟨hl5, x0, x1, x2, x3, x4, -⟩ := id p7
  obtain ⟨y0, y1, y2, y3, y4, y5, y6, y7, y8⟩ := box_nine k7 (Below.refl _ _)
  obtain ⟨T, hT⟩ : ∃ T, labelT p'.marks 100 [] t = T := ⟨_, rfl⟩
  have hBn := punhide HB
  have CL := fun W hI hl => label_any 100 (by decide) (.agg #[.slice a' n' c', .slice b' m' d', .string tok', .int .i64 p'.fuel, .int .i64 p'.quota]) (.agg #[.int .i64 hd4.k, .int .u64 (hd4.m : Int), .bool hd4.ng, .string hd4.dg, .int .i64 hd4.sc, .string hd4.tx, .slice ka4 kn4 kc4, .slice da4 dn4 dc4, .int .i64 hd4.cd]) p' t (by have := hBn.marks; omega) hBn.paths8 W hI hl hok
  rw [hT] at CL
  have HT2 := phide hT
  have H8 := phide (And.intro hB7 (And.intro p7 (And.intro h7 (And.intro l7 k7))))
  have HOKT := phide hok
  clear hT hB7 p7 hl5 hok hBn k7
  go_wp2_with fail
  refine (CL _ h7 l7).mono ?_
  rintro e W9 ⟨v9, rfl, hl9, b9⟩
  clear CL h7 l7 x0 x1 x2 x3 x4 y0 y1 y2 y3 y4 y5 y6 y7 y8
  obtain ⟨hd5, ka5, kn5, kc5, da5, dn5, dc5, rfl⟩ := hl9.shape
  obtain ⟨hB8, p8, h8, l8, k8⟩ := punhide H8
  have al : Below W9.heap.size W9 (W9.alloc (.cells #[.int .i64 hd5.k, .int .u64 (hd5.m : Int), .bool hd5.ng, .string hd5.dg, .int .i64 hd5.sc, .string hd5.tx, .slice ka5 kn5 kc5, .slice da5 dn5 dc5, .int .i64 hd5.cd] 42)) := (Below.refl _ _).alloc (Nat.le_refl _) _
  have hBX := (hB8.trans (b9.mono hB8.size)).trans (al.mono (Nat.le_trans hB8.size b9.size))
  have pX := (p8.step b9).step al
  have hX := (h8.step b9).step al
  have lv := (l8.below b9).below al
  have la := hl9.any.below al
  have kv := (k8.kept (ok := anyB) (Kept.of_below b9) trivial).kept (ok := anyB) (Kept.of_below al) trivial
  have ka : Box (W9.alloc (.cells #[.int .i64 hd5.k, .int .u64 (hd5.m : Int), .bool hd5.ng, .string hd5.dg, .int .i64 hd5.sc, .string hd5.tx, .slice ka5 kn5 kc5, .slice da5 dn5 dc5, .int .i64 hd5.cd] 42)) W9.heap.size #[.int .i64 hd5.k, .int .u64 (hd5.m : Int), .bool hd5.ng, .string hd5.dg, .int .i64 hd5.sc, .string hd5.tx, .slice ka5 kn5 kc5, .slice da5 dn5 dc5, .int .i64 hd5.cd] := Box.new _ _ _
  have HX := phide (And.intro hBX (And.intro pX (And.intro hX (And.intro lv (And.intro la (And.intro kv ka))))))
  clear hB8 p8 h8 l8 k8 al hBX pX hX lv la kv ka hl9 b9 H8
  go_upto_region 7 with fail
  obtain ⟨hBX, pX, hX, lv, la, kv, ka⟩ := punhide HX
  clear HX
  generalize hWA : W9.heap.size = ab at *
  generalize W9.alloc (.cells #[.int .i64 hd5.k, .int .u64 (hd5.m : Int), .bool hd5.ng, .string hd5.dg, .int .i64 hd5.sc, .string hd5.tx, .slice ka5 kn5 kc5, .slice da5 dn5 dc5, .int .i64 hd5.cd] 42) = X0 at *
  clear hWA
  have hok := punhide HOKT
  have hT := punhide HT2
  have hBn := punhide HB
  have hokT : okT 100 T := by rw [← hT]; exact ok_label _ _ _ _ hok
  have hbT : bareT 100 T = bareT 100 t := by rw [← hT]; exact bare_label _ _ _ _
  have HSP := phide (fun (W : World) (hW : Below X0.heap.size X0 W) => pX.step hW)
  have HSV := phide (fun (W : World) (hW : Below X0.heap.size X0 W) => box_nine kv hW)
  have HSA := phide (fun (W : World) (hW : Below X0.heap.size X0 W) => box_nine ka hW)
  have HPI := phide (fun (W : World) (hW : Below X0.heap.size X0 W) => hX.step hW)
  have HPT := phide (fun (W : World) (hW : Below X0.heap.size X0 W) => (hX.step hW).parts)
  have HLV := phide (fun (W : World) (hW : Below X0.heap.size X0 W) => lv.below hW)
  have HLA := phide (fun (W : World) (hW : Below X0.heap.size X0 W) => la.below hW)
  have HBV := phide (fun (W : World) (hW : Below X0.heap.size X0 W) => rbare_any anyB 100 _ _ W (lv.below hW) hok)
  have HBA : Hid (∀ W : World, Below X0.heap.size X0 W → Calls Tryz.prog 21 #[.agg #[.int .i64 hd5.k, .int .u64 (hd5.m : Int), .bool hd5.ng, .string hd5.dg, .int .i64 hd5.sc, .string hd5.tx, .slice ka5 kn5 kc5, .slice da5 dn5 dc5, .int .i64 hd5.cd]] W fun e w' => ∃ v', e = .returned v' ∧ Lies (orNew anyB W.heap.size) w' 100 v' (bareT 100 t) ∧ Below W.heap.size W w') := phide (fun (W : World) (hW : Below X0.heap.size X0 W) => by
    have h := rbare_any anyB 100 _ _ W (la.below hW) hokT
    rw [hbT] at h
    exact h)
  have HLB : Hid (∀ (W : World) (v6 : Value), Below X0.heap.size X0 W → Lies anyB W 100 v6 (bareT 100 t) → Calls Tryz.prog 19 #[(.agg #[.slice a' n' c', .slice b' m' d', .string tok', .int .i64 p'.fuel, .int .i64 p'.quota]), v6] W fun e w' => ∃ v', e = .returned v' ∧ Lies (fun b => W.heap.size ≤ b) w' 100 v' T ∧ Below W.heap.size W w') := phide (fun (W : World) (v6 : Value) (hW : Below X0.heap.size X0 W) (hl : Lies anyB W 100 v6 (bareT 100 t)) => by
    have h := label_any 100 (by decide) (.agg #[.slice a' n' c', .slice b' m' d', .string tok', .int .i64 p'.fuel, .int .i64 p'.quota]) v6 p' (bareT 100 t) (by have := hBn.marks; omega) hBn.paths8 W (hX.step hW) hl (by rw [← hbT]; exact ok_bare 100 _ hokT)
    rw [label_bare, hT] at h
    exact h)
  have HSM := phide (fun (W : World) (va vb : Value) (h1 : Lies anyB W 100 va T) (h2 : Lies anyB W 100 vb T) => rsame_eq anyB anyB 100 va vb T W h1 h2 hokT)
  have HSB := phide (fun (W : World) (va vb : Value) (h1 : Lies anyB W 100 va (bareT 100 t)) (h2 : Lies anyB W 100 vb (bareT 100 t)) => rsame_eq anyB anyB 100 va vb _ W h1 h2 (by rw [← hbT]; exact ok_bare 100 _ hokT))
  have HBXX := phide hBX
  have HS23 : Hid (∀ W : World, Below X0.heap.size X0 W → W.cell? ⟨w.heap.size, 0, none⟩ = some (.slice a' n' c') ∧ W.cell? ⟨w.heap.size, 1, none⟩ = some (.slice b' m' d') ∧ W.cell? ⟨w.heap.size, 2, none⟩ = some (.string tok') ∧ W.cell? ⟨w.heap.size, 3, none⟩ = some (.int .i64 p'.fuel) ∧ W.cell? ⟨w.heap.size, 4, none⟩ = some (.int .i64 p'.quota) ∧ (W.cell? ⟨vb, 0, none⟩ = some (.int .i64 hd4.k) ∧ W.cell? ⟨vb, 1, none⟩ = some (.int .u64 (hd4.m : Int)) ∧ W.cell? ⟨vb, 2, none⟩ = some (.bool hd4.ng) ∧ W.cell? ⟨vb, 3, none⟩ = some (.string hd4.dg) ∧ W.cell? ⟨vb, 4, none⟩ = some (.int .i64 hd4.sc) ∧ W.cell? ⟨vb, 5, none⟩ = some (.string hd4.tx) ∧ W.cell? ⟨vb, 6, none⟩ = some (.slice ka4 kn4 kc4) ∧ W.cell? ⟨vb, 7, none⟩ = some (.slice da4 dn4 dc4) ∧ W.cell? ⟨vb, 8, none⟩ = some (.int .i64 hd4.cd)) ∧ (W.cell? ⟨ab, 0, none⟩ = some (.int .i64 hd5.k) ∧ W.cell? ⟨ab, 1, none⟩ = some (.int .u64 (hd5.m : Int)) ∧ W.cell? ⟨ab, 2, none⟩ = some (.bool hd5.ng) ∧ W.cell? ⟨ab, 3, none⟩ = some (.string hd5.dg) ∧ W.cell? ⟨ab, 4, none⟩ = some (.int .i64 hd5.sc) ∧ W.cell? ⟨ab, 5, none⟩ = some (.string hd5.tx) ∧ W.cell? ⟨ab, 6, none⟩ = some (.slice ka5 kn5 kc5) ∧ W.cell? ⟨ab, 7, none⟩ = some (.slice da5 dn5 dc5) ∧ W.cell? ⟨ab, 8, none⟩ = some (.int .i64 hd5.cd))) := phide (fun W hW => by
    have f := punhide HSP W hW
    exact ⟨f.c0, f.c1, f.c2, f.c3, f.c4, punhide HSV W hW, punhide HSA W hW⟩)
  clear hBX pX hX lv la kv ka hok hT hBn hokT hbT
  have hS : Below X0.heap.size X0 X0.drew := (Below.refl _ _).drew
  go_region_held3 (fun W => W.cell? ⟨w.heap.size, 0, none⟩ = some (.slice a' n' c') ∧ W.cell? ⟨w.heap.size, 1, none⟩ = some (.slice b' m' d') ∧ W.cell? ⟨w.heap.size, 2, none⟩ = some (.string tok') ∧ W.cell? ⟨w.heap.size, 3, none⟩ = some (.int .i64 p'.fuel) ∧ W.cell? ⟨w.heap.size, 4, none⟩ = some (.int .i64 p'.quota) ∧ (W.cell? ⟨vb, 0, none⟩ = some (.int .i64 hd4.k) ∧ W.cell? ⟨vb, 1, none⟩ = some (.int .u64 (hd4.m : Int)) ∧ W.cell? ⟨vb, 2, none⟩ = some (.bool hd4.ng) ∧ W.cell? ⟨vb, 3, none⟩ = some (.string hd4.dg) ∧ W.cell? ⟨vb, 4, none⟩ = some (.int .i64 hd4.sc) ∧ W.cell? ⟨vb, 5, none⟩ = some (.string hd4.tx) ∧ W.cell? ⟨vb, 6, none⟩ = some (.slice ka4 kn4 kc4) ∧ W.cell? ⟨vb, 7, none⟩ = some (.slice da4 dn4 dc4) ∧ W.cell? ⟨vb, 8, none⟩ = some (.int .i64 hd4.cd)) ∧ (W.cell? ⟨ab, 0, none⟩ = some (.int .i64 hd5.k) ∧ W.cell? ⟨ab, 1, none⟩ = some (.int .u64 (hd5.m : Int)) ∧ W.cell? ⟨ab, 2, none⟩ = some (.bool hd5.ng) ∧ W.cell? ⟨ab, 3, none⟩ = some (.string hd5.dg) ∧ W.cell? ⟨ab, 4, none⟩ = some (.int .i64 hd5.sc) ∧ W.cell? ⟨ab, 5, none⟩ = some (.string hd5.tx) ∧ W.cell? ⟨ab, 6, none⟩ = some (.slice ka5 kn5 kc5) ∧ W.cell? ⟨ab, 7, none⟩ = some (.slice da5 dn5 dc5) ∧ W.cell? ⟨ab, 8, none⟩ = some (.int .i64 hd5.cd))) (exact punhide HS23 _ hS)
    (first
      | (go_at_call 21; refine (punhide HBV _ hS).mono ?_; rintro e w1 ⟨v6, rfl, hl6, bn⟩; obtain ⟨hd6, ka6, kn6, kc6, da6, dn6, dc6, rfl⟩ := hl6.shape; replace hS := hS.trans (bn.mono hS.size); clear bn)
      | (go_at_call 19; refine (punhide HLB _ _ hS hl6.any).mono ?_; rintro e w2 ⟨v7, rfl, hl7, bn⟩; obtain ⟨hd7, ka7, kn7, kc7, da7, dn7, dc7, rfl⟩ := hl7.shape; replace hS := hS.trans (bn.mono hS.size); clear bn)
      | (go_at_call 20; refine (punhide HSM _ _ _ (punhide HLA _ hS) hl7.any).mono ?_; rintro e w3 ⟨rfl, bn⟩; replace hS := hS.trans (bn.mono hS.size); clear bn))
  clear hl6 hl7
  replace hS := hS.drew
  go_upto_region 8 with fail
  go_region_held3 (fun W => W.cell? ⟨w.heap.size, 0, none⟩ = some (.slice a' n' c') ∧ W.cell? ⟨w.heap.size, 1, none⟩ = some (.slice b' m' d') ∧ W.cell? ⟨w.heap.size, 2, none⟩ = some (.string tok') ∧ W.cell? ⟨w.heap.size, 3, none⟩ = some (.int .i64 p'.fuel) ∧ W.cell? ⟨w.heap.size, 4, none⟩ = some (.int .i64 p'.quota) ∧ (W.cell? ⟨vb, 0, none⟩ = some (.int .i64 hd4.k) ∧ W.cell? ⟨vb, 1, none⟩ = some (.int .u64 (hd4.m : Int)) ∧ W.cell? ⟨vb, 2, none⟩ = some (.bool hd4.ng) ∧ W.cell? ⟨vb, 3, none⟩ = some (.string hd4.dg) ∧ W.cell? ⟨vb, 4, none⟩ = some (.int .i64 hd4.sc) ∧ W.cell? ⟨vb, 5, none⟩ = some (.string hd4.tx) ∧ W.cell? ⟨vb, 6, none⟩ = some (.slice ka4 kn4 kc4) ∧ W.cell? ⟨vb, 7, none⟩ = some (.slice da4 dn4 dc4) ∧ W.cell? ⟨vb, 8, none⟩ = some (.int .i64 hd4.cd)) ∧ (W.cell? ⟨ab, 0, none⟩ = some (.int .i64 hd5.k) ∧ W.cell? ⟨ab, 1, none⟩ = some (.int .u64 (hd5.m : Int)) ∧ W.cell? ⟨ab, 2, none⟩ = some (.bool hd5.ng) ∧ W.cell? ⟨ab, 3, none⟩ = some (.string hd5.dg) ∧ W.cell? ⟨ab, 4, none⟩ = some (.int .i64 hd5.sc) ∧ W.cell? ⟨ab, 5, none⟩ = some (.string hd5.tx) ∧ W.cell? ⟨ab, 6, none⟩ = some (.slice ka5 kn5 kc5) ∧ W.cell? ⟨ab, 7, none⟩ = some (.slice da5 dn5 dc5) ∧ W.cell? ⟨ab, 8, none⟩ = some (.int .i64 hd5.cd))) (exact punhide HS23 _ hS)
    (first
      | (go_at_call_of 21 (Value.int IntKind.i64 hd5.k); refine (punhide HBA _ hS).mono ?_; rintro e w4 ⟨v8, rfl, hl8, bn⟩; obtain ⟨hd8, ka8, kn8, kc8, da8, dn8, dc8, rfl⟩ := hl8.shape; replace hS := hS.trans (bn.mono hS.size); clear bn)
      | (go_at_call_of 21 (Value.int IntKind.i64 hd4.k); refine (punhide HBV _ hS).mono ?_; rintro e w5 ⟨v9, rfl, hl9, bn⟩; obtain ⟨hd9, ka9, kn9, kc9, da9, dn9, dc9, rfl⟩ := hl9.shape; replace hl8 := hl8.any.below bn; replace hS := hS.trans (bn.mono hS.size); clear bn)
      | (go_at_call 20; refine (punhide HSB _ _ _ hl8 hl9.any).mono ?_; rintro e w6 ⟨rfl, bn⟩; replace hS := hS.trans (bn.mono hS.size); clear bn))
  clear hl8 hl9 HSB HSM HLB HBA HBV
  go_upto_region 9 with fail
  obtain ⟨-, x0, x1, x2, x3, x4, -⟩ := punhide HSP _ hS
  have hnb := hS.size
  have n1 := Five.new w6 (.slice a' n' c') (.slice b' m' d') (.string tok') (.int .i64 p'.fuel) (.int .i64 p'.quota) 25
  have hS1 := hS.alloc hS.size (.cells #[.slice a' n' c', .slice b' m' d', .string tok', .int .i64 p'.fuel, .int .i64 p'.quota] 25)
  have HN1 := phide (And.intro n1 hS1)
  clear n1 hS1 hS
  go_upto_region 10 with fail
  clear x0 x1 x2 x3 x4
  obtain ⟨n1, hS⟩ := punhide HN1
  clear HN1
  generalize w6.heap.size = nb at hnb n1 hS ⊢
  generalize w6.alloc (.cells #[.slice a' n' c', .slice b' m' d', .string tok', .int .i64 p'.fuel, .int .i64 p'.quota] 25) = Y1 at n1 hS ⊢
  have y1 := n1.c1
  have g1 := n1.f 1
  have n2 := (n1.put (.slice none 0 0)).2.1
  have hS1 := hS.setCell (p := ⟨nb, 1, none⟩) hnb (.slice none 0 0)
  have HN1 := phide (And.intro n2 hS1)
  clear n1 hS n2 hS1
  go_upto_region 11 with fail
  clear y1 g1
  obtain ⟨n2, hS⟩ := punhide HN1
  clear HN1
  generalize Y1.setCell ⟨nb, 1, none⟩ (.slice none 0 0) = Y2 at n2 hS ⊢
  obtain ⟨-, x0, x1, x2, x3, x4, -⟩ := punhide HSP _ hS
  have hlb := hS.size
  have n1 := Five.new Y2 (.slice a' n' c') (.slice b' m' d') (.string tok') (.int .i64 p'.fuel) (.int .i64 p'.quota) 25
  have n3 := n2.step ((Below.refl Y2.heap.size Y2).alloc (Nat.le_refl _) (.cells #[.slice a' n' c', .slice b' m' d', .string tok', .int .i64 p'.fuel, .int .i64 p'.quota] 25))
  have hS1 := hS.alloc hS.size (.cells #[.slice a' n' c', .slice b' m' d', .string tok', .int .i64 p'.fuel, .int .i64 p'.quota] 25)
  have hne : nb ≠ Y2.heap.size := by have := n2.lt; omega
  have HN1 := phide (And.intro n1 (And.intro n3 hS1))
  clear n1 n2 n3 hS1 hS
  go_upto_region 12 with fail
  clear x0 x1 x2 x3 x4
  obtain ⟨l1, n3, hS⟩ := punhide HN1
  clear HN1
  generalize Y2.heap.size = lb at hlb hne l1 hS ⊢
  generalize Y2.alloc (.cells #[.slice a' n' c', .slice b' m' d', .string tok', .int .i64 p'.fuel, .int .i64 p'.quota] 25) = Y3 at l1 n3 hS ⊢
  have HMT := phide (punhide HPT _ hS).2.2
  have xl := (punhide HSP _ hS).c1
  go_upto_if 42 with fail
  clear xl
  go_cut [] from 43 to 47 (fun wx => ∃ bb mm cc, Five wx lb (.slice a' n' c') (.slice bb mm cc) (.string tok') (.int .i64 p'.fuel) (.int .i64 p'.quota) ∧ MarksIn wx bb mm (p'.marks.drop 1) ∧ Five wx nb (.slice a' n' c') (.slice none 0 0) (.string tok') (.int .i64 p'.fuel) (.int .i64 p'.quota) ∧ Below X0.heap.size X0 wx)
  case first =>
    have x1 := (punhide HSP _ hS).c1
    by_cases hm : 0 < m'
    case pos =>
      have d1 : decide ((0 : Int) < (m' : Int)) = true := decide_eq_true (by omega)
      obtain ⟨mg, rfl, hmd⟩ := punhide HRM
      have s1 : (1 : Int) ≤ (m' : Int) := by omega
      have s2 : (m' : Int) ≤ (d' : Int) := by omega
      have s3 : (1 : Int) ≤ (d' : Int) := by omega
      have y1 := l1.c1
      have g1 := l1.f 1
      obtain ⟨bb, hbb⟩ : ∃ bb, (if d' = 1 then (some ⟨mg, 0, none⟩ : Option Addr) else some ⟨mg, 2, none⟩) = bb := ⟨_, rfl⟩
      have hMD : ∀ W, Below X0.heap.size X0 W → MarksIn W bb (m' - 1) (p'.marks.drop 1) := by
        intro W hW
        have hmt := (punhide HPT W hW).2.2
        by_cases e : d' = 1
        · have : m' - 1 = 0 := by omega
          rw [this, List.drop_eq_nil_of_le (by have := (punhide HMT).1; omega)]
          exact MarksIn.nil _ _
        · rw [if_neg e] at hbb
          subst hbb
          exact hmt.drop 1 hm
      have l2 := fun u => (l1.put u).2.1
      have n4 := fun u => n3.other ⟨lb, 1, none⟩ hne u
      have hS2 := fun u => hS.setCell (p := ⟨lb, 1, none⟩) hlb u
      have hkp := fun u => (Kp.of_set (base := 0) (w := Y3) (x := none) ⟨lb, 1, none⟩ u)
      have HL := phide (And.intro l2 (And.intro n4 (And.intro hS2 hMD)))
      clear l1 n3 hS l2 n4 hS2 hkp hMD hmd
      go_wp2_with fail
      go_meet
      exact ⟨_, _, _, (punhide HL).1 _, (punhide HL).2.2.2 _ ((punhide HL).2.2.1 _), (punhide HL).2.1 _, (punhide HL).2.2.1 _⟩
    case neg =>
      have d1 : decide ((0 : Int) < (m' : Int)) = false := decide_eq_false (by omega)
      have hMD : MarksIn Y3 b' m' (p'.marks.drop 1) := by
        have h0 : m' = 0 := by omega
        subst h0
        rw [List.drop_eq_nil_of_le (by have := (punhide HMT).1; omega)]
        exact MarksIn.nil _ _
      have HL := phide (And.intro l1 (And.intro n3 (And.intro hS hMD)))
      clear l1 n3 hS hMD
      go_wp2_with fail
      go_meet
      obtain ⟨l1, n3, hS, hMD⟩ := punhide HL
      exact ⟨_, _, _, l1, hMD, n3, hS⟩
  case rest =>
  clear l1 n3 hS HMT hlb hnb
  obtain ⟨bb, mm, cc, l3, hMD, n4, hS⟩ := hcut
  obtain ⟨htok, hC, -⟩ := punhide HPT _ hS
  have hBn := punhide HB
  have hok := punhide HOKT
  obtain ⟨T2, hT2⟩ : ∃ T2, labelT (p'.marks.drop 1) 100 [] t = T2 := ⟨_, rfl⟩
  have CLL := label_any 100 (by decide) (.agg #[.slice a' n' c', .slice bb mm cc, .string tok', .int .i64 p'.fuel, .int .i64 p'.quota]) (.agg #[.int .i64 hd4.k, .int .u64 (hd4.m : Int), .bool hd4.ng, .string hd4.dg, .int .i64 hd4.sc, .string hd4.tx, .slice ka4 kn4 kc4, .slice da4 dn4 dc4, .int .i64 hd4.cd]) ⟨p'.cats, p'.marks.drop 1, p'.token, p'.fuel, p'.quota⟩ t (by show (p'.marks.drop 1).length ≤ 1000; rw [List.length_drop]; have := hBn.marks; omega) (fun x hx => hBn.paths8 x (List.mem_of_mem_drop hx)) wc ⟨a', n', c', bb, mm, cc, tok', rfl, htok, hC, hMD⟩ (punhide HLV _ hS) hok
  rw [show labelT (Po.marks ⟨p'.cats, p'.marks.drop 1, p'.token, p'.fuel, p'.quota⟩) 100 [] t = T2 from hT2] at CLL
  have HT3 := phide hT2
  obtain ⟨-, x0, x1, x2, x3, x4, -⟩ := id l3
  obtain ⟨y0, y1, y2, y3, y4, y5, y6, y7, y8⟩ := punhide HSV _ hS
  have HN1 := phide (And.intro n4 hS)
  clear hT2 hok hBn htok hC hMD n4 hS l3
  go_wp2_with fail
  refine CLL.mono ?_
  rintro e Wd ⟨v10, rfl, hl10, b10⟩
  clear CLL x0 x1 x2 x3 x4 y0 y1 y2 y3 y4 y5 y6 y7 y8
  obtain ⟨hd10, ka10, kn10, kc10, da10, dn10, dc10, rfl⟩ := hl10.shape
  obtain ⟨n4, hS⟩ := punhide HN1
  clear HN1
  have al : Below Wd.heap.size Wd (Wd.alloc (.cells #[.int .i64 hd10.k, .int .u64 (hd10.m : Int), .bool hd10.ng, .string hd10.dg, .int .i64 hd10.sc, .string hd10.tx, .slice ka10 kn10 kc10, .slice da10 dn10 dc10, .int .i64 hd10.cd] 42)) := (Below.refl _ _).alloc (Nat.le_refl _) _
  have n5 := (n4.step b10).step al
  have hS2 := (hS.trans (b10.mono hS.size)).trans (al.mono (Nat.le_trans hS.size b10.size))
  have lb2 := hl10.any.below al
  have kb2 : Box (Wd.alloc (.cells #[.int .i64 hd10.k, .int .u64 (hd10.m : Int), .bool hd10.ng, .string hd10.dg, .int .i64 hd10.sc, .string hd10.tx, .slice ka10 kn10 kc10, .slice da10 dn10 dc10, .int .i64 hd10.cd] 42)) Wd.heap.size #[.int .i64 hd10.k, .int .u64 (hd10.m : Int), .bool hd10.ng, .string hd10.dg, .int .i64 hd10.sc, .string hd10.tx, .slice ka10 kn10 kc10, .slice da10 dn10 dc10, .int .i64 hd10.cd] := Box.new _ _ _
  have HN1 := phide (And.intro n5 (And.intro hS2 (And.intro lb2 kb2)))
  clear n4 hS al n5 hS2 lb2 kb2 b10 hl10
  go_upto_region 15 with fail
  obtain ⟨n5, hS2, lb2, kb2⟩ := punhide HN1
  clear HN1
  generalize Wd.heap.size = bbx at kb2 ⊢
  generalize Wd.alloc (.cells #[.int .i64 hd10.k, .int .u64 (hd10.m : Int), .bool hd10.ng, .string hd10.dg, .int .i64 hd10.sc, .string hd10.tx, .slice ka10 kn10 kc10, .slice da10 dn10 dc10, .int .i64 hd10.cd] 42) = Z0 at n5 hS2 lb2 kb2 ⊢
  have HBW : Hid (∀ W, Below Z0.heap.size Z0 W → Below X0.heap.size X0 W) := phide (fun W hW => hS2.trans (hW.mono hS2.size))
  have HS37 : Hid (∀ W : World, Below Z0.heap.size Z0 W → W.cell? ⟨nb, 0, none⟩ = some (.slice a' n' c') ∧ W.cell? ⟨nb, 1, none⟩ = some (.slice none 0 0) ∧ W.cell? ⟨nb, 2, none⟩ = some (.string tok') ∧ W.cell? ⟨nb, 3, none⟩ = some (.int .i64 p'.fuel) ∧ W.cell? ⟨nb, 4, none⟩ = some (.int .i64 p'.quota) ∧ W.cell? ⟨w.heap.size, 0, none⟩ = some (.slice a' n' c') ∧ W.cell? ⟨w.heap.size, 1, none⟩ = some (.slice b' m' d') ∧ W.cell? ⟨w.heap.size, 2, none⟩ = some (.string tok') ∧ W.cell? ⟨w.heap.size, 3, none⟩ = some (.int .i64 p'.fuel) ∧ W.cell? ⟨w.heap.size, 4, none⟩ = some (.int .i64 p'.quota) ∧ (W.cell? ⟨vb, 0, none⟩ = some (.int .i64 hd4.k) ∧ W.cell? ⟨vb, 1, none⟩ = some (.int .u64 (hd4.m : Int)) ∧ W.cell? ⟨vb, 2, none⟩ = some (.bool hd4.ng) ∧ W.cell? ⟨vb, 3, none⟩ = some (.string hd4.dg) ∧ W.cell? ⟨vb, 4, none⟩ = some (.int .i64 hd4.sc) ∧ W.cell? ⟨vb, 5, none⟩ = some (.string hd4.tx) ∧ W.cell? ⟨vb, 6, none⟩ = some (.slice ka4 kn4 kc4) ∧ W.cell? ⟨vb, 7, none⟩ = some (.slice da4 dn4 dc4) ∧ W.cell? ⟨vb, 8, none⟩ = some (.int .i64 hd4.cd)) ∧ (W.cell? ⟨ab, 0, none⟩ = some (.int .i64 hd5.k) ∧ W.cell? ⟨ab, 1, none⟩ = some (.int .u64 (hd5.m : Int)) ∧ W.cell? ⟨ab, 2, none⟩ = some (.bool hd5.ng) ∧ W.cell? ⟨ab, 3, none⟩ = some (.string hd5.dg) ∧ W.cell? ⟨ab, 4, none⟩ = some (.int .i64 hd5.sc) ∧ W.cell? ⟨ab, 5, none⟩ = some (.string hd5.tx) ∧ W.cell? ⟨ab, 6, none⟩ = some (.slice ka5 kn5 kc5) ∧ W.cell? ⟨ab, 7, none⟩ = some (.slice da5 dn5 dc5) ∧ W.cell? ⟨ab, 8, none⟩ = some (.int .i64 hd5.cd)) ∧ (W.cell? ⟨bbx, 0, none⟩ = some (.int .i64 hd10.k) ∧ W.cell? ⟨bbx, 1, none⟩ = some (.int .u64 (hd10.m : Int)) ∧ W.cell? ⟨bbx, 2, none⟩ = some (.bool hd10.ng) ∧ W.cell? ⟨bbx, 3, none⟩ = some (.string hd10.dg) ∧ W.cell? ⟨bbx, 4, none⟩ = some (.int .i64 hd10.sc) ∧ W.cell? ⟨bbx, 5, none⟩ = some (.string hd10.tx) ∧ W.cell? ⟨bbx, 6, none⟩ = some (.slice ka10 kn10 kc10) ∧ W.cell? ⟨bbx, 7, none⟩ = some (.slice da10 dn10 dc10) ∧ W.cell? ⟨bbx, 8, none⟩ = some (.int .i64 hd10.cd))) := phide (fun W hW => by
    have h := punhide HBW W hW
    have f := punhide HSP W h
    have n := n5.step hW
    exact ⟨n.c0, n.c1, n.c2, n.c3, n.c4, f.c0, f.c1, f.c2, f.c3, f.c4, punhide HSV W h, punhide HSA W h, box_nine kb2 hW⟩)
  have hT := punhide HT2
  have hok := punhide HOKT
  have hokT : okT 100 T := by rw [← hT]; exact ok_label _ _ _ _ hok
  have hokT2 : okT 100 T2 := by rw [← punhide HT3]; exact ok_label _ _ _ _ hok
  have hBn := punhide HB
  have HL0 : Hid (∀ W, Below Z0.heap.size Z0 W → Calls Tryz.prog 19 #[.agg #[.slice a' n' c', .slice none 0 0, .string tok', .int .i64 p'.fuel, .int .i64 p'.quota], .agg #[.int .i64 hd4.k, .int .u64 (hd4.m : Int), .bool hd4.ng, .string hd4.dg, .int .i64 hd4.sc, .string hd4.tx, .slice ka4 kn4 kc4, .slice da4 dn4 dc4, .int .i64 hd4.cd]] W fun e w' => ∃ v', e = .returned v' ∧ Lies (fun b => W.heap.size ≤ b) w' 100 v' (labelT [] 100 [] t) ∧ Below W.heap.size W w') := phide (fun W hW => by
    have h := punhide HBW W hW
    obtain ⟨htok, hC, -⟩ := punhide HPT W h
    exact label_any 100 (by decide) _ _ ⟨p'.cats, [], p'.token, p'.fuel, p'.quota⟩ t (Nat.zero_le _) (fun x hx => by cases hx) W ⟨a', n', c', none, 0, 0, tok', rfl, htok, hC, MarksIn.nil _ _⟩ (punhide HLV W h) hok)
  have HD0 : Hid (∀ (W : World) (v : Value), Lies anyB W 100 v (labelT [] 100 [] t) → Calls Tryz.prog 22 #[v] W fun e w' => e = .returned (.int .u64 0) ∧ Below W.heap.size W w') := phide (fun W v hl => by
    refine (rdeep_any 100 v _ W hl (ok_label _ _ _ _ hok)).mono ?_
    rintro e w' ⟨h1, -, h3⟩
    rw [deep_nil] at h1
    exact ⟨h1, h3⟩)
  obtain ⟨D1, hD1⟩ : ∃ D1, deepT 100 T = D1 := ⟨_, rfl⟩
  obtain ⟨D2, hD2⟩ : ∃ D2, deepT 100 T2 = D2 := ⟨_, rfl⟩
  have HDA : Hid (∀ W, Below Z0.heap.size Z0 W → Calls Tryz.prog 22 #[.agg #[.int .i64 hd5.k, .int .u64 (hd5.m : Int), .bool hd5.ng, .string hd5.dg, .int .i64 hd5.sc, .string hd5.tx, .slice ka5 kn5 kc5, .slice da5 dn5 dc5, .int .i64 hd5.cd]] W fun e w' => e = .returned (.int .u64 (D1 : Int)) ∧ Below W.heap.size W w') := phide (fun W hW => by
    refine (rdeep_any 100 _ _ W (punhide HLA W (punhide HBW W hW)) hokT).mono ?_
    rintro e w' ⟨h1, -, h3⟩
    rw [hD1] at h1
    exact ⟨h1, h3⟩)
  have HDB : Hid (∀ W, Below Z0.heap.size Z0 W → Calls Tryz.prog 22 #[.agg #[.int .i64 hd10.k, .int .u64 (hd10.m : Int), .bool hd10.ng, .string hd10.dg, .int .i64 hd10.sc, .string hd10.tx, .slice ka10 kn10 kc10, .slice da10 dn10 dc10, .int .i64 hd10.cd]] W fun e w' => e = .returned (.int .u64 (D2 : Int)) ∧ Below W.heap.size W w') := phide (fun W hW => by
    refine (rdeep_any 100 _ _ W (lb2.below hW) hokT2).mono ?_
    rintro e w' ⟨h1, -, h3⟩
    rw [hD2] at h1
    exact ⟨h1, h3⟩)
  have hAN : bits BinOp.andNot IntKind.u64 (D2 : Int) (D1 : Int) = 0 := by
    refine andNot_none ?_ ?_ ?_
    · rw [← hD2]; exact deep_lt64 lb2
    · rw [← hD1]; exact deep_lt64 (punhide HLA Z0 (punhide HBW Z0 (Below.refl _ _)))
    · rw [← hD1, ← hD2, ← hT, ← punhide HT3]
      exact (deep_more _ _ (mask_tail p'.marks) 100 [] t).and
  have hmA : maskL [] p'.marks = hd5.m := by
    have h := (punhide HLA Z0 (punhide HBW Z0 (Below.refl _ _))).mask.1
    rw [← hT] at h
    exact h
  have HMM : Hid (∀ W, Below Z0.heap.size Z0 W → Calls Tryz.prog 23 #[(.agg #[.slice a' n' c', .slice b' m' d', .string tok', .int .i64 p'.fuel, .int .i64 p'.quota]), .slice none 0 0] W fun e w' => e = .returned (.int .u64 (hd5.m : Int)) ∧ Below W.heap.size W w') := phide (fun W hW => maskAt_any (.agg #[.slice a' n' c', .slice b' m' d', .string tok', .int .i64 p'.fuel, .int .i64 p'.quota]) p' none 0 0 [] (by omega) (by have := hBn.marks; omega) hBn.paths8 hd5.m hmA W (punhide HPI W (punhide HBW W hW)) ⟨rfl, .inl rfl⟩)
  have HMY : Hid (∀ W : World, Calls Tryz.prog 24 #[.slice none 0 0] W fun e w' => e = .returned (.int .i64 0) ∧ Below W.heap.size W w') := phide (fun W => rmay_any none 0 0 [] 0 (by decide) (by omega) W ⟨rfl, .inl rfl⟩)
  have HFIN := phide (punhide HBXX)
  clear n5 hS2 lb2 kb2 hT hok hokT hokT2 hBn hD1 hD2 hmA HSP HSV HSA HPI HPT HLV HLA HS23
  have hS : Below Z0.heap.size Z0 Z0.drew := (Below.refl _ _).drew
  go_region_held3 (fun W => W.cell? ⟨nb, 0, none⟩ = some (.slice a' n' c') ∧ W.cell? ⟨nb, 1, none⟩ = some (.slice none 0 0) ∧ W.cell? ⟨nb, 2, none⟩ = some (.string tok') ∧ W.cell? ⟨nb, 3, none⟩ = some (.int .i64 p'.fuel) ∧ W.cell? ⟨nb, 4, none⟩ = some (.int .i64 p'.quota) ∧ W.cell? ⟨w.heap.size, 0, none⟩ = some (.slice a' n' c') ∧ W.cell? ⟨w.heap.size, 1, none⟩ = some (.slice b' m' d') ∧ W.cell? ⟨w.heap.size, 2, none⟩ = some (.string tok') ∧ W.cell? ⟨w.heap.size, 3, none⟩ = some (.int .i64 p'.fuel) ∧ W.cell? ⟨w.heap.size, 4, none⟩ = some (.int .i64 p'.quota) ∧ (W.cell? ⟨vb, 0, none⟩ = some (.int .i64 hd4.k) ∧ W.cell? ⟨vb, 1, none⟩ = some (.int .u64 (hd4.m : Int)) ∧ W.cell? ⟨vb, 2, none⟩ = some (.bool hd4.ng) ∧ W.cell? ⟨vb, 3, none⟩ = some (.string hd4.dg) ∧ W.cell? ⟨vb, 4, none⟩ = some (.int .i64 hd4.sc) ∧ W.cell? ⟨vb, 5, none⟩ = some (.string hd4.tx) ∧ W.cell? ⟨vb, 6, none⟩ = some (.slice ka4 kn4 kc4) ∧ W.cell? ⟨vb, 7, none⟩ = some (.slice da4 dn4 dc4) ∧ W.cell? ⟨vb, 8, none⟩ = some (.int .i64 hd4.cd)) ∧ (W.cell? ⟨ab, 0, none⟩ = some (.int .i64 hd5.k) ∧ W.cell? ⟨ab, 1, none⟩ = some (.int .u64 (hd5.m : Int)) ∧ W.cell? ⟨ab, 2, none⟩ = some (.bool hd5.ng) ∧ W.cell? ⟨ab, 3, none⟩ = some (.string hd5.dg) ∧ W.cell? ⟨ab, 4, none⟩ = some (.int .i64 hd5.sc) ∧ W.cell? ⟨ab, 5, none⟩ = some (.string hd5.tx) ∧ W.cell? ⟨ab, 6, none⟩ = some (.slice ka5 kn5 kc5) ∧ W.cell? ⟨ab, 7, none⟩ = some (.slice da5 dn5 dc5) ∧ W.cell? ⟨ab, 8, none⟩ = some (.int .i64 hd5.cd)) ∧ (W.cell? ⟨bbx, 0, none⟩ = some (.int .i64 hd10.k) ∧ W.cell? ⟨bbx, 1, none⟩ = some (.int .u64 (hd10.m : Int)) ∧ W.cell? ⟨bbx, 2, none⟩ = some (.bool hd10.ng) ∧ W.cell? ⟨bbx, 3, none⟩ = some (.string hd10.dg) ∧ W.cell? ⟨bbx, 4, none⟩ = some (.int .i64 hd10.sc) ∧ W.cell? ⟨bbx, 5, none⟩ = some (.string hd10.tx) ∧ W.cell? ⟨bbx, 6, none⟩ = some (.slice ka10 kn10 kc10) ∧ W.cell? ⟨bbx, 7, none⟩ = some (.slice da10 dn10 dc10) ∧ W.cell? ⟨bbx, 8, none⟩ = some (.int .i64 hd10.cd))) (exact punhide HS37 _ hS)
    (first
      | (go_at_call 19; refine (punhide HL0 _ hS).mono ?_; rintro e u1 ⟨v11, rfl, hl11, bn⟩; obtain ⟨hd11, ka11, kn11, kc11, da11, dn11, dc11, rfl⟩ := hl11.shape; replace hS := hS.trans (bn.mono hS.size); clear bn)
      | (go_at_call_of 22 (Value.int IntKind.i64 hd11.k); refine (punhide HD0 _ _ hl11.any).mono ?_; rintro e u2 ⟨rfl, bn⟩; replace hS := hS.trans (bn.mono hS.size); clear bn)
      | (go_at_call_of 22 (Value.int IntKind.i64 hd10.k); refine (punhide HDB _ hS).mono ?_; rintro e u3 ⟨rfl, bn⟩; replace hS := hS.trans (bn.mono hS.size); clear bn)
      | (go_at_call_of 22 (Value.int IntKind.i64 hd5.k); refine (punhide HDA _ hS).mono ?_; rintro e u4 ⟨rfl, bn⟩; replace hS := hS.trans (bn.mono hS.size); clear bn)
      | (go_at_call 23; refine (punhide HMM _ hS).mono ?_; rintro e u5 ⟨rfl, bn⟩; replace hS := hS.trans (bn.mono hS.size); clear bn)
      | (go_at_call 24; refine (punhide HMY _).mono ?_; rintro e u6 ⟨rfl, bn⟩; replace hS := hS.trans (bn.mono hS.size); clear bn))
  go_wp2
  go_ret
  exact ⟨rfl, (punhide HFIN).trans ((punhide HBW _ hS).mono (punhide HFIN).size)⟩
end Go.Proofs.YtnagecbepidfiaaGreatDoor.Pol
