/- What is proved here: PolicyPlaces, walked; conditions: the tables and the two errors lie, the policy and the items lie. Written by places8_gen.py. -/
import Derived.Test.YtnagecbepidfiaaGreatDoorZGd
import Derived.Test.YtnagecbepidfiaaGreatDoorZHh
import Derived.Test.YtnagecbepidfiaaGreatDoorZHf
import Derived.Test.YtnagecbepidfiaaGreatDoorZHe
import Derived.Test.YtnagecbepidfiaaGreatDoorZHa
namespace Go.Proofs.YtnagecbepidfiaaGreatDoor.Pol
set_option maxRecDepth 100000
open Go.RowKit Go.Proofs.YtnagecbepidfiaaGreatDoor.Nc Go.Proofs.YtnagecbepidfiaaGreatDoor.Np Go.Proofs.YtnagecbepidfiaaGreatDoor.Nq
set_option linter.unusedVariables false
set_option linter.unusedSimpArgs false

set_option maxRecDepth 100000 in
set_option maxHeartbeats 16000000 in
theorem places8 (v : Value) (p : Po) (a0 : Option Addr) (n0 c0 : Nat) (a1 : Option Addr) (n1 c1 : Nat) (w : World) (hn0 : n0 ≤ 140737488355328) (hit : ∀ i, i < n0 → i < 80 → ItemAt w a0 i) (hn1 : n1 ≤ 140737488355328) (hit1 : ∀ i, i < n1 → i < 80 → ItemAt w a1 i) (hI : PolIn w v p) (hT : Tabs w) (hP : Pow w) (hE : Errs w) :
    Calls Tryz.prog 6 #[v, .slice a0 n0 c0, .slice a1 n1 c1] w fun e w' => e = .returned (.bool true) ∧ Below w.heap.size w w' := by
  have HIT := phide hit
  have HIT1 := phide hit1
  have HI0 := phide hI
  obtain ⟨a, n, c, b, m, d, tok, rfl, htok, hC, hM⟩ := hI
  have CF := fun W h => few8c (.agg #[.slice a n c, .slice b m d, .string tok, .int .i64 p.fuel, .int .i64 p.quota]) p W h
  have b1 : Below w.heap.size w (w.alloc (.cells #[.slice a n c, .slice b m d, .string tok, .int .i64 p.fuel, .int .i64 p.quota] 25)) := (Below.refl _ _).alloc (Nat.le_refl _) _
  have f1 := Five.new w (.slice a n c) (.slice b m d) (.string tok) (.int .i64 p.fuel) (.int .i64 p.quota) 25
  have HT : Hid (∀ W, Below w.heap.size w W → Tabs W ∧ Pow W ∧ Errs W) := phide (fun W hB => ⟨tabs_step hT hB, hP.next hB, Errs.next hE hB⟩)
  clear hT hP hE hC hM htok hit hit1
  go_enter Tryz.func6, Tryz.ntmps6
  go_wp2_with fail
  refine (shown8 _ (punhide HT _ b1).1 (punhide HT _ b1).2.1 (punhide HT _ b1).2.2).mono ?_
  rintro e W1 ⟨rfl, b2⟩
  have hI1 := (punhide HI0).step b1 |>.step b2
  have f2 := f1.step b2
  have hB2 := b1.trans (b2.mono b1.size)
  clear b1 b2 f1
  obtain ⟨hl2, x0, x1, x2, x3, x4, -⟩ := id f2
  go_wp2_with fail
  refine (CF _ hI1).mono ?_
  rintro e W2 ⟨b3, v', p', rfl, hI2, hroom, hbnd⟩
  clear CF hI1 HI0 x0 x1 x2 x3 x4
  have f3 := f2.step b3
  have hB3 := hB2.trans (b3.mono hB2.size)
  obtain ⟨a', n', c', b', m', d', tok', rfl, htok, hC, hM⟩ := hI2
  have HRM := phide (MRoom.of hroom)
  clear hroom
  have hI3 : PolF W2 W1.heap.size (.agg #[.slice a' n' c', .slice b' m' d', .string tok', .int .i64 p'.fuel, .int .i64 p'.quota]) p' := ⟨a', n', c', b', m', d', tok', rfl, htok, hC, hM⟩
  have p1 := (f3.put (.slice a' n' c')).1
  have p2 := (p1.put (.slice b' m' d')).2.1
  have p3 := (p2.put (.string tok')).2.2.1
  have p4 := (p3.put (.int .i64 p'.fuel)).2.2.2.1
  have p5 := (p4.put (.int .i64 p'.quota)).2.2.2.2
  have hkr : ∀ (W : World) (i : Nat) (u : Value), Kp W1.heap.size none W (W.setCell ⟨w.heap.size, i, none⟩ u) := fun W i u => Kp.of_set _ _ hl2
  have hI5 := hI3.keep (((((hkr W2 0 (.slice a' n' c')).trans (hkr _ 1 (.slice b' m' d'))).trans (hkr _ 2 (.string tok'))).trans (hkr _ 3 (.int .i64 p'.fuel))).trans (hkr _ 4 (.int .i64 p'.quota)))
  have hB5 := ((((hB3.setCell (p := ⟨w.heap.size, 0, none⟩) (Nat.le_refl _) (.slice a' n' c')).setCell (p := ⟨w.heap.size, 1, none⟩) (Nat.le_refl _) (.slice b' m' d')).setCell (p := ⟨w.heap.size, 2, none⟩) (Nat.le_refl _) (.string tok')).setCell (p := ⟨w.heap.size, 3, none⟩) (Nat.le_refl _) (.int .i64 p'.fuel)).setCell (p := ⟨w.heap.size, 4, none⟩) (Nat.le_refl _) (.int .i64 p'.quota)
  have y0 := f3.c0
  have y1 := f3.c1
  have y2 := f3.c2
  have y3 := f3.c3
  have y4 := f3.c4
  have g0 := f3.f 0
  have g1 := f3.f 1
  have g2 := f3.f 2
  have g3 := f3.f 3
  have g4 := f3.f 4
  have z1 := p1.c1
  have z2 := p2.c2
  have z3 := p3.c3
  have z4 := p4.c4
  have h5 := hI5.is
  clear htok hC hM f2 hB2 b3 hI3 hI5 hkr p1 p2 p3 p4 hB3 hl2
  go_upto_region 3 with fail
  clear y0 y1 y2 y3 y4 g0 g1 g2 g3 g4 z1 z2 z3 z4 f3
  generalize ((((W2.setCell ⟨w.heap.size, 0, none⟩ (.slice a' n' c')).setCell ⟨w.heap.size, 1, none⟩ (.slice b' m' d')).setCell ⟨w.heap.size, 2, none⟩ (.string tok')).setCell ⟨w.heap.size, 3, none⟩ (.int .i64 p'.fuel)).setCell ⟨w.heap.size, 4, none⟩ (.int .i64 p'.quota) = W5 at *
  obtain ⟨q, hq⟩ : ∃ q, mayP p' = q := ⟨_, rfl⟩
  have CM := fun W hI => rmay8_any (.agg #[.slice a' n' c', .slice b' m' d', .string tok', .int .i64 p'.fuel, .int .i64 p'.quota]) p' q hq (by have := hbnd.cats; omega) (fun x hx => by have := hbnd.names x hx; omega) (by have := hbnd.marks; omega) hbnd.paths8 (by have := hbnd.token; omega) W hI
  have HQ := phide hq
  clear hq
  obtain ⟨hl5, x0, x1, x2, x3, x4, -⟩ := id p5
  have HB5 := phide hB5
  have HP5 := phide (And.intro p5 h5)
  clear p5 hl5 hB5
  go_wp2_with fail
  refine (CM _ h5).mono ?_
  rintro e W6 ⟨rfl, b6⟩
  clear CM h5 x0 x1 x2 x3 x4
  obtain ⟨p5, h5⟩ := punhide HP5
  have h6 := h5.step b6
  have p6 := p5.step b6
  have hB6 := (punhide HB5).trans (b6.mono (punhide HB5).size)
  clear b6 p5 h5 HP5 HB5
  by_cases hq0 : q = 0
  case neg =>
    have d1 : (q == 0) = false := by simp [hq0]
    clear h6 p6 hbnd
    go_wp2_with fail
    go_ret
    exact ⟨rfl, hB6⟩
  case pos =>
  subst hq0
  have HOK := phide (ok_of (punhide HQ))
  have HB := phide hbnd
  have H6 := phide (And.intro hB6 (And.intro h6 p6))
  clear hbnd hB6 h6 p6
  have hBn := punhide HB
  obtain ⟨hB6, h6, p6⟩ := punhide H6
  have HC5 : Hid (∀ W, Below W6.heap.size W6 W → W.cell? ⟨w.heap.size, 0, none⟩ = some (.slice a' n' c') ∧ W.cell? ⟨w.heap.size, 1, none⟩ = some (.slice b' m' d') ∧ W.cell? ⟨w.heap.size, 2, none⟩ = some (.string tok') ∧ W.cell? ⟨w.heap.size, 3, none⟩ = some (.int .i64 p'.fuel) ∧ W.cell? ⟨w.heap.size, 4, none⟩ = some (.int .i64 p'.quota)) := phide (fun W hW => ⟨(p6.step hW).c0, (p6.step hW).c1, (p6.step hW).c2, (p6.step hW).c3, (p6.step hW).c4⟩)
  have HBW : Hid (∀ W, Below W6.heap.size W6 W → Below w.heap.size w W ∧ PolIn W (.agg #[.slice a' n' c', .slice b' m' d', .string tok', .int .i64 p'.fuel, .int .i64 p'.quota]) p') := phide (fun W hW => ⟨hB6.trans (hW.mono hB6.size), h6.step hW⟩)
  have HBu : Hid (∀ W : World, Below W6.heap.size W6 W → Calls Tryz.prog 18 #[.slice a0 n0 c0] W fun e w' => ∃ vt t, e = .returned vt ∧ Lies anyB w' 100 vt t ∧ goodT 100 t ∧ Below W.heap.size W w') := phide (fun W hW => (built_any a0 n0 c0 W hn0 (fun i hi h8 => (punhide HIT i hi h8).below (hB6.trans (hW.mono hB6.size)))).mono (fun e w' h => by obtain ⟨vt, t, h1, h2, h3, _, h4⟩ := h; exact ⟨vt, t, h1, h2.any, h3, h4⟩))
  have HBu1 : Hid (∀ W : World, Below W6.heap.size W6 W → Calls Tryz.prog 18 #[.slice a1 n1 c1] W fun e w' => ∃ vt t, e = .returned vt ∧ Lies anyB w' 100 vt t ∧ goodT 100 t ∧ Below W.heap.size W w') := phide (fun W hW => (built_any a1 n1 c1 W hn1 (fun i hi h8 => (punhide HIT1 i hi h8).below (hB6.trans (hW.mono hB6.size)))).mono (fun e w' h => by obtain ⟨vt, t, h1, h2, h3, _, h4⟩ := h; exact ⟨vt, t, h1, h2.any, h3, h4⟩))
  have HLab : Hid (∀ (W : World) (v : Value) (t : Tr), Below W6.heap.size W6 W → Lies anyB W 100 v t → goodT 100 t → Calls Tryz.prog 19 #[.agg #[.slice a' n' c', .slice b' m' d', .string tok', .int .i64 p'.fuel, .int .i64 p'.quota], v] W fun e w' => ∃ v', e = .returned v' ∧ Lies (fun b => W.heap.size ≤ b) w' 100 v' (labelT p'.marks 100 [] t) ∧ Below W.heap.size W w') := phide (fun W v t hW hl hg => label_any 100 (by decide) _ v p' t (by have := hBn.marks; omega) hBn.paths8 W (h6.step hW) hl (good_ok 100 t hg))
  have HPl : Hid (∀ (W : World) (v : Value) (t : Tr) (g : Nat), Below W6.heap.size W6 W → Lies anyB W 100 v (labelT p'.marks 100 [] t) → goodT 100 t → g < W.heap.size → Calls Tryz.prog 25 #[.agg #[.slice a' n' c', .slice b' m' d', .string tok', .int .i64 p'.fuel, .int .i64 p'.quota], v, .slice (some ⟨g, 0, none⟩) 0 0, .int .i64 0] W fun e w' => e = .returned (.bool true) ∧ Below W.heap.size W w') := phide (fun W v t g hW hl hg hgs => placed_any p' (by have := hBn.marks; omega) hBn.paths8 100 _ v t [] g 0 0 0 0 W (h6.step hW) hl (good_ok 100 t hg) hg rfl (by omega) rfl ⟨hgs, fun i hi => absurd hi (by simp)⟩)
  have hS0 : Below W6.heap.size W6 W6 := Below.refl _ _
  clear hBn hB6 h6 p6 H6
  go_upto_region 5 with fail
  go_cut [8] from 17 to 20 (fun v8 wx => ∃ (t : Tr) (hd : Hd) (ka : Option Addr) (kn kc : Nat) (da : Option Addr) (dn dc gb : Nat), v8 = .pointer (some ⟨gb, 0, none⟩) ∧ goodT 100 t ∧ Nine wx gb #[.int .i64 hd.k, .int .u64 (hd.m : Int), .bool hd.ng, .string hd.dg, .int .i64 hd.sc, .string hd.tx, .slice ka kn kc, .slice da dn dc, .int .i64 hd.cd] ∧ Lies anyB wx 100 (.agg #[.int .i64 hd.k, .int .u64 (hd.m : Int), .bool hd.ng, .string hd.dg, .int .i64 hd.sc, .string hd.tx, .slice ka kn kc, .slice da dn dc, .int .i64 hd.cd]) (labelT p'.marks 100 [] t) ∧ Below W6.heap.size W6 wx)
  case first =>
    have hS : Below W6.heap.size W6 W6.drew := hS0.drew
    refine wp_region_held_drew (S := fun W' => Below W6.heap.size W6 W') (by kernel_rfl) ?hS01 (fun hHeld => ?rest01)
    case hS01 => exact hS
    case rest01 =>
    clear hHeld
    refine wpAnyH_take (i := 0) (v := .agg #[.slice a' n' c', .slice b' m' d', .string tok', .int .i64 p'.fuel, .int .i64 p'.quota]) rfl (by kernel_rfl) (by kernel_rfl) (by kernel_rfl) (fun _ _ _ h => h) (Or.inl ⟨by rfl, ?hy01⟩) (by first | assumption | exact hS) ?r01
    case hy01 => ((intro w hSw; (try dsimp only at hSw); obtain ⟨z0, z1, z2, z3, z4⟩ := punhide HC5 _ hSw; go_simp) <;> with_reducible rfl)
    case r01 =>
    try simp only [Act.put, List.getElem_toArray, List.getElem_cons_zero, List.getElem_cons_succ, List.setIfInBounds_toArray, List.set_cons_zero, List.set_cons_succ]
    refine wpAnyH_take (i := 1) (v := .slice a0 n0 c0) rfl (by kernel_rfl) (by kernel_rfl) (by kernel_rfl) (fun _ _ _ h => h) (Or.inl ⟨by rfl, ?hy11⟩) (by first | assumption | exact hS) ?r11
    case hy11 => ((intro w hSw; (try dsimp only at hSw); obtain ⟨z0, z1, z2, z3, z4⟩ := punhide HC5 _ hSw; go_simp) <;> with_reducible rfl)
    case r11 =>
    try simp only [Act.put, List.getElem_toArray, List.getElem_cons_zero, List.getElem_cons_succ, List.setIfInBounds_toArray, List.set_cons_zero, List.set_cons_succ]
    refine wpAnyH_ready (rs := [2, 4]) (by kernel_rfl) (by simp) ?_
    refine AllReadyH.cons rfl (fun K hK => ?g2t1_1) (AllReadyH.cons rfl (fun K hK => ?g4t1_1) (AllReadyH.nil))
    case g2t1_1 =>
      go_simp
      go_at_call 18
      refine (punhide HBu _ hS).mono ?_
      rintro e U2 ⟨vt, t, rfl, hl2, hg, bn2⟩
      obtain ⟨hd21, ka21, kn21, kc21, da21, dn21, dc21, rfl⟩ := hl2.shape
      have hS2 := hS.trans (bn2.mono hS.size)
      refine hK.out _ _ hS2 (fun hHeld2 => ?ra2_1)
      case ra2_1 =>
      clear hK K hHeld2
      try simp only [Act.put, List.getElem_toArray, List.getElem_cons_zero, List.getElem_cons_succ, List.setIfInBounds_toArray, List.set_cons_zero, List.set_cons_succ]
      refine wpAnyH_ready (rs := [3, 4]) (by kernel_rfl) (by simp) ?_
      refine AllReadyH.cons rfl (fun K hK => ?g3t1_3) (AllReadyH.cons rfl (fun K hK => ?g4t1_3) (AllReadyH.nil))
      case g3t1_3 =>
        go_simp
        go_at_call 19
        refine (punhide HLab _ _ _ hS2 (hl2.any) hg).mono ?_
        rintro e U4 ⟨vl, rfl, hl4, bn4⟩
        obtain ⟨hd1, ka1, kn1, kc1, da1, dn1, dc1, rfl⟩ := hl4.shape
        have hS4 := hS2.trans (bn4.mono hS2.size)
        refine hK.out _ _ hS4 (fun hHeld2 => ?ra4_1)
        case ra4_1 =>
        clear hK K hHeld2
        try simp only [Act.put, List.getElem_toArray, List.getElem_cons_zero, List.getElem_cons_succ, List.setIfInBounds_toArray, List.set_cons_zero, List.set_cons_succ]
        refine wpAnyH_ready (rs := [4]) (by kernel_rfl) (by simp) ?_
        refine AllReadyH.cons rfl (fun K hK => ?g4t1_5) (AllReadyH.nil)
        case g4t1_5 =>
        go_simp
        have hS6 : Below W6.heap.size W6 (U4.alloc (.cells #[.int .i64 0, .int .u64 0, .bool false, .string ⟨#[]⟩, .int .i64 0, .string ⟨#[]⟩, .slice none 0 0, .slice none 0 0, .int .i64 0] 42)) := hS4.alloc hS4.size _
        have bA6 : Below (U4.alloc (.cells #[.int .i64 0, .int .u64 0, .bool false, .string ⟨#[]⟩, .int .i64 0, .string ⟨#[]⟩, .slice none 0 0, .slice none 0 0, .int .i64 0] 42)).heap.size (U4.alloc (.cells #[.int .i64 0, .int .u64 0, .bool false, .string ⟨#[]⟩, .int .i64 0, .string ⟨#[]⟩, .slice none 0 0, .slice none 0 0, .int .i64 0] 42)) (U4.alloc (.cells #[.int .i64 0, .int .u64 0, .bool false, .string ⟨#[]⟩, .int .i64 0, .string ⟨#[]⟩, .slice none 0 0, .slice none 0 0, .int .i64 0] 42)) := Below.refl _ _
        refine hK.out _ _ hS6 (fun hHeld2 => ?ra6_1)
        case ra6_1 =>
        clear hK K hHeld2
        try simp only [Act.put, List.getElem_toArray, List.getElem_cons_zero, List.getElem_cons_succ, List.setIfInBounds_toArray, List.set_cons_zero, List.set_cons_succ]
        refine wpAnyH_ready (rs := [5]) (by kernel_rfl) (by simp) ?_
        refine AllReadyH.cons rfl (fun K hK => ?g5t1_7) (AllReadyH.nil)
        case g5t1_7 =>
        go_simp
        refine hK.out _ _ ?hq8_1 (fun hHeld3 => ?rc8_1)
        case hq8_1 => first | with_reducible exact hS4.alloc hS4.size _ | exact hS4.alloc hS4.size _
        case rc8_1 =>
        clear hK K
        try simp only [Act.put, List.getElem_toArray, List.getElem_cons_zero, List.getElem_cons_succ, List.setIfInBounds_toArray, List.set_cons_zero, List.set_cons_succ]
        refine wpAnyH_done (by kernel_rfl) ?_ _
        clear hHeld3
        go_wp2_with fail
        go_meet
        exact ⟨t, hd1, ka1, kn1, kc1, da1, dn1, dc1, _, rfl, hg, Nine.of (Box.new _ _ _), hl4.any.below ((Below.refl _ _).alloc (Nat.le_refl _) _), hS4.alloc hS4.size _⟩
      case g4t1_3 =>
        go_simp
        have hS9 : Below W6.heap.size W6 (U2.alloc (.cells #[.int .i64 0, .int .u64 0, .bool false, .string ⟨#[]⟩, .int .i64 0, .string ⟨#[]⟩, .slice none 0 0, .slice none 0 0, .int .i64 0] 42)) := hS2.alloc hS2.size _
        have bA9 : Below (U2.alloc (.cells #[.int .i64 0, .int .u64 0, .bool false, .string ⟨#[]⟩, .int .i64 0, .string ⟨#[]⟩, .slice none 0 0, .slice none 0 0, .int .i64 0] 42)).heap.size (U2.alloc (.cells #[.int .i64 0, .int .u64 0, .bool false, .string ⟨#[]⟩, .int .i64 0, .string ⟨#[]⟩, .slice none 0 0, .slice none 0 0, .int .i64 0] 42)) (U2.alloc (.cells #[.int .i64 0, .int .u64 0, .bool false, .string ⟨#[]⟩, .int .i64 0, .string ⟨#[]⟩, .slice none 0 0, .slice none 0 0, .int .i64 0] 42)) := Below.refl _ _
        have hl9 := (hl2.any).below ((Below.refl _ U2).alloc (Nat.le_refl _) (.cells #[.int .i64 0, .int .u64 0, .bool false, .string ⟨#[]⟩, .int .i64 0, .string ⟨#[]⟩, .slice none 0 0, .slice none 0 0, .int .i64 0] 42))
        refine hK.out _ _ hS9 (fun hHeld2 => ?ra9_1)
        case ra9_1 =>
        clear hK K hHeld2
        try simp only [Act.put, List.getElem_toArray, List.getElem_cons_zero, List.getElem_cons_succ, List.setIfInBounds_toArray, List.set_cons_zero, List.set_cons_succ]
        refine wpAnyH_ready (rs := [3]) (by kernel_rfl) (by simp) ?_
        refine AllReadyH.cons rfl (fun K hK => ?g3t1_10) (AllReadyH.nil)
        case g3t1_10 =>
        go_simp
        go_at_call 19
        refine (punhide HLab _ _ _ hS9 (hl9) hg).mono ?_
        rintro e U11 ⟨vl, rfl, hl11, bn11⟩
        obtain ⟨hd1, ka1, kn1, kc1, da1, dn1, dc1, rfl⟩ := hl11.shape
        have hS11 := hS9.trans (bn11.mono hS9.size)
        have bA11 := bA9.trans (bn11.mono bA9.size)
        refine hK.out _ _ hS11 (fun hHeld2 => ?ra11_1)
        case ra11_1 =>
        clear hK K hHeld2
        try simp only [Act.put, List.getElem_toArray, List.getElem_cons_zero, List.getElem_cons_succ, List.setIfInBounds_toArray, List.set_cons_zero, List.set_cons_succ]
        obtain ⟨bx, bf, bz⟩ := (show Box U11 U2.heap.size #[.int .i64 0, .int .u64 0, .bool false, .string ⟨#[]⟩, .int .i64 0, .string ⟨#[]⟩, .slice none 0 0, .slice none 0 0, .int .i64 0] from (Box.new U2 #[.int .i64 0, .int .u64 0, .bool false, .string ⟨#[]⟩, .int .i64 0, .string ⟨#[]⟩, .slice none 0 0, .slice none 0 0, .int .i64 0] 42).kept (ok := anyB) (Kept.of_below bA11) trivial)
        have hgb : W6.heap.size ≤ U2.heap.size := hS2.size
        have hgl : U2.heap.size < (U2.alloc (.cells #[.int .i64 0, .int .u64 0, .bool false, .string ⟨#[]⟩, .int .i64 0, .string ⟨#[]⟩, .slice none 0 0, .slice none 0 0, .int .i64 0] 42)).heap.size := by simp
        have HBX := phide bx
        refine wpAnyH_ready (rs := [5]) (by kernel_rfl) (by simp) ?_
        refine AllReadyH.cons rfl (fun K hK => ?g5t1_12) (AllReadyH.nil)
        case g5t1_12 =>
        go_simp
        refine hK.out _ _ ?hq13_1 (fun hHeld3 => ?rc13_1)
        case hq13_1 => exact (((((((((hS11.setCell (p := ⟨_, 0, none⟩) hgb _).setCell (p := ⟨_, 1, none⟩) hgb _).setCell (p := ⟨_, 2, none⟩) hgb _).setCell (p := ⟨_, 3, none⟩) hgb _).setCell (p := ⟨_, 4, none⟩) hgb _).setCell (p := ⟨_, 5, none⟩) hgb _).setCell (p := ⟨_, 6, none⟩) hgb _).setCell (p := ⟨_, 7, none⟩) hgb _).setCell (p := ⟨_, 8, none⟩) hgb _)
        case rc13_1 =>
        clear hK K
        try simp only [Act.put, List.getElem_toArray, List.getElem_cons_zero, List.getElem_cons_succ, List.setIfInBounds_toArray, List.set_cons_zero, List.set_cons_succ]
        refine wpAnyH_done (by kernel_rfl) ?_ _
        clear hHeld3
        go_wp2_with fail
        go_meet
        exact ⟨t, hd1, ka1, kn1, kc1, da1, dn1, dc1, _, rfl, hg, nine_store _ _ _ _ _ _ _ _ _ (fun r hr => by rw [punhide HBX r, Array.getElem?_eq_getElem (by simpa using hr)]; rfl) bz, (hl11.keep (setCells_kept (ok := fun b => (U2.alloc (.cells #[.int .i64 0, .int .u64 0, .bool false, .string ⟨#[]⟩, .int .i64 0, .string ⟨#[]⟩, .slice none 0 0, .slice none 0 0, .int .i64 0] 42)).heap.size ≤ b) U11 _ 0 [.int .i64 hd1.k, .int .u64 (hd1.m : Int), .bool hd1.ng, .string hd1.dg, .int .i64 hd1.sc, .string hd1.tx, .slice ka1 kn1 kc1, .slice da1 dn1 dc1, .int .i64 hd1.cd] (fun b hb e => by omega)) (fun _ _ q => q)).any, setCells_below hS11 hgb 0 [.int .i64 hd1.k, .int .u64 (hd1.m : Int), .bool hd1.ng, .string hd1.dg, .int .i64 hd1.sc, .string hd1.tx, .slice ka1 kn1 kc1, .slice da1 dn1 dc1, .int .i64 hd1.cd]⟩
    case g4t1_1 =>
      go_simp
      have hS14 : Below W6.heap.size W6 (W6.drew.alloc (.cells #[.int .i64 0, .int .u64 0, .bool false, .string ⟨#[]⟩, .int .i64 0, .string ⟨#[]⟩, .slice none 0 0, .slice none 0 0, .int .i64 0] 42)) := hS.alloc hS.size _
      have bA14 : Below (W6.drew.alloc (.cells #[.int .i64 0, .int .u64 0, .bool false, .string ⟨#[]⟩, .int .i64 0, .string ⟨#[]⟩, .slice none 0 0, .slice none 0 0, .int .i64 0] 42)).heap.size (W6.drew.alloc (.cells #[.int .i64 0, .int .u64 0, .bool false, .string ⟨#[]⟩, .int .i64 0, .string ⟨#[]⟩, .slice none 0 0, .slice none 0 0, .int .i64 0] 42)) (W6.drew.alloc (.cells #[.int .i64 0, .int .u64 0, .bool false, .string ⟨#[]⟩, .int .i64 0, .string ⟨#[]⟩, .slice none 0 0, .slice none 0 0, .int .i64 0] 42)) := Below.refl _ _
      refine hK.out _ _ hS14 (fun hHeld2 => ?ra14_1)
      case ra14_1 =>
      clear hK K hHeld2
      try simp only [Act.put, List.getElem_toArray, List.getElem_cons_zero, List.getElem_cons_succ, List.setIfInBounds_toArray, List.set_cons_zero, List.set_cons_succ]
      refine wpAnyH_ready (rs := [2]) (by kernel_rfl) (by simp) ?_
      refine AllReadyH.cons rfl (fun K hK => ?g2t1_15) (AllReadyH.nil)
      case g2t1_15 =>
      go_simp
      go_at_call 18
      refine (punhide HBu _ hS14).mono ?_
      rintro e U16 ⟨vt, t, rfl, hl16, hg, bn16⟩
      obtain ⟨hd21, ka21, kn21, kc21, da21, dn21, dc21, rfl⟩ := hl16.shape
      have hS16 := hS14.trans (bn16.mono hS14.size)
      have bA16 := bA14.trans (bn16.mono bA14.size)
      refine hK.out _ _ hS16 (fun hHeld2 => ?ra16_1)
      case ra16_1 =>
      clear hK K hHeld2
      try simp only [Act.put, List.getElem_toArray, List.getElem_cons_zero, List.getElem_cons_succ, List.setIfInBounds_toArray, List.set_cons_zero, List.set_cons_succ]
      refine wpAnyH_ready (rs := [3]) (by kernel_rfl) (by simp) ?_
      refine AllReadyH.cons rfl (fun K hK => ?g3t1_17) (AllReadyH.nil)
      case g3t1_17 =>
      go_simp
      go_at_call 19
      refine (punhide HLab _ _ _ hS16 (hl16.any) hg).mono ?_
      rintro e U18 ⟨vl, rfl, hl18, bn18⟩
      obtain ⟨hd1, ka1, kn1, kc1, da1, dn1, dc1, rfl⟩ := hl18.shape
      have hS18 := hS16.trans (bn18.mono hS16.size)
      have bA18 := bA16.trans (bn18.mono bA16.size)
      refine hK.out _ _ hS18 (fun hHeld2 => ?ra18_1)
      case ra18_1 =>
      clear hK K hHeld2
      try simp only [Act.put, List.getElem_toArray, List.getElem_cons_zero, List.getElem_cons_succ, List.setIfInBounds_toArray, List.set_cons_zero, List.set_cons_succ]
      obtain ⟨bx, bf, bz⟩ := (show Box U18 W6.heap.size #[.int .i64 0, .int .u64 0, .bool false, .string ⟨#[]⟩, .int .i64 0, .string ⟨#[]⟩, .slice none 0 0, .slice none 0 0, .int .i64 0] from (Box.new W6.drew #[.int .i64 0, .int .u64 0, .bool false, .string ⟨#[]⟩, .int .i64 0, .string ⟨#[]⟩, .slice none 0 0, .slice none 0 0, .int .i64 0] 42).kept (ok := anyB) (Kept.of_below bA18) trivial)
      have hgb : W6.heap.size ≤ W6.heap.size := hS.size
      have hgl : W6.heap.size < U16.heap.size := by have h := (bA16).size; rw [show (W6.drew.alloc (.cells #[.int .i64 0, .int .u64 0, .bool false, .string ⟨#[]⟩, .int .i64 0, .string ⟨#[]⟩, .slice none 0 0, .slice none 0 0, .int .i64 0] 42)).heap.size = W6.heap.size + 1 by simp] at h; omega
      have HBX := phide bx
      refine wpAnyH_ready (rs := [5]) (by kernel_rfl) (by simp) ?_
      refine AllReadyH.cons rfl (fun K hK => ?g5t1_19) (AllReadyH.nil)
      case g5t1_19 =>
      go_simp
      refine hK.out _ _ ?hq20_1 (fun hHeld3 => ?rc20_1)
      case hq20_1 => exact (((((((((hS18.setCell (p := ⟨_, 0, none⟩) hgb _).setCell (p := ⟨_, 1, none⟩) hgb _).setCell (p := ⟨_, 2, none⟩) hgb _).setCell (p := ⟨_, 3, none⟩) hgb _).setCell (p := ⟨_, 4, none⟩) hgb _).setCell (p := ⟨_, 5, none⟩) hgb _).setCell (p := ⟨_, 6, none⟩) hgb _).setCell (p := ⟨_, 7, none⟩) hgb _).setCell (p := ⟨_, 8, none⟩) hgb _)
      case rc20_1 =>
      clear hK K
      try simp only [Act.put, List.getElem_toArray, List.getElem_cons_zero, List.getElem_cons_succ, List.setIfInBounds_toArray, List.set_cons_zero, List.set_cons_succ]
      refine wpAnyH_done (by kernel_rfl) ?_ _
      clear hHeld3
      go_wp2_with fail
      go_meet
      exact ⟨t, hd1, ka1, kn1, kc1, da1, dn1, dc1, _, rfl, hg, nine_store _ _ _ _ _ _ _ _ _ (fun r hr => by rw [punhide HBX r, Array.getElem?_eq_getElem (by simpa using hr)]; rfl) bz, (hl18.keep (setCells_kept (ok := fun b => U16.heap.size ≤ b) U18 _ 0 [.int .i64 hd1.k, .int .u64 (hd1.m : Int), .bool hd1.ng, .string hd1.dg, .int .i64 hd1.sc, .string hd1.tx, .slice ka1 kn1 kc1, .slice da1 dn1 dc1, .int .i64 hd1.cd] (fun b hb e => by omega)) (fun _ _ q => q)).any, setCells_below hS18 hgb 0 [.int .i64 hd1.k, .int .u64 (hd1.m : Int), .bool hd1.ng, .string hd1.dg, .int .i64 hd1.sc, .string hd1.tx, .slice ka1 kn1 kc1, .slice da1 dn1 dc1, .int .i64 hd1.cd]⟩
  case rest =>
  obtain ⟨t1, hd1, ka1, kn1, kc1, da1, dn1, dc1, gb1, rfl, hg1, hn9, hl1, hB⟩ := hcut
  have HA : Hid (∀ W, Below wc.heap.size wc W → Nine W gb1 #[.int .i64 hd1.k, .int .u64 (hd1.m : Int), .bool hd1.ng, .string hd1.dg, .int .i64 hd1.sc, .string hd1.tx, .slice ka1 kn1 kc1, .slice da1 dn1 dc1, .int .i64 hd1.cd] ∧ Lies anyB W 100 (.agg #[.int .i64 hd1.k, .int .u64 (hd1.m : Int), .bool hd1.ng, .string hd1.dg, .int .i64 hd1.sc, .string hd1.tx, .slice ka1 kn1 kc1, .slice da1 dn1 dc1, .int .i64 hd1.cd]) (labelT p'.marks 100 [] t1)) := phide (fun W hW => ⟨hn9.below hW, hl1.below hW⟩)
  have HBA := phide hB
  have HC5' := phide (fun (W : World) (hW : Below wc.heap.size wc W) => punhide HC5 W (hB.trans (hW.mono hB.size)))
  have HBu1' := phide (fun (W : World) (hW : Below wc.heap.size wc W) => punhide HBu1 W (hB.trans (hW.mono hB.size)))
  have HLab' := phide (fun (W : World) (v : Value) (t : Tr) (hW : Below wc.heap.size wc W) => punhide HLab W v t (hB.trans (hW.mono hB.size)))
  have HPl' := phide (fun (W : World) (v : Value) (t : Tr) (g : Nat) (hW : Below wc.heap.size wc W) => punhide HPl W v t g (hB.trans (hW.mono hB.size)))
  clear hn9 hl1 hB hS0 HC5 HBu HBu1 HLab HPl
  have HC5 := HC5'
  have HBu1 := HBu1'
  have HLab := HLab'
  have HPl := HPl'
  clear HC5' HBu1' HLab' HPl'
  have hS0 : Below wc.heap.size wc wc := Below.refl _ _
  go_upto_region 6 with fail
  generalize hWA : wc = WA at HA HBA HC5 HBu1 HLab HPl hS0 ⊢
  clear hWA
  go_cut [9] from 21 to 24 (fun v8 wx => ∃ (t : Tr) (hd : Hd) (ka : Option Addr) (kn kc : Nat) (da : Option Addr) (dn dc gb : Nat), v8 = .pointer (some ⟨gb, 0, none⟩) ∧ goodT 100 t ∧ Nine wx gb #[.int .i64 hd.k, .int .u64 (hd.m : Int), .bool hd.ng, .string hd.dg, .int .i64 hd.sc, .string hd.tx, .slice ka kn kc, .slice da dn dc, .int .i64 hd.cd] ∧ Lies anyB wx 100 (.agg #[.int .i64 hd.k, .int .u64 (hd.m : Int), .bool hd.ng, .string hd.dg, .int .i64 hd.sc, .string hd.tx, .slice ka kn kc, .slice da dn dc, .int .i64 hd.cd]) (labelT p'.marks 100 [] t) ∧ Below WA.heap.size WA wx)
  case first =>
    have hS : Below WA.heap.size WA WA.drew := hS0.drew
    refine wp_region_held_drew (S := fun W' => Below WA.heap.size WA W') (by kernel_rfl) ?hS02 (fun hHeld => ?rest02)
    case hS02 => exact hS
    case rest02 =>
    clear hHeld
    refine wpAnyH_take (i := 0) (v := .agg #[.slice a' n' c', .slice b' m' d', .string tok', .int .i64 p'.fuel, .int .i64 p'.quota]) rfl (by kernel_rfl) (by kernel_rfl) (by kernel_rfl) (fun _ _ _ h => h) (Or.inl ⟨by rfl, ?hy02⟩) (by first | assumption | exact hS) ?r02
    case hy02 => ((intro w hSw; (try dsimp only at hSw); obtain ⟨z0, z1, z2, z3, z4⟩ := punhide HC5 _ hSw; go_simp) <;> with_reducible rfl)
    case r02 =>
    try simp only [Act.put, List.getElem_toArray, List.getElem_cons_zero, List.getElem_cons_succ, List.setIfInBounds_toArray, List.set_cons_zero, List.set_cons_succ]
    refine wpAnyH_take (i := 1) (v := .slice a1 n1 c1) rfl (by kernel_rfl) (by kernel_rfl) (by kernel_rfl) (fun _ _ _ h => h) (Or.inl ⟨by rfl, ?hy12⟩) (by first | assumption | exact hS) ?r12
    case hy12 => ((intro w hSw; (try dsimp only at hSw); obtain ⟨z0, z1, z2, z3, z4⟩ := punhide HC5 _ hSw; go_simp) <;> with_reducible rfl)
    case r12 =>
    try simp only [Act.put, List.getElem_toArray, List.getElem_cons_zero, List.getElem_cons_succ, List.setIfInBounds_toArray, List.set_cons_zero, List.set_cons_succ]
    refine wpAnyH_ready (rs := [2, 4]) (by kernel_rfl) (by simp) ?_
    refine AllReadyH.cons rfl (fun K hK => ?g2t2_21) (AllReadyH.cons rfl (fun K hK => ?g4t2_21) (AllReadyH.nil))
    case g2t2_21 =>
      go_simp
      go_at_call 18
      refine (punhide HBu1 _ hS).mono ?_
      rintro e U22 ⟨vt, t, rfl, hl22, hg, bn22⟩
      obtain ⟨hd22, ka22, kn22, kc22, da22, dn22, dc22, rfl⟩ := hl22.shape
      have hS22 := hS.trans (bn22.mono hS.size)
      refine hK.out _ _ hS22 (fun hHeld2 => ?ra22_2)
      case ra22_2 =>
      clear hK K hHeld2
      try simp only [Act.put, List.getElem_toArray, List.getElem_cons_zero, List.getElem_cons_succ, List.setIfInBounds_toArray, List.set_cons_zero, List.set_cons_succ]
      refine wpAnyH_ready (rs := [3, 4]) (by kernel_rfl) (by simp) ?_
      refine AllReadyH.cons rfl (fun K hK => ?g3t2_23) (AllReadyH.cons rfl (fun K hK => ?g4t2_23) (AllReadyH.nil))
      case g3t2_23 =>
        go_simp
        go_at_call 19
        refine (punhide HLab _ _ _ hS22 (hl22.any) hg).mono ?_
        rintro e U24 ⟨vl, rfl, hl24, bn24⟩
        obtain ⟨hd2, ka2, kn2, kc2, da2, dn2, dc2, rfl⟩ := hl24.shape
        have hS24 := hS22.trans (bn24.mono hS22.size)
        refine hK.out _ _ hS24 (fun hHeld2 => ?ra24_2)
        case ra24_2 =>
        clear hK K hHeld2
        try simp only [Act.put, List.getElem_toArray, List.getElem_cons_zero, List.getElem_cons_succ, List.setIfInBounds_toArray, List.set_cons_zero, List.set_cons_succ]
        refine wpAnyH_ready (rs := [4]) (by kernel_rfl) (by simp) ?_
        refine AllReadyH.cons rfl (fun K hK => ?g4t2_25) (AllReadyH.nil)
        case g4t2_25 =>
        go_simp
        have hS26 : Below WA.heap.size WA (U24.alloc (.cells #[.int .i64 0, .int .u64 0, .bool false, .string ⟨#[]⟩, .int .i64 0, .string ⟨#[]⟩, .slice none 0 0, .slice none 0 0, .int .i64 0] 42)) := hS24.alloc hS24.size _
        have bA26 : Below (U24.alloc (.cells #[.int .i64 0, .int .u64 0, .bool false, .string ⟨#[]⟩, .int .i64 0, .string ⟨#[]⟩, .slice none 0 0, .slice none 0 0, .int .i64 0] 42)).heap.size (U24.alloc (.cells #[.int .i64 0, .int .u64 0, .bool false, .string ⟨#[]⟩, .int .i64 0, .string ⟨#[]⟩, .slice none 0 0, .slice none 0 0, .int .i64 0] 42)) (U24.alloc (.cells #[.int .i64 0, .int .u64 0, .bool false, .string ⟨#[]⟩, .int .i64 0, .string ⟨#[]⟩, .slice none 0 0, .slice none 0 0, .int .i64 0] 42)) := Below.refl _ _
        refine hK.out _ _ hS26 (fun hHeld2 => ?ra26_2)
        case ra26_2 =>
        clear hK K hHeld2
        try simp only [Act.put, List.getElem_toArray, List.getElem_cons_zero, List.getElem_cons_succ, List.setIfInBounds_toArray, List.set_cons_zero, List.set_cons_succ]
        refine wpAnyH_ready (rs := [5]) (by kernel_rfl) (by simp) ?_
        refine AllReadyH.cons rfl (fun K hK => ?g5t2_27) (AllReadyH.nil)
        case g5t2_27 =>
        go_simp
        refine hK.out _ _ ?hq28_2 (fun hHeld3 => ?rc28_2)
        case hq28_2 => first | with_reducible exact hS24.alloc hS24.size _ | exact hS24.alloc hS24.size _
        case rc28_2 =>
        clear hK K
        try simp only [Act.put, List.getElem_toArray, List.getElem_cons_zero, List.getElem_cons_succ, List.setIfInBounds_toArray, List.set_cons_zero, List.set_cons_succ]
        refine wpAnyH_done (by kernel_rfl) ?_ _
        clear hHeld3
        go_wp2_with fail
        go_meet
        exact ⟨t, hd2, ka2, kn2, kc2, da2, dn2, dc2, _, rfl, hg, Nine.of (Box.new _ _ _), hl24.any.below ((Below.refl _ _).alloc (Nat.le_refl _) _), hS24.alloc hS24.size _⟩
      case g4t2_23 =>
        go_simp
        have hS29 : Below WA.heap.size WA (U22.alloc (.cells #[.int .i64 0, .int .u64 0, .bool false, .string ⟨#[]⟩, .int .i64 0, .string ⟨#[]⟩, .slice none 0 0, .slice none 0 0, .int .i64 0] 42)) := hS22.alloc hS22.size _
        have bA29 : Below (U22.alloc (.cells #[.int .i64 0, .int .u64 0, .bool false, .string ⟨#[]⟩, .int .i64 0, .string ⟨#[]⟩, .slice none 0 0, .slice none 0 0, .int .i64 0] 42)).heap.size (U22.alloc (.cells #[.int .i64 0, .int .u64 0, .bool false, .string ⟨#[]⟩, .int .i64 0, .string ⟨#[]⟩, .slice none 0 0, .slice none 0 0, .int .i64 0] 42)) (U22.alloc (.cells #[.int .i64 0, .int .u64 0, .bool false, .string ⟨#[]⟩, .int .i64 0, .string ⟨#[]⟩, .slice none 0 0, .slice none 0 0, .int .i64 0] 42)) := Below.refl _ _
        have hl29 := (hl22.any).below ((Below.refl _ U22).alloc (Nat.le_refl _) (.cells #[.int .i64 0, .int .u64 0, .bool false, .string ⟨#[]⟩, .int .i64 0, .string ⟨#[]⟩, .slice none 0 0, .slice none 0 0, .int .i64 0] 42))
        refine hK.out _ _ hS29 (fun hHeld2 => ?ra29_2)
        case ra29_2 =>
        clear hK K hHeld2
        try simp only [Act.put, List.getElem_toArray, List.getElem_cons_zero, List.getElem_cons_succ, List.setIfInBounds_toArray, List.set_cons_zero, List.set_cons_succ]
        refine wpAnyH_ready (rs := [3]) (by kernel_rfl) (by simp) ?_
        refine AllReadyH.cons rfl (fun K hK => ?g3t2_30) (AllReadyH.nil)
        case g3t2_30 =>
        go_simp
        go_at_call 19
        refine (punhide HLab _ _ _ hS29 (hl29) hg).mono ?_
        rintro e U31 ⟨vl, rfl, hl31, bn31⟩
        obtain ⟨hd2, ka2, kn2, kc2, da2, dn2, dc2, rfl⟩ := hl31.shape
        have hS31 := hS29.trans (bn31.mono hS29.size)
        have bA31 := bA29.trans (bn31.mono bA29.size)
        refine hK.out _ _ hS31 (fun hHeld2 => ?ra31_2)
        case ra31_2 =>
        clear hK K hHeld2
        try simp only [Act.put, List.getElem_toArray, List.getElem_cons_zero, List.getElem_cons_succ, List.setIfInBounds_toArray, List.set_cons_zero, List.set_cons_succ]
        obtain ⟨bx, bf, bz⟩ := (show Box U31 U22.heap.size #[.int .i64 0, .int .u64 0, .bool false, .string ⟨#[]⟩, .int .i64 0, .string ⟨#[]⟩, .slice none 0 0, .slice none 0 0, .int .i64 0] from (Box.new U22 #[.int .i64 0, .int .u64 0, .bool false, .string ⟨#[]⟩, .int .i64 0, .string ⟨#[]⟩, .slice none 0 0, .slice none 0 0, .int .i64 0] 42).kept (ok := anyB) (Kept.of_below bA31) trivial)
        have hgb : WA.heap.size ≤ U22.heap.size := hS22.size
        have hgl : U22.heap.size < (U22.alloc (.cells #[.int .i64 0, .int .u64 0, .bool false, .string ⟨#[]⟩, .int .i64 0, .string ⟨#[]⟩, .slice none 0 0, .slice none 0 0, .int .i64 0] 42)).heap.size := by simp
        have HBX := phide bx
        refine wpAnyH_ready (rs := [5]) (by kernel_rfl) (by simp) ?_
        refine AllReadyH.cons rfl (fun K hK => ?g5t2_32) (AllReadyH.nil)
        case g5t2_32 =>
        go_simp
        refine hK.out _ _ ?hq33_2 (fun hHeld3 => ?rc33_2)
        case hq33_2 => exact (((((((((hS31.setCell (p := ⟨_, 0, none⟩) hgb _).setCell (p := ⟨_, 1, none⟩) hgb _).setCell (p := ⟨_, 2, none⟩) hgb _).setCell (p := ⟨_, 3, none⟩) hgb _).setCell (p := ⟨_, 4, none⟩) hgb _).setCell (p := ⟨_, 5, none⟩) hgb _).setCell (p := ⟨_, 6, none⟩) hgb _).setCell (p := ⟨_, 7, none⟩) hgb _).setCell (p := ⟨_, 8, none⟩) hgb _)
        case rc33_2 =>
        clear hK K
        try simp only [Act.put, List.getElem_toArray, List.getElem_cons_zero, List.getElem_cons_succ, List.setIfInBounds_toArray, List.set_cons_zero, List.set_cons_succ]
        refine wpAnyH_done (by kernel_rfl) ?_ _
        clear hHeld3
        go_wp2_with fail
        go_meet
        exact ⟨t, hd2, ka2, kn2, kc2, da2, dn2, dc2, _, rfl, hg, nine_store _ _ _ _ _ _ _ _ _ (fun r hr => by rw [punhide HBX r, Array.getElem?_eq_getElem (by simpa using hr)]; rfl) bz, (hl31.keep (setCells_kept (ok := fun b => (U22.alloc (.cells #[.int .i64 0, .int .u64 0, .bool false, .string ⟨#[]⟩, .int .i64 0, .string ⟨#[]⟩, .slice none 0 0, .slice none 0 0, .int .i64 0] 42)).heap.size ≤ b) U31 _ 0 [.int .i64 hd2.k, .int .u64 (hd2.m : Int), .bool hd2.ng, .string hd2.dg, .int .i64 hd2.sc, .string hd2.tx, .slice ka2 kn2 kc2, .slice da2 dn2 dc2, .int .i64 hd2.cd] (fun b hb e => by omega)) (fun _ _ q => q)).any, setCells_below hS31 hgb 0 [.int .i64 hd2.k, .int .u64 (hd2.m : Int), .bool hd2.ng, .string hd2.dg, .int .i64 hd2.sc, .string hd2.tx, .slice ka2 kn2 kc2, .slice da2 dn2 dc2, .int .i64 hd2.cd]⟩
    case g4t2_21 =>
      go_simp
      have hS34 : Below WA.heap.size WA (WA.drew.alloc (.cells #[.int .i64 0, .int .u64 0, .bool false, .string ⟨#[]⟩, .int .i64 0, .string ⟨#[]⟩, .slice none 0 0, .slice none 0 0, .int .i64 0] 42)) := hS.alloc hS.size _
      have bA34 : Below (WA.drew.alloc (.cells #[.int .i64 0, .int .u64 0, .bool false, .string ⟨#[]⟩, .int .i64 0, .string ⟨#[]⟩, .slice none 0 0, .slice none 0 0, .int .i64 0] 42)).heap.size (WA.drew.alloc (.cells #[.int .i64 0, .int .u64 0, .bool false, .string ⟨#[]⟩, .int .i64 0, .string ⟨#[]⟩, .slice none 0 0, .slice none 0 0, .int .i64 0] 42)) (WA.drew.alloc (.cells #[.int .i64 0, .int .u64 0, .bool false, .string ⟨#[]⟩, .int .i64 0, .string ⟨#[]⟩, .slice none 0 0, .slice none 0 0, .int .i64 0] 42)) := Below.refl _ _
      refine hK.out _ _ hS34 (fun hHeld2 => ?ra34_2)
      case ra34_2 =>
      clear hK K hHeld2
      try simp only [Act.put, List.getElem_toArray, List.getElem_cons_zero, List.getElem_cons_succ, List.setIfInBounds_toArray, List.set_cons_zero, List.set_cons_succ]
      refine wpAnyH_ready (rs := [2]) (by kernel_rfl) (by simp) ?_
      refine AllReadyH.cons rfl (fun K hK => ?g2t2_35) (AllReadyH.nil)
      case g2t2_35 =>
      go_simp
      go_at_call 18
      refine (punhide HBu1 _ hS34).mono ?_
      rintro e U36 ⟨vt, t, rfl, hl36, hg, bn36⟩
      obtain ⟨hd22, ka22, kn22, kc22, da22, dn22, dc22, rfl⟩ := hl36.shape
      have hS36 := hS34.trans (bn36.mono hS34.size)
      have bA36 := bA34.trans (bn36.mono bA34.size)
      refine hK.out _ _ hS36 (fun hHeld2 => ?ra36_2)
      case ra36_2 =>
      clear hK K hHeld2
      try simp only [Act.put, List.getElem_toArray, List.getElem_cons_zero, List.getElem_cons_succ, List.setIfInBounds_toArray, List.set_cons_zero, List.set_cons_succ]
      refine wpAnyH_ready (rs := [3]) (by kernel_rfl) (by simp) ?_
      refine AllReadyH.cons rfl (fun K hK => ?g3t2_37) (AllReadyH.nil)
      case g3t2_37 =>
      go_simp
      go_at_call 19
      refine (punhide HLab _ _ _ hS36 (hl36.any) hg).mono ?_
      rintro e U38 ⟨vl, rfl, hl38, bn38⟩
      obtain ⟨hd2, ka2, kn2, kc2, da2, dn2, dc2, rfl⟩ := hl38.shape
      have hS38 := hS36.trans (bn38.mono hS36.size)
      have bA38 := bA36.trans (bn38.mono bA36.size)
      refine hK.out _ _ hS38 (fun hHeld2 => ?ra38_2)
      case ra38_2 =>
      clear hK K hHeld2
      try simp only [Act.put, List.getElem_toArray, List.getElem_cons_zero, List.getElem_cons_succ, List.setIfInBounds_toArray, List.set_cons_zero, List.set_cons_succ]
      obtain ⟨bx, bf, bz⟩ := (show Box U38 WA.heap.size #[.int .i64 0, .int .u64 0, .bool false, .string ⟨#[]⟩, .int .i64 0, .string ⟨#[]⟩, .slice none 0 0, .slice none 0 0, .int .i64 0] from (Box.new WA.drew #[.int .i64 0, .int .u64 0, .bool false, .string ⟨#[]⟩, .int .i64 0, .string ⟨#[]⟩, .slice none 0 0, .slice none 0 0, .int .i64 0] 42).kept (ok := anyB) (Kept.of_below bA38) trivial)
      have hgb : WA.heap.size ≤ WA.heap.size := hS.size
      have hgl : WA.heap.size < U36.heap.size := by have h := (bA36).size; rw [show (WA.drew.alloc (.cells #[.int .i64 0, .int .u64 0, .bool false, .string ⟨#[]⟩, .int .i64 0, .string ⟨#[]⟩, .slice none 0 0, .slice none 0 0, .int .i64 0] 42)).heap.size = WA.heap.size + 1 by simp] at h; omega
      have HBX := phide bx
      refine wpAnyH_ready (rs := [5]) (by kernel_rfl) (by simp) ?_
      refine AllReadyH.cons rfl (fun K hK => ?g5t2_39) (AllReadyH.nil)
      case g5t2_39 =>
      go_simp
      refine hK.out _ _ ?hq40_2 (fun hHeld3 => ?rc40_2)
      case hq40_2 => exact (((((((((hS38.setCell (p := ⟨_, 0, none⟩) hgb _).setCell (p := ⟨_, 1, none⟩) hgb _).setCell (p := ⟨_, 2, none⟩) hgb _).setCell (p := ⟨_, 3, none⟩) hgb _).setCell (p := ⟨_, 4, none⟩) hgb _).setCell (p := ⟨_, 5, none⟩) hgb _).setCell (p := ⟨_, 6, none⟩) hgb _).setCell (p := ⟨_, 7, none⟩) hgb _).setCell (p := ⟨_, 8, none⟩) hgb _)
      case rc40_2 =>
      clear hK K
      try simp only [Act.put, List.getElem_toArray, List.getElem_cons_zero, List.getElem_cons_succ, List.setIfInBounds_toArray, List.set_cons_zero, List.set_cons_succ]
      refine wpAnyH_done (by kernel_rfl) ?_ _
      clear hHeld3
      go_wp2_with fail
      go_meet
      exact ⟨t, hd2, ka2, kn2, kc2, da2, dn2, dc2, _, rfl, hg, nine_store _ _ _ _ _ _ _ _ _ (fun r hr => by rw [punhide HBX r, Array.getElem?_eq_getElem (by simpa using hr)]; rfl) bz, (hl38.keep (setCells_kept (ok := fun b => U36.heap.size ≤ b) U38 _ 0 [.int .i64 hd2.k, .int .u64 (hd2.m : Int), .bool hd2.ng, .string hd2.dg, .int .i64 hd2.sc, .string hd2.tx, .slice ka2 kn2 kc2, .slice da2 dn2 dc2, .int .i64 hd2.cd] (fun b hb e => by omega)) (fun _ _ q => q)).any, setCells_below hS38 hgb 0 [.int .i64 hd2.k, .int .u64 (hd2.m : Int), .bool hd2.ng, .string hd2.dg, .int .i64 hd2.sc, .string hd2.tx, .slice ka2 kn2 kc2, .slice da2 dn2 dc2, .int .i64 hd2.cd]⟩
  case rest =>
  obtain ⟨t2, hd2, ka2, kn2, kc2, da2, dn2, dc2, gb2, rfl, hg2, hm9, hl2, hB⟩ := hcut
  obtain ⟨hn9, hl1⟩ := punhide HA wc hB
  have e1 : maskL [] p'.marks = hd1.m := (label_hd p'.marks 99 [] t1).symm.trans hl1.mask.1
  have e2 : maskL [] p'.marks = hd2.m := (label_hd p'.marks 99 [] t2).symm.trans hl2.mask.1
  have hmm : hd1.m = hd2.m := e1.symm.trans e2
  have HF : Hid (∀ W, Below wc.heap.size wc W → Below w.heap.size w W) := phide (fun W hW => (punhide HBW W ((punhide HBA).trans ((hB.trans (hW.mono hB.size)).mono (punhide HBA).size))).1)
  have HB2 : Hid (∀ W, Below wc.heap.size wc W → Nine W gb2 #[.int .i64 hd2.k, .int .u64 (hd2.m : Int), .bool hd2.ng, .string hd2.dg, .int .i64 hd2.sc, .string hd2.tx, .slice ka2 kn2 kc2, .slice da2 dn2 dc2, .int .i64 hd2.cd] ∧ Lies anyB W 100 (.agg #[.int .i64 hd2.k, .int .u64 (hd2.m : Int), .bool hd2.ng, .string hd2.dg, .int .i64 hd2.sc, .string hd2.tx, .slice ka2 kn2 kc2, .slice da2 dn2 dc2, .int .i64 hd2.cd]) (labelT p'.marks 100 [] t2)) := phide (fun W hW => ⟨hm9.below hW, hl2.below hW⟩)
  obtain ⟨x0, x1, x2, x3, x4, x5, x6, x7, x8⟩ := hn9.all
  obtain ⟨y0, y1, y2, y3, y4, y5, y6, y7, y8⟩ := hm9.all
  obtain ⟨z0, z1, z2, z3, z4⟩ := punhide HC5 wc hB
  have al : Below wc.heap.size wc (wc.alloc (.cells #[] 57)) := (Below.refl _ _).alloc (Nat.le_refl _) _
  have y1' : wc.cell? ⟨gb2, 1, none⟩ = some (.int .u64 (hd1.m : Int)) := by rw [hmm]; exact y1
  clear y1
  have C1 := punhide HPl (wc.alloc (.cells #[] 57)) _ _ wc.heap.size (hB.trans (al.mono hB.size)) (hl1.below al) hg1 (by simp)
  have HBB := phide hB
  clear hn9 hm9 hl1 hl2 e1 e2 hmm hB al
  go_wp2_with fail
  refine C1.mono ?_
  rintro e w7 ⟨rfl, b7⟩
  clear C1 x0 x1 x2 x3 x4 x5 x6 x7 x8 y0 y1' y2 y3 y4 y5 y6 y7 y8 z0 z1 z2 z3 z4
  have hB7 : Below wc.heap.size wc w7 := ((Below.refl _ wc).alloc (Nat.le_refl _) (.cells #[] 57)).trans (b7.mono (by simp))
  have hB := (punhide HBB).trans (hB7.mono (punhide HBB).size)
  obtain ⟨hm9, hl2⟩ := punhide HB2 w7 hB7
  obtain ⟨y0, y1, y2, y3, y4, y5, y6, y7, y8⟩ := hm9.all
  obtain ⟨z0, z1, z2, z3, z4⟩ := punhide HC5 w7 hB
  have al : Below w7.heap.size w7 (w7.alloc (.cells #[] 57)) := (Below.refl _ _).alloc (Nat.le_refl _) _
  have C2 := punhide HPl (w7.alloc (.cells #[] 57)) _ _ w7.heap.size (hB.trans (al.mono hB.size)) (hl2.below al) hg2 (by simp)
  have HB9 := phide (hB7.trans (al.mono hB7.size))
  clear hm9 hl2 b7 hB7 hB al
  go_wp2_with fail
  refine C2.mono ?_
  rintro e w8 ⟨rfl, b8⟩
  have hF := punhide HF w8 ((punhide HB9).trans (b8.mono (punhide HB9).size))
  clear C2 y0 y1 y2 y3 y4 y5 y6 y7 y8 z0 z1 z2 z3 z4 b8
  go_wp2
  go_ret
  exact ⟨rfl, hF⟩
end Go.Proofs.YtnagecbepidfiaaGreatDoor.Pol
