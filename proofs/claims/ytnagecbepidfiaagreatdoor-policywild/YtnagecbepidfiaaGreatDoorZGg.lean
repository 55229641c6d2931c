/- What is proved here: PolicyWild, walked; conditions: the tables and the two errors lie, the policy and the items lie. Written by wild8_gen.py. -/
import Derived.Test.YtnagecbepidfiaaGreatDoorZHg
import Derived.Test.YtnagecbepidfiaaGreatDoorZGf
namespace Go.Proofs.YtnagecbepidfiaaGreatDoor.Pol
set_option maxRecDepth 100000
open Go.RowKit Go.Proofs.YtnagecbepidfiaaGreatDoor.Nc Go.Proofs.YtnagecbepidfiaaGreatDoor.Np Go.Proofs.YtnagecbepidfiaaGreatDoor.Nq
set_option linter.unusedVariables false
set_option linter.unusedSimpArgs false

/-- A row of one mark of one step, written out, put into a box. -/
theorem mark_lit (D : World) (bb : Nat) (e : Nat) (he : D.heap.size = e) (hbb : bb < D.heap.size) (t : Pm.St) (B : Nat) (hB : B ≤ bb) :
    MarksIn (((D.setCell ⟨bb, 1, none⟩ (.slice (some ⟨e + 1, 0, none⟩) 1 1)).alloc (.cells #[.int .i64 t.k, .string t.s, .int .i64 t.n] 57)).alloc (.cells #[.slice (some ⟨e, 0, none⟩) 1 1, .int .u64 1] 59)) (some ⟨e + 1, 0, none⟩) 1 (oneM [t]) ∧
    (∀ v0 v1 v2 v3 v4, Five D bb v0 v1 v2 v3 v4 → Five (((D.setCell ⟨bb, 1, none⟩ (.slice (some ⟨e + 1, 0, none⟩) 1 1)).alloc (.cells #[.int .i64 t.k, .string t.s, .int .i64 t.n] 57)).alloc (.cells #[.slice (some ⟨e, 0, none⟩) 1 1, .int .u64 1] 59)) bb v0 (.slice (some ⟨e + 1, 0, none⟩) 1 1) v2 v3 v4) ∧
    Below B D (((D.setCell ⟨bb, 1, none⟩ (.slice (some ⟨e + 1, 0, none⟩) 1 1)).alloc (.cells #[.int .i64 t.k, .string t.s, .int .i64 t.n] 57)).alloc (.cells #[.slice (some ⟨e, 0, none⟩) 1 1, .int .u64 1] 59)) := by
  subst he
  have hs : (D.setCell ⟨bb, 1, none⟩ (.slice (some ⟨D.heap.size + 1, 0, none⟩) 1 1)).heap.size = D.heap.size := by simp [World.setCell]
  have b0 : Below B D (D.setCell ⟨bb, 1, none⟩ (.slice (some ⟨D.heap.size + 1, 0, none⟩) 1 1)) := (Below.refl B D).setCell (p := ⟨bb, 1, none⟩) hB _
  have hf : ∀ v0 v1 v2 v3 v4, Five D bb v0 v1 v2 v3 v4 → Five (D.setCell ⟨bb, 1, none⟩ (.slice (some ⟨D.heap.size + 1, 0, none⟩) 1 1)) bb v0 (.slice (some ⟨D.heap.size + 1, 0, none⟩) 1 1) v2 v3 v4 := fun v0 v1 v2 v3 v4 h => (h.put _).2.1
  generalize D.setCell ⟨bb, 1, none⟩ (.slice (some ⟨D.heap.size + 1, 0, none⟩) 1 1) = D0 at hs b0 hf ⊢
  have s1 : (D0.alloc (.cells #[.int .i64 t.k, .string t.s, .int .i64 t.n] 57)).heap.size = D.heap.size + 1 := by rw [← hs]; simp
  have a1 : Below D0.heap.size D0 (D0.alloc (.cells #[.int .i64 t.k, .string t.s, .int .i64 t.n] 57)) := (Below.refl _ _).alloc (Nat.le_refl _) _
  have r1 := row1_at D0 t 57 D.heap.size hs
  generalize D0.alloc (.cells #[.int .i64 t.k, .string t.s, .int .i64 t.n] 57) = D1 at s1 a1 r1 ⊢
  have a2 : Below D1.heap.size D1 (D1.alloc (.cells #[.slice (some ⟨D.heap.size, 0, none⟩) 1 1, .int .u64 1] 59)) := (Below.refl _ _).alloc (Nat.le_refl _) _
  have t2 := Two.new D1 (.slice (some ⟨D.heap.size, 0, none⟩) 1 1) (.int .u64 1) 59
  rw [s1] at t2
  have r2 := r1.step a2
  have a3 := a1.trans (a2.mono a1.size)
  refine ⟨⟨rfl, .inr ⟨D.heap.size + 1, 0, rfl, t2.lt, fun i hi => ?_⟩⟩, fun v0 v1 v2 v3 v4 h => (hf _ _ _ _ _ h).step a3, b0.trans (a3.mono (by rw [hs]; omega))⟩
  obtain rfl : i = 0 := by simp [oneM] at hi; omega
  exact ⟨by show 1 < 18446744073709551616; decide, some ⟨D.heap.size, 0, none⟩, 1, 1, t2.c0, t2.c1, rfl, .inr ⟨D.heap.size, 0, rfl, r2⟩⟩
theorem mark_bare (D : World) (bb : Nat) (e : Nat) (he : D.heap.size = e) (hbb : bb < D.heap.size) (B : Nat) (hB : B ≤ bb) :
    MarksIn ((D.setCell ⟨bb, 1, none⟩ (.slice (some ⟨e, 0, none⟩) 1 1)).alloc (.cells #[.slice none 0 0, .int .u64 1] 59)) (some ⟨e, 0, none⟩) 1 (oneM []) ∧
    (∀ v0 v1 v2 v3 v4, Five D bb v0 v1 v2 v3 v4 → Five ((D.setCell ⟨bb, 1, none⟩ (.slice (some ⟨e, 0, none⟩) 1 1)).alloc (.cells #[.slice none 0 0, .int .u64 1] 59)) bb v0 (.slice (some ⟨e, 0, none⟩) 1 1) v2 v3 v4) ∧
    Below B D ((D.setCell ⟨bb, 1, none⟩ (.slice (some ⟨e, 0, none⟩) 1 1)).alloc (.cells #[.slice none 0 0, .int .u64 1] 59)) := by
  subst he
  have hs : (D.setCell ⟨bb, 1, none⟩ (.slice (some ⟨D.heap.size, 0, none⟩) 1 1)).heap.size = D.heap.size := by simp [World.setCell]
  have b0 : Below B D (D.setCell ⟨bb, 1, none⟩ (.slice (some ⟨D.heap.size, 0, none⟩) 1 1)) := (Below.refl B D).setCell (p := ⟨bb, 1, none⟩) hB _
  have hf : ∀ v0 v1 v2 v3 v4, Five D bb v0 v1 v2 v3 v4 → Five (D.setCell ⟨bb, 1, none⟩ (.slice (some ⟨D.heap.size, 0, none⟩) 1 1)) bb v0 (.slice (some ⟨D.heap.size, 0, none⟩) 1 1) v2 v3 v4 := fun v0 v1 v2 v3 v4 h => (h.put _).2.1
  generalize D.setCell ⟨bb, 1, none⟩ (.slice (some ⟨D.heap.size, 0, none⟩) 1 1) = D0 at hs b0 hf ⊢
  have a2 : Below D0.heap.size D0 (D0.alloc (.cells #[.slice none 0 0, .int .u64 1] 59)) := (Below.refl _ _).alloc (Nat.le_refl _) _
  have t2 := Two.new D0 (.slice none 0 0) (.int .u64 1) 59
  rw [hs] at t2
  refine ⟨⟨rfl, .inr ⟨D.heap.size, 0, rfl, t2.lt, fun i hi => ?_⟩⟩, fun v0 v1 v2 v3 v4 h => (hf _ _ _ _ _ h).step a2, b0.trans (a2.mono (by rw [hs]; omega))⟩
  obtain rfl : i = 0 := by simp [oneM] at hi; omega
  exact ⟨by show 1 < 18446744073709551616; decide, none, 0, 0, t2.c0, t2.c1, rfl, .inl rfl⟩
/-- What a value's nine parts say of its tree. -/
theorem Lies.parts {w : World} {n : Nat} {hd : Hd} {ka da : Option Addr} {kn kc dn dc : Nat} {t : Tr} (h : Lies anyB w (n + 1) (.agg #[.int .i64 hd.k, .int .u64 (hd.m : Int), .bool hd.ng, .string hd.dg, .int .i64 hd.sc, .string hd.tx, .slice ka kn kc, .slice da dn dc, .int .i64 hd.cd]) t) :
    hd.k = (Tr.hd t).k ∧ hd.m = (Tr.hd t).m ∧ kn = (Tr.hd t).ks.length ∧ dn = (Tr.kd t).length ∧
    (∀ i, ∀ h : i < (Tr.hd t).ks.length, ∃ b o, ka = some ⟨b, o, none⟩ ∧ anyB b ∧ b < w.heap.size ∧ w.cell? ⟨b, o + i, none⟩ = some (.string ((Tr.hd t).ks[i]'h))) ∧
    (∀ i, ∀ h : i < (Tr.kd t).length, ∃ b o cs, da = some ⟨b, o, none⟩ ∧ anyB b ∧ b < w.heap.size ∧ Row9 w b (o + i * 9) cs ∧ Lies anyB w n (.agg cs) ((Tr.kd t)[i]'h)) := by
  obtain ⟨hd2, l, ka2, kc2, da2, dc2, rfl, e, hm, h1, h2, h3, h4⟩ := h.node
  have e2 := Value.agg.inj e
  simp only [Array.mk.injEq, List.cons.injEq, Value.slice.injEq, Value.int.injEq] at e2
  obtain ⟨⟨-, e3⟩, ⟨-, e4⟩, -, -, -, -, ⟨rfl, e6, rfl⟩, ⟨rfl, e7, rfl⟩, -⟩ := e2
  exact ⟨e3, by have : (hd.m : Int) = (hd2.m : Int) := e4; show hd.m = hd2.m; omega, e6, e7, h3, h4⟩

theorem key_deep100 {t : Tr} {j : Nat} (hg : goodH (Tr.hd t) (Tr.kd t).length) (hj : j < (Tr.kd t).length) : deepT 100 (labelT (oneM [stepT (Tr.hd t) j]) 100 [] t) = 1 := by
  have h : ∀ N, N = 98 + 2 → deepT N (labelT (oneM [stepT (Tr.hd t) j]) N [] t) = 1 := by
    intro N hN
    subst hN
    exact key_deep hg hj
  exact h 100 rfl

set_option maxRecDepth 100000 in
set_option maxHeartbeats 16000000 in
theorem wild8 (v : Value) (p : Po) (a0 : Option Addr) (n0 c0 : Nat) (z : Int) (w : World) (hn0 : n0 ≤ 140737488355328) (hit : ∀ i, i < n0 → i < 80 → ItemAt w a0 i) (hI : PolIn w v p) (hT : Tabs w) (hP : Pow w) (hE : Errs w) :
    Calls Tryz.prog 8 #[v, .slice a0 n0 c0, .int .i64 z] w fun e w' => e = .returned (.bool true) ∧ Below w.heap.size w w' := by
  have HIT := phide hit
  have HI0 := phide hI
  obtain ⟨a, n, c, b, m, d, tok, rfl, htok, hC, hM⟩ := hI
  have CF := fun W h => few8c (.agg #[.slice a n c, .slice b m d, .string tok, .int .i64 p.fuel, .int .i64 p.quota]) p W h
  have b1 : Below w.heap.size w (w.alloc (.cells #[.slice a n c, .slice b m d, .string tok, .int .i64 p.fuel, .int .i64 p.quota] 25)) := (Below.refl _ _).alloc (Nat.le_refl _) _
  have f1 := Five.new w (.slice a n c) (.slice b m d) (.string tok) (.int .i64 p.fuel) (.int .i64 p.quota) 25
  have HT : Hid (∀ W, Below w.heap.size w W → Tabs W ∧ Pow W ∧ Errs W) := phide (fun W hB => ⟨tabs_step hT hB, hP.next hB, Errs.next hE hB⟩)
  clear hT hP hE hC hM htok hit
  go_enter Tryz.func8, Tryz.ntmps8
  go_wp2_with fail
  refine (shown8 _ (punhide HT _ b1).1 (punhide HT _ b1).2.1 (punhide HT _ b1).2.2).mono ?_
  rintro e W1 ⟨rfl, b2⟩
  have hI1 := (punhide HI0).step b1 |>.step b2
  have f2 := f1.step b2
  have hB2 := b1.trans (b2.mono b1.size)
  clear b1 b2 f1
  obtain ⟨hl2, x0, x1, x2, x3, x4, -⟩ := id f2
  go_wp2_with fail
  refine (CF _ hI1).mono ?_
  rintro e W2 ⟨b3, v', p', rfl, hI2, hroom, hbnd⟩
  clear CF hI1 HI0 x0 x1 x2 x3 x4
  have f3 := f2.step b3
  have hB3 := hB2.trans (b3.mono hB2.size)
  obtain ⟨a', n', c', b', m', d', tok', rfl, htok, hC, hM⟩ := hI2
  have HRM := phide (MRoom.of hroom)
  clear hroom
  have hI3 : PolF W2 W1.heap.size (.agg #[.slice a' n' c', .slice b' m' d', .string tok', .int .i64 p'.fuel, .int .i64 p'.quota]) p' := ⟨a', n', c', b', m', d', tok', rfl, htok, hC, hM⟩
  have p1 := (f3.put (.slice a' n' c')).1
  have p2 := (p1.put (.slice b' m' d')).2.1
  have p3 := (p2.put (.string tok')).2.2.1
  have p4 := (p3.put (.int .i64 p'.fuel)).2.2.2.1
  have p5 := (p4.put (.int .i64 p'.quota)).2.2.2.2
  have hkr : ∀ (W : World) (i : Nat) (u : Value), Kp W1.heap.size none W (W.setCell ⟨w.heap.size, i, none⟩ u) := fun W i u => Kp.of_set _ _ hl2
  have hI5 := hI3.keep (((((hkr W2 0 (.slice a' n' c')).trans (hkr _ 1 (.slice b' m' d'))).trans (hkr _ 2 (.string tok'))).trans (hkr _ 3 (.int .i64 p'.fuel))).trans (hkr _ 4 (.int .i64 p'.quota)))
  have hB5 := ((((hB3.setCell (p := ⟨w.heap.size, 0, none⟩) (Nat.le_refl _) (.slice a' n' c')).setCell (p := ⟨w.heap.size, 1, none⟩) (Nat.le_refl _) (.slice b' m' d')).setCell (p := ⟨w.heap.size, 2, none⟩) (Nat.le_refl _) (.string tok')).setCell (p := ⟨w.heap.size, 3, none⟩) (Nat.le_refl _) (.int .i64 p'.fuel)).setCell (p := ⟨w.heap.size, 4, none⟩) (Nat.le_refl _) (.int .i64 p'.quota)
  have y0 := f3.c0
  have y1 := f3.c1
  have y2 := f3.c2
  have y3 := f3.c3
  have y4 := f3.c4
  have g0 := f3.f 0
  have g1 := f3.f 1
  have g2 := f3.f 2
  have g3 := f3.f 3
  have g4 := f3.f 4
  have z1 := p1.c1
  have z2 := p2.c2
  have z3 := p3.c3
  have z4 := p4.c4
  have h5 := hI5
  clear htok hC hM f2 hB2 b3 hI3 hI5 hkr p1 p2 p3 p4 hB3
  go_upto_region 3 with fail
  clear y0 y1 y2 y3 y4 g0 g1 g2 g3 g4 z1 z2 z3 z4 f3
  generalize ((((W2.setCell ⟨w.heap.size, 0, none⟩ (.slice a' n' c')).setCell ⟨w.heap.size, 1, none⟩ (.slice b' m' d')).setCell ⟨w.heap.size, 2, none⟩ (.string tok')).setCell ⟨w.heap.size, 3, none⟩ (.int .i64 p'.fuel)).setCell ⟨w.heap.size, 4, none⟩ (.int .i64 p'.quota) = W5 at *
  have y1 := p5.c1
  have g1 := p5.f 1
  have q1 := (p5.put (.slice none 0 0)).2.1
  have q2 := h5.keep (Kp.of_set ⟨w.heap.size, 1, none⟩ (.slice none 0 0) hl2)
  have q3 := hB5.setCell (p := ⟨w.heap.size, 1, none⟩) (Nat.le_refl _) (.slice none 0 0)
  have HF := phide (And.intro q1 (And.intro q2 q3))
  clear q1 q2 q3 p5 h5 hB5 hl2
  go_upto_region 4 with fail
  clear y1 g1
  obtain ⟨q1, q2, q3⟩ := punhide HF
  clear HF
  generalize W5.setCell ⟨w.heap.size, 1, none⟩ (.slice none 0 0) = Y0 at q1 q2 q3 ⊢
  have hp0 : PolIn Y0 (.agg #[.slice a' n' c', .slice none 0 0, .string tok', .int .i64 p'.fuel, .int .i64 p'.quota]) (⟨p'.cats, [], p'.token, p'.fuel, p'.quota⟩ : Po) := PolIn.marks q2.is (MarksIn.nil _ _)
  have HZ : Hid (∀ W, Below Y0.heap.size Y0 W → Below w.heap.size w W ∧ Five W w.heap.size (.slice a' n' c') (.slice none 0 0) (.string tok') (.int .i64 p'.fuel) (.int .i64 p'.quota) ∧ PolIn W (.agg #[.slice a' n' c', .slice none 0 0, .string tok', .int .i64 p'.fuel, .int .i64 p'.quota]) (⟨p'.cats, [], p'.token, p'.fuel, p'.quota⟩ : Po)) := phide (fun W hW => ⟨q3.trans (hW.mono q3.size), q1.step hW, hp0.step hW⟩)
  have HB := phide hbnd
  obtain ⟨u1, hu1⟩ : ∃ u1, mayP (⟨p'.cats, [], p'.token, p'.fuel, p'.quota⟩ : Po) = u1 := ⟨_, rfl⟩
  have CM1 := fun W h => rmay8_any (.agg #[.slice a' n' c', .slice none 0 0, .string tok', .int .i64 p'.fuel, .int .i64 p'.quota]) (⟨p'.cats, [], p'.token, p'.fuel, p'.quota⟩ : Po) u1 hu1 (by show p'.cats.length ≤ 1000; have := hbnd.cats; omega) (fun x hx => by have := hbnd.names x hx; omega) (Nat.zero_le _) (fun x hx => by cases hx) (by show p'.token.length ≤ 1000000; have := hbnd.token; omega) W h
  clear q1 q2 q3 hp0 hbnd hu1
  obtain ⟨-, x0, x1, x2, x3, x4, -⟩ := (punhide HZ _ (Below.refl _ _)).2.1
  go_wp2_with fail
  refine (CM1 _ (punhide HZ _ (Below.refl _ _)).2.2).mono ?_
  rintro e Y1 ⟨rfl, b1⟩
  clear CM1 x0 x1 x2 x3 x4
  have hF := (punhide HZ _ b1).1
  have x0 := (punhide HZ _ b1).2.1.c0
  by_cases hu10 : u1 = 0
  case neg =>
    have d1 : (u1 == 0) = false := by simp [hu10]
    clear b1 x0
    go_wp2_with fail
    go_ret
    exact ⟨rfl, hF⟩
  case pos =>
  subst hu10
  by_cases hn0' : n' = 0
  case pos =>
    subst hn0'
    clear b1
    go_wp2_with fail
    go_ret
    exact ⟨rfl, hF⟩
  case neg =>
  have d1 : decide ((n' : Int) = 0) = false := decide_eq_false (by omega)
  clear hF
  have HZ' := phide (fun (W : World) (hW : Below Y1.heap.size Y1 W) => punhide HZ W (b1.trans (hW.mono b1.size)))
  clear HZ
  have HZ := HZ'
  clear HZ'
  clear b1
  go_wp2_with fail
  refine (built_any a0 n0 c0 Y1 hn0 (fun i hi h8 => (punhide HIT i hi h8).below (punhide HZ _ (Below.refl _ _)).1)).mono ?_
  rintro e U11 ⟨v11, t, rfl, hl11, hg, hsz, bn⟩
  clear x0 HIT
  obtain ⟨hd11, ka11, kn11, kc11, da11, dn11, dc11, rfl⟩ := hl11.shape
  have al : Below U11.heap.size U11 (U11.alloc (.cells #[.int .i64 hd11.k, .int .u64 (hd11.m : Int), .bool hd11.ng, .string hd11.dg, .int .i64 hd11.sc, .string hd11.tx, .slice ka11 kn11 kc11, .slice da11 dn11 dc11, .int .i64 hd11.cd] 42)) := (Below.refl _ _).alloc (Nat.le_refl _) _
  have bz : Below Y1.heap.size Y1 (U11.alloc (.cells #[.int .i64 hd11.k, .int .u64 (hd11.m : Int), .bool hd11.ng, .string hd11.dg, .int .i64 hd11.sc, .string hd11.tx, .slice ka11 kn11 kc11, .slice da11 dn11 dc11, .int .i64 hd11.cd] 42)) := bn.trans (al.mono bn.size)
  have kx : Box (U11.alloc (.cells #[.int .i64 hd11.k, .int .u64 (hd11.m : Int), .bool hd11.ng, .string hd11.dg, .int .i64 hd11.sc, .string hd11.tx, .slice ka11 kn11 kc11, .slice da11 dn11 dc11, .int .i64 hd11.cd] 42)) U11.heap.size #[.int .i64 hd11.k, .int .u64 (hd11.m : Int), .bool hd11.ng, .string hd11.dg, .int .i64 hd11.sc, .string hd11.tx, .slice ka11 kn11 kc11, .slice da11 dn11 dc11, .int .i64 hd11.cd] := Box.new _ _ _
  have lx := hl11.any.below al
  have HZ' := phide (fun (W : World) (hW : Below (U11.alloc (.cells #[.int .i64 hd11.k, .int .u64 (hd11.m : Int), .bool hd11.ng, .string hd11.dg, .int .i64 hd11.sc, .string hd11.tx, .slice ka11 kn11 kc11, .slice da11 dn11 dc11, .int .i64 hd11.cd] 42)).heap.size (U11.alloc (.cells #[.int .i64 hd11.k, .int .u64 (hd11.m : Int), .bool hd11.ng, .string hd11.dg, .int .i64 hd11.sc, .string hd11.tx, .slice ka11 kn11 kc11, .slice da11 dn11 dc11, .int .i64 hd11.cd] 42)) W) => punhide HZ W (bz.trans (hW.mono bz.size)))
  clear HZ
  have HZ := HZ'
  clear HZ'
  have HN11 := phide (fun (W : World) (hW : Below (U11.alloc (.cells #[.int .i64 hd11.k, .int .u64 (hd11.m : Int), .bool hd11.ng, .string hd11.dg, .int .i64 hd11.sc, .string hd11.tx, .slice ka11 kn11 kc11, .slice da11 dn11 dc11, .int .i64 hd11.cd] 42)).heap.size (U11.alloc (.cells #[.int .i64 hd11.k, .int .u64 (hd11.m : Int), .bool hd11.ng, .string hd11.dg, .int .i64 hd11.sc, .string hd11.tx, .slice ka11 kn11 kc11, .slice da11 dn11 dc11, .int .i64 hd11.cd] 42)) W) => And.intro (box_nine kx hW) (lx.below hW))
  clear al bz kx lx bn hl11
  go_upto_region 7 with fail
  generalize U11.heap.size = gx11 at HN11 ⊢
  generalize (U11.alloc (.cells #[.int .i64 hd11.k, .int .u64 (hd11.m : Int), .bool hd11.ng, .string hd11.dg, .int .i64 hd11.sc, .string hd11.tx, .slice ka11 kn11 kc11, .slice da11 dn11 dc11, .int .i64 hd11.cd] 42)) = Z11 at HZ HN11 ⊢
  have HG := phide hg
  clear hg hsz
  obtain ⟨-, x0, x1, x2, x3, x4, -⟩ := (punhide HZ Z11 (Below.refl _ _)).2.1
  have n1 := Five.new Z11 (.slice a' n' c') (.slice none 0 0) (.string tok') (.int .i64 p'.fuel) (.int .i64 p'.quota) 25
  have hs : (Z11.alloc (.cells #[.slice a' n' c', .slice none 0 0, .string tok', .int .i64 p'.fuel, .int .i64 p'.quota] 25)).heap.size = Z11.heap.size + 1 := by simp
  have b0 : Below Z11.heap.size Z11 (Z11.alloc (.cells #[.slice a' n' c', .slice none 0 0, .string tok', .int .i64 p'.fuel, .int .i64 p'.quota] 25)) := (Below.refl _ _).alloc (Nat.le_refl _) _
  have HF := phide (And.intro n1 (And.intro hs b0))
  clear n1 hs b0
  go_upto_region 8 with fail
  clear x0 x1 x2 x3 x4
  obtain ⟨n1, hs, b0⟩ := punhide HF
  clear HF
  generalize (Z11.alloc (.cells #[.slice a' n' c', .slice none 0 0, .string tok', .int .i64 p'.fuel, .int .i64 p'.quota] 25)) = DN1 at n1 hs b0 ⊢
  have y1 := n1.c1
  have g1 := n1.f 1
  obtain ⟨hm, hf, hb⟩ := mark_lit DN1 Z11.heap.size (Z11.heap.size + 1) hs n1.lt ⟨5, ⟨#[]⟩, 0⟩ Z11.heap.size (Nat.le_refl _)
  have f9 := hf _ _ _ _ _ n1
  have bz := b0.trans hb
  have hx : PolIn (((DN1.setCell ⟨Z11.heap.size, 1, none⟩ (.slice (some ⟨Z11.heap.size + 1 + 1, 0, none⟩) 1 1)).alloc (.cells #[.int .i64 5, .string ⟨#[]⟩, .int .i64 0] 57)).alloc (.cells #[.slice (some ⟨Z11.heap.size + 1, 0, none⟩) 1 1, .int .u64 1] 59)) (.agg #[.slice a' n' c', .slice none 0 0, .string tok', .int .i64 p'.fuel, .int .i64 p'.quota]) (⟨p'.cats, [], p'.token, p'.fuel, p'.quota⟩ : Po) := (punhide HZ _ bz).2.2
  have hp : PolIn (((DN1.setCell ⟨Z11.heap.size, 1, none⟩ (.slice (some ⟨Z11.heap.size + 1 + 1, 0, none⟩) 1 1)).alloc (.cells #[.int .i64 5, .string ⟨#[]⟩, .int .i64 0] 57)).alloc (.cells #[.slice (some ⟨Z11.heap.size + 1, 0, none⟩) 1 1, .int .u64 1] 59)) (.agg #[.slice a' n' c', .slice (some ⟨Z11.heap.size + 1 + 1, 0, none⟩) 1 1, .string tok', .int .i64 p'.fuel, .int .i64 p'.quota]) (⟨p'.cats, (oneM [⟨5, ⟨#[]⟩, 0⟩]), p'.token, p'.fuel, p'.quota⟩ : Po) := PolIn.marks (p := (⟨p'.cats, [], p'.token, p'.fuel, p'.quota⟩ : Po)) hx hm
  have HF := phide (And.intro f9 (And.intro hp bz))
  clear f9 hp bz hx hm hf hb n1 b0
  go_upto_region 9 with fail
  clear y1 g1 
  obtain ⟨f9, hp, bz⟩ := punhide HF
  clear HF
  generalize (((DN1.setCell ⟨Z11.heap.size, 1, none⟩ (.slice (some ⟨Z11.heap.size + 1 + 1, 0, none⟩) 1 1)).alloc (.cells #[.int .i64 5, .string ⟨#[]⟩, .int .i64 0] 57)).alloc (.cells #[.slice (some ⟨Z11.heap.size + 1, 0, none⟩) 1 1, .int .u64 1] 59)) = N1 at f9 hp bz ⊢
  have HZ' := phide (fun (W : World) (hW : Below N1.heap.size N1 W) => punhide HZ W (bz.trans (hW.mono bz.size)))
  clear HZ
  have HZ := HZ'
  clear HZ'
  have HN11' := phide (fun (W : World) (hW : Below N1.heap.size N1 W) => punhide HN11 W (bz.trans (hW.mono bz.size)))
  clear HN11
  have HN11 := HN11'
  clear HN11'
  have HD1 := phide (fun (W : World) (hW : Below N1.heap.size N1 W) => And.intro (f9.step hW) (hp.step hW))
  clear f9 hp bz hs
  obtain ⟨-, x0, x1, x2, x3, x4, -⟩ := (punhide HZ N1 (Below.refl _ _)).2.1
  have n1 := Five.new N1 (.slice a' n' c') (.slice none 0 0) (.string tok') (.int .i64 p'.fuel) (.int .i64 p'.quota) 25
  have hs : (N1.alloc (.cells #[.slice a' n' c', .slice none 0 0, .string tok', .int .i64 p'.fuel, .int .i64 p'.quota] 25)).heap.size = N1.heap.size + 1 := by simp
  have b0 : Below N1.heap.size N1 (N1.alloc (.cells #[.slice a' n' c', .slice none 0 0, .string tok', .int .i64 p'.fuel, .int .i64 p'.quota] 25)) := (Below.refl _ _).alloc (Nat.le_refl _) _
  have HF := phide (And.intro n1 (And.intro hs b0))
  clear n1 hs b0
  go_upto_region 10 with fail
  clear x0 x1 x2 x3 x4
  obtain ⟨n1, hs, b0⟩ := punhide HF
  clear HF
  generalize (N1.alloc (.cells #[.slice a' n' c', .slice none 0 0, .string tok', .int .i64 p'.fuel, .int .i64 p'.quota] 25)) = DN2 at n1 hs b0 ⊢
  have y1 := n1.c1
  have g1 := n1.f 1
  obtain ⟨hm, hf, hb⟩ := mark_bare DN2 N1.heap.size (N1.heap.size + 1) hs n1.lt N1.heap.size (Nat.le_refl _)
  have f9 := hf _ _ _ _ _ n1
  have bz := b0.trans hb
  have hx : PolIn ((DN2.setCell ⟨N1.heap.size, 1, none⟩ (.slice (some ⟨N1.heap.size + 1, 0, none⟩) 1 1)).alloc (.cells #[.slice none 0 0, .int .u64 1] 59)) (.agg #[.slice a' n' c', .slice none 0 0, .string tok', .int .i64 p'.fuel, .int .i64 p'.quota]) (⟨p'.cats, [], p'.token, p'.fuel, p'.quota⟩ : Po) := (punhide HZ _ bz).2.2
  have hp : PolIn ((DN2.setCell ⟨N1.heap.size, 1, none⟩ (.slice (some ⟨N1.heap.size + 1, 0, none⟩) 1 1)).alloc (.cells #[.slice none 0 0, .int .u64 1] 59)) (.agg #[.slice a' n' c', .slice (some ⟨N1.heap.size + 1, 0, none⟩) 1 1, .string tok', .int .i64 p'.fuel, .int .i64 p'.quota]) (⟨p'.cats, (oneM []), p'.token, p'.fuel, p'.quota⟩ : Po) := PolIn.marks (p := (⟨p'.cats, [], p'.token, p'.fuel, p'.quota⟩ : Po)) hx hm
  have HF := phide (And.intro f9 (And.intro hp bz))
  clear f9 hp bz hx hm hf hb n1 b0
  go_upto_region 11 with fail
  clear y1 g1 
  obtain ⟨f9, hp, bz⟩ := punhide HF
  clear HF
  generalize ((DN2.setCell ⟨N1.heap.size, 1, none⟩ (.slice (some ⟨N1.heap.size + 1, 0, none⟩) 1 1)).alloc (.cells #[.slice none 0 0, .int .u64 1] 59)) = N2 at f9 hp bz ⊢
  have HZ' := phide (fun (W : World) (hW : Below N2.heap.size N2 W) => punhide HZ W (bz.trans (hW.mono bz.size)))
  clear HZ
  have HZ := HZ'
  clear HZ'
  have HN11' := phide (fun (W : World) (hW : Below N2.heap.size N2 W) => punhide HN11 W (bz.trans (hW.mono bz.size)))
  clear HN11
  have HN11 := HN11'
  clear HN11'
  have HD1' := phide (fun (W : World) (hW : Below N2.heap.size N2 W) => punhide HD1 W (bz.trans (hW.mono bz.size)))
  clear HD1
  have HD1 := HD1'
  clear HD1'
  have HD2 := phide (fun (W : World) (hW : Below N2.heap.size N2 W) => And.intro (f9.step hW) (hp.step hW))
  clear f9 hp bz hs
  obtain ⟨-, x0, x1, x2, x3, x4, -⟩ := (punhide HD1 _ (Below.refl _ _)).1
  obtain ⟨y0, y1, y2, y3, y4, y5, y6, y7, y8⟩ := (punhide HN11 _ (Below.refl _ _)).1
  go_wp2_with fail
  refine (label_any 100 (by decide) (.agg #[.slice a' n' c', .slice (some ⟨Z11.heap.size + 1 + 1, 0, none⟩) 1 1, .string tok', .int .i64 p'.fuel, .int .i64 p'.quota]) (.agg #[.int .i64 hd11.k, .int .u64 (hd11.m : Int), .bool hd11.ng, .string hd11.dg, .int .i64 hd11.sc, .string hd11.tx, .slice ka11 kn11 kc11, .slice da11 dn11 dc11, .int .i64 hd11.cd]) (⟨p'.cats, (oneM [⟨5, ⟨#[]⟩, 0⟩]), p'.token, p'.fuel, p'.quota⟩ : Po) t (by show (1 : Nat) ≤ 1000; decide) (fun x hx => by simp only [oneM, List.mem_singleton] at hx; subst hx; simp) N2 (punhide HD1 _ (Below.refl _ _)).2 (punhide HN11 _ (Below.refl _ _)).2 (good_ok 100 t (punhide HG))).mono ?_
  rintro e U12 ⟨v12, rfl, hl12, bn⟩
  clear x0 x1 x2 x3 x4 y0 y1 y2 y3 y4 y5 y6 y7 y8
  obtain ⟨hd12, ka12, kn12, kc12, da12, dn12, dc12, rfl⟩ := hl12.shape
  have al : Below U12.heap.size U12 (U12.alloc (.cells #[.int .i64 hd12.k, .int .u64 (hd12.m : Int), .bool hd12.ng, .string hd12.dg, .int .i64 hd12.sc, .string hd12.tx, .slice ka12 kn12 kc12, .slice da12 dn12 dc12, .int .i64 hd12.cd] 42)) := (Below.refl _ _).alloc (Nat.le_refl _) _
  have bz : Below N2.heap.size N2 (U12.alloc (.cells #[.int .i64 hd12.k, .int .u64 (hd12.m : Int), .bool hd12.ng, .string hd12.dg, .int .i64 hd12.sc, .string hd12.tx, .slice ka12 kn12 kc12, .slice da12 dn12 dc12, .int .i64 hd12.cd] 42)) := bn.trans (al.mono bn.size)
  have kx : Box (U12.alloc (.cells #[.int .i64 hd12.k, .int .u64 (hd12.m : Int), .bool hd12.ng, .string hd12.dg, .int .i64 hd12.sc, .string hd12.tx, .slice ka12 kn12 kc12, .slice da12 dn12 dc12, .int .i64 hd12.cd] 42)) U12.heap.size #[.int .i64 hd12.k, .int .u64 (hd12.m : Int), .bool hd12.ng, .string hd12.dg, .int .i64 hd12.sc, .string hd12.tx, .slice ka12 kn12 kc12, .slice da12 dn12 dc12, .int .i64 hd12.cd] := Box.new _ _ _
  have lx := hl12.any.below al
  have HZ' := phide (fun (W : World) (hW : Below (U12.alloc (.cells #[.int .i64 hd12.k, .int .u64 (hd12.m : Int), .bool hd12.ng, .string hd12.dg, .int .i64 hd12.sc, .string hd12.tx, .slice ka12 kn12 kc12, .slice da12 dn12 dc12, .int .i64 hd12.cd] 42)).heap.size (U12.alloc (.cells #[.int .i64 hd12.k, .int .u64 (hd12.m : Int), .bool hd12.ng, .string hd12.dg, .int .i64 hd12.sc, .string hd12.tx, .slice ka12 kn12 kc12, .slice da12 dn12 dc12, .int .i64 hd12.cd] 42)) W) => punhide HZ W (bz.trans (hW.mono bz.size)))
  clear HZ
  have HZ := HZ'
  clear HZ'
  have HN11' := phide (fun (W : World) (hW : Below (U12.alloc (.cells #[.int .i64 hd12.k, .int .u64 (hd12.m : Int), .bool hd12.ng, .string hd12.dg, .int .i64 hd12.sc, .string hd12.tx, .slice ka12 kn12 kc12, .slice da12 dn12 dc12, .int .i64 hd12.cd] 42)).heap.size (U12.alloc (.cells #[.int .i64 hd12.k, .int .u64 (hd12.m : Int), .bool hd12.ng, .string hd12.dg, .int .i64 hd12.sc, .string hd12.tx, .slice ka12 kn12 kc12, .slice da12 dn12 dc12, .int .i64 hd12.cd] 42)) W) => punhide HN11 W (bz.trans (hW.mono bz.size)))
  clear HN11
  have HN11 := HN11'
  clear HN11'
  have HD1' := phide (fun (W : World) (hW : Below (U12.alloc (.cells #[.int .i64 hd12.k, .int .u64 (hd12.m : Int), .bool hd12.ng, .string hd12.dg, .int .i64 hd12.sc, .string hd12.tx, .slice ka12 kn12 kc12, .slice da12 dn12 dc12, .int .i64 hd12.cd] 42)).heap.size (U12.alloc (.cells #[.int .i64 hd12.k, .int .u64 (hd12.m : Int), .bool hd12.ng, .string hd12.dg, .int .i64 hd12.sc, .string hd12.tx, .slice ka12 kn12 kc12, .slice da12 dn12 dc12, .int .i64 hd12.cd] 42)) W) => punhide HD1 W (bz.trans (hW.mono bz.size)))
  clear HD1
  have HD1 := HD1'
  clear HD1'
  have HD2' := phide (fun (W : World) (hW : Below (U12.alloc (.cells #[.int .i64 hd12.k, .int .u64 (hd12.m : Int), .bool hd12.ng, .string hd12.dg, .int .i64 hd12.sc, .string hd12.tx, .slice ka12 kn12 kc12, .slice da12 dn12 dc12, .int .i64 hd12.cd] 42)).heap.size (U12.alloc (.cells #[.int .i64 hd12.k, .int .u64 (hd12.m : Int), .bool hd12.ng, .string hd12.dg, .int .i64 hd12.sc, .string hd12.tx, .slice ka12 kn12 kc12, .slice da12 dn12 dc12, .int .i64 hd12.cd] 42)) W) => punhide HD2 W (bz.trans (hW.mono bz.size)))
  clear HD2
  have HD2 := HD2'
  clear HD2'
  have HN12 := phide (fun (W : World) (hW : Below (U12.alloc (.cells #[.int .i64 hd12.k, .int .u64 (hd12.m : Int), .bool hd12.ng, .string hd12.dg, .int .i64 hd12.sc, .string hd12.tx, .slice ka12 kn12 kc12, .slice da12 dn12 dc12, .int .i64 hd12.cd] 42)).heap.size (U12.alloc (.cells #[.int .i64 hd12.k, .int .u64 (hd12.m : Int), .bool hd12.ng, .string hd12.dg, .int .i64 hd12.sc, .string hd12.tx, .slice ka12 kn12 kc12, .slice da12 dn12 dc12, .int .i64 hd12.cd] 42)) W) => And.intro (box_nine kx hW) (lx.below hW))
  clear al bz kx lx bn hl12
  go_upto_region 12 with fail
  generalize U12.heap.size = gx12 at HN12 ⊢
  generalize (U12.alloc (.cells #[.int .i64 hd12.k, .int .u64 (hd12.m : Int), .bool hd12.ng, .string hd12.dg, .int .i64 hd12.sc, .string hd12.tx, .slice ka12 kn12 kc12, .slice da12 dn12 dc12, .int .i64 hd12.cd] 42)) = Z12 at HZ HN11 HD1 HD2 HN12 ⊢
  obtain ⟨-, x0, x1, x2, x3, x4, -⟩ := (punhide HD2 _ (Below.refl _ _)).1
  obtain ⟨y0, y1, y2, y3, y4, y5, y6, y7, y8⟩ := (punhide HN11 _ (Below.refl _ _)).1
  go_wp2_with fail
  refine (label_any 100 (by decide) (.agg #[.slice a' n' c', .slice (some ⟨N1.heap.size + 1, 0, none⟩) 1 1, .string tok', .int .i64 p'.fuel, .int .i64 p'.quota]) (.agg #[.int .i64 hd11.k, .int .u64 (hd11.m : Int), .bool hd11.ng, .string hd11.dg, .int .i64 hd11.sc, .string hd11.tx, .slice ka11 kn11 kc11, .slice da11 dn11 dc11, .int .i64 hd11.cd]) (⟨p'.cats, (oneM []), p'.token, p'.fuel, p'.quota⟩ : Po) t (by show (1 : Nat) ≤ 1000; decide) (fun x hx => by simp only [oneM, List.mem_singleton] at hx; subst hx; simp) Z12 (punhide HD2 _ (Below.refl _ _)).2 (punhide HN11 _ (Below.refl _ _)).2 (good_ok 100 t (punhide HG))).mono ?_
  rintro e U13 ⟨v13, rfl, hl13, bn⟩
  clear x0 x1 x2 x3 x4 y0 y1 y2 y3 y4 y5 y6 y7 y8
  obtain ⟨hd13, ka13, kn13, kc13, da13, dn13, dc13, rfl⟩ := hl13.shape
  have al : Below U13.heap.size U13 (U13.alloc (.cells #[.int .i64 hd13.k, .int .u64 (hd13.m : Int), .bool hd13.ng, .string hd13.dg, .int .i64 hd13.sc, .string hd13.tx, .slice ka13 kn13 kc13, .slice da13 dn13 dc13, .int .i64 hd13.cd] 42)) := (Below.refl _ _).alloc (Nat.le_refl _) _
  have bz : Below Z12.heap.size Z12 (U13.alloc (.cells #[.int .i64 hd13.k, .int .u64 (hd13.m : Int), .bool hd13.ng, .string hd13.dg, .int .i64 hd13.sc, .string hd13.tx, .slice ka13 kn13 kc13, .slice da13 dn13 dc13, .int .i64 hd13.cd] 42)) := bn.trans (al.mono bn.size)
  have kx : Box (U13.alloc (.cells #[.int .i64 hd13.k, .int .u64 (hd13.m : Int), .bool hd13.ng, .string hd13.dg, .int .i64 hd13.sc, .string hd13.tx, .slice ka13 kn13 kc13, .slice da13 dn13 dc13, .int .i64 hd13.cd] 42)) U13.heap.size #[.int .i64 hd13.k, .int .u64 (hd13.m : Int), .bool hd13.ng, .string hd13.dg, .int .i64 hd13.sc, .string hd13.tx, .slice ka13 kn13 kc13, .slice da13 dn13 dc13, .int .i64 hd13.cd] := Box.new _ _ _
  have lx := hl13.any.below al
  have HZ' := phide (fun (W : World) (hW : Below (U13.alloc (.cells #[.int .i64 hd13.k, .int .u64 (hd13.m : Int), .bool hd13.ng, .string hd13.dg, .int .i64 hd13.sc, .string hd13.tx, .slice ka13 kn13 kc13, .slice da13 dn13 dc13, .int .i64 hd13.cd] 42)).heap.size (U13.alloc (.cells #[.int .i64 hd13.k, .int .u64 (hd13.m : Int), .bool hd13.ng, .string hd13.dg, .int .i64 hd13.sc, .string hd13.tx, .slice ka13 kn13 kc13, .slice da13 dn13 dc13, .int .i64 hd13.cd] 42)) W) => punhide HZ W (bz.trans (hW.mono bz.size)))
  clear HZ
  have HZ := HZ'
  clear HZ'
  have HN11' := phide (fun (W : World) (hW : Below (U13.alloc (.cells #[.int .i64 hd13.k, .int .u64 (hd13.m : Int), .bool hd13.ng, .string hd13.dg, .int .i64 hd13.sc, .string hd13.tx, .slice ka13 kn13 kc13, .slice da13 dn13 dc13, .int .i64 hd13.cd] 42)).heap.size (U13.alloc (.cells #[.int .i64 hd13.k, .int .u64 (hd13.m : Int), .bool hd13.ng, .string hd13.dg, .int .i64 hd13.sc, .string hd13.tx, .slice ka13 kn13 kc13, .slice da13 dn13 dc13, .int .i64 hd13.cd] 42)) W) => punhide HN11 W (bz.trans (hW.mono bz.size)))
  clear HN11
  have HN11 := HN11'
  clear HN11'
  have HD1' := phide (fun (W : World) (hW : Below (U13.alloc (.cells #[.int .i64 hd13.k, .int .u64 (hd13.m : Int), .bool hd13.ng, .string hd13.dg, .int .i64 hd13.sc, .string hd13.tx, .slice ka13 kn13 kc13, .slice da13 dn13 dc13, .int .i64 hd13.cd] 42)).heap.size (U13.alloc (.cells #[.int .i64 hd13.k, .int .u64 (hd13.m : Int), .bool hd13.ng, .string hd13.dg, .int .i64 hd13.sc, .string hd13.tx, .slice ka13 kn13 kc13, .slice da13 dn13 dc13, .int .i64 hd13.cd] 42)) W) => punhide HD1 W (bz.trans (hW.mono bz.size)))
  clear HD1
  have HD1 := HD1'
  clear HD1'
  have HD2' := phide (fun (W : World) (hW : Below (U13.alloc (.cells #[.int .i64 hd13.k, .int .u64 (hd13.m : Int), .bool hd13.ng, .string hd13.dg, .int .i64 hd13.sc, .string hd13.tx, .slice ka13 kn13 kc13, .slice da13 dn13 dc13, .int .i64 hd13.cd] 42)).heap.size (U13.alloc (.cells #[.int .i64 hd13.k, .int .u64 (hd13.m : Int), .bool hd13.ng, .string hd13.dg, .int .i64 hd13.sc, .string hd13.tx, .slice ka13 kn13 kc13, .slice da13 dn13 dc13, .int .i64 hd13.cd] 42)) W) => punhide HD2 W (bz.trans (hW.mono bz.size)))
  clear HD2
  have HD2 := HD2'
  clear HD2'
  have HN12' := phide (fun (W : World) (hW : Below (U13.alloc (.cells #[.int .i64 hd13.k, .int .u64 (hd13.m : Int), .bool hd13.ng, .string hd13.dg, .int .i64 hd13.sc, .string hd13.tx, .slice ka13 kn13 kc13, .slice da13 dn13 dc13, .int .i64 hd13.cd] 42)).heap.size (U13.alloc (.cells #[.int .i64 hd13.k, .int .u64 (hd13.m : Int), .bool hd13.ng, .string hd13.dg, .int .i64 hd13.sc, .string hd13.tx, .slice ka13 kn13 kc13, .slice da13 dn13 dc13, .int .i64 hd13.cd] 42)) W) => punhide HN12 W (bz.trans (hW.mono bz.size)))
  clear HN12
  have HN12 := HN12'
  clear HN12'
  have HN13 := phide (fun (W : World) (hW : Below (U13.alloc (.cells #[.int .i64 hd13.k, .int .u64 (hd13.m : Int), .bool hd13.ng, .string hd13.dg, .int .i64 hd13.sc, .string hd13.tx, .slice ka13 kn13 kc13, .slice da13 dn13 dc13, .int .i64 hd13.cd] 42)).heap.size (U13.alloc (.cells #[.int .i64 hd13.k, .int .u64 (hd13.m : Int), .bool hd13.ng, .string hd13.dg, .int .i64 hd13.sc, .string hd13.tx, .slice ka13 kn13 kc13, .slice da13 dn13 dc13, .int .i64 hd13.cd] 42)) W) => And.intro (box_nine kx hW) (lx.below hW))
  clear al bz kx lx bn hl13
  go_upto_region 13 with fail
  generalize U13.heap.size = gx13 at HN13 ⊢
  generalize (U13.alloc (.cells #[.int .i64 hd13.k, .int .u64 (hd13.m : Int), .bool hd13.ng, .string hd13.dg, .int .i64 hd13.sc, .string hd13.tx, .slice ka13 kn13 kc13, .slice da13 dn13 dc13, .int .i64 hd13.cd] 42)) = Z13 at HZ HN11 HD1 HD2 HN12 HN13 ⊢
  obtain ⟨x0, x1, x2, x3, x4, x5, x6, x7, x8⟩ := (punhide HN12 _ (Below.refl _ _)).1
  have CA := all_any 100 _ _ Z13 (punhide HN12 _ (Below.refl _ _)).2 (ok_label _ _ _ _ (good_ok 100 t (punhide HG))) (one_label (oneM [⟨5, ⟨#[]⟩, 0⟩]) mask_deep 100 [] t)
  go_wp2_with fail
  refine CA.mono ?_
  rintro e Y2 ⟨rfl, b1⟩
  clear CA x0 x1 x2 x3 x4 x5 x6 x7 x8
  have HZ' := phide (fun (W : World) (hW : Below Y2.heap.size Y2 W) => punhide HZ W (b1.trans (hW.mono b1.size)))
  clear HZ
  have HZ := HZ'
  clear HZ'
  have HN11' := phide (fun (W : World) (hW : Below Y2.heap.size Y2 W) => punhide HN11 W (b1.trans (hW.mono b1.size)))
  clear HN11
  have HN11 := HN11'
  clear HN11'
  have HD1' := phide (fun (W : World) (hW : Below Y2.heap.size Y2 W) => punhide HD1 W (b1.trans (hW.mono b1.size)))
  clear HD1
  have HD1 := HD1'
  clear HD1'
  have HD2' := phide (fun (W : World) (hW : Below Y2.heap.size Y2 W) => punhide HD2 W (b1.trans (hW.mono b1.size)))
  clear HD2
  have HD2 := HD2'
  clear HD2'
  have HN12' := phide (fun (W : World) (hW : Below Y2.heap.size Y2 W) => punhide HN12 W (b1.trans (hW.mono b1.size)))
  clear HN12
  have HN12 := HN12'
  clear HN12'
  have HN13' := phide (fun (W : World) (hW : Below Y2.heap.size Y2 W) => punhide HN13 W (b1.trans (hW.mono b1.size)))
  clear HN13
  have HN13 := HN13'
  clear HN13'
  clear b1
  have hp13 := Lies.parts (n := 99) (punhide HN13 _ (Below.refl _ _)).2
  have e13 : hd13.m = 1 := hp13.2.1.trans mask_top
  have y1 : Y2.cell? ⟨gx13, 1, none⟩ = some (.int .u64 1) := by
    have := (punhide HN13 _ (Below.refl _ _)).1.2.1
    rw [e13] at this
    exact this
  have y7 := (punhide HN13 _ (Below.refl _ _)).1.2.2.2.2.2.2.2.1
  have HD13 : Hid (dn13 = (Tr.kd t).length) := phide (hp13.2.2.2.1.trans (label_len _ _ _ _))
  have HK13 := phide hp13.2.2.2.2.2
  have hM7 : dn13 ≤ 1000000 := by rw [hp13.2.2.2.1.trans (label_len _ _ _ _)]; exact (good_ok 100 t (punhide HG)).2.1
  have HM7 : Hid ((Tr.kd t).length ≤ 1000000) := phide (good_ok 100 t (punhide HG)).2.1
  clear hp13
  go_wp2_with fail
  go_loopw [14] (fun i wr => ∃ k : Nat, i = .int .i64 (k : Int) ∧ k ≤ dn13 ∧ Below Y2.heap.size Y2 wr) (fun i _ => dn13 - (intOf i).toNat)
  case atStart => exact ⟨0, rfl, Nat.zero_le _, Below.refl _ _⟩
  case round =>
    obtain ⟨k, rfl, hk, hBr⟩ := hrel
    have z7 := (punhide HN13 _ hBr).1.2.2.2.2.2.2.2.1
    by_cases hlt : k < dn13
    case pos =>
      have hlt2 : k < (Tr.kd t).length := by rw [← punhide HD13]; exact hlt
      have hlt3 : k < (Tr.kd (labelT (oneM []) 100 [] t)).length := by rw [label_len]; exact hlt2
      obtain ⟨kb, ko, hd, ka2, kn2, kc2, da2, dn2, dc2, hao, hbk, ⟨c0, c1, c2, c3, c4, c5, c6, c7, c8⟩, hlies⟩ := kid_at (punhide HK13) hBr k hlt3
      subst hao
      rw [label_at _ _ _ _ _ hlt2] at hlies
      have CD := rdeep_any 99 _ _ wr hlies (ok_label _ _ _ _ ((good_ok 100 t (punhide HG)).2.2 _ (List.getElem_mem hlt2)))
      rw [show deepT 99 (labelT (oneM []) 99 ([] ++ [stepT (Tr.hd t) k]) ((Tr.kd t)[k]'hlt2)) = 0 from deep_under 99 _ _] at CD
      have i0 : (0 : Int) ≤ (k : Int) := by omega
      have i1 : (k : Int) < (dn13 : Int) := by omega
      have HBR := phide hBr
      clear hlies y1 y7 hBr
      go_wp2_with fail
      refine CD.mono ?_
      rintro e w2 ⟨rfl, -, b2⟩
      have hB2 := (punhide HBR).trans (b2.mono (punhide HBR).size)
      clear CD c0 c1 c2 c3 c4 c5 c6 c7 c8 z7 b2
      go_wp2
      go_roundw
      case rel => exact ⟨k + 1, by go_num, hlt, hB2⟩
      case measure => simp [intOf]; omega
    case neg =>
      have dl : decide ((k : Int) < (dn13 : Int)) = false := decide_eq_false (by omega)
      clear y1 y7 e13 hk
      clear HN13 HD1 HD2 HN12 HK13 HD13
      have HZ' := phide (fun (W : World) (hW : Below wr.heap.size wr W) => punhide HZ W (hBr.trans (hW.mono hBr.size)))
      clear HZ
      have HZ := HZ'
      clear HZ'
      have HN11' := phide (fun (W : World) (hW : Below wr.heap.size wr W) => punhide HN11 W (hBr.trans (hW.mono hBr.size)))
      clear HN11
      have HN11 := HN11'
      clear HN11'
      clear hBr
      have hp11 := Lies.parts (n := 99) (punhide HN11 _ (Below.refl _ _)).2
      have HP11 := phide hp11
      have x0 := (punhide HN11 _ (Below.refl _ _)).1.1
      have x6 := (punhide HN11 _ (Below.refl _ _)).1.2.2.2.2.2.2.1
      have x7 := (punhide HN11 _ (Below.refl _ _)).1.2.2.2.2.2.2.2.1
      have hF := (punhide HZ _ (Below.refl _ _)).1
      have HE11 := phide (And.intro hp11.1 (And.intro hp11.2.2.1 hp11.2.2.2.1))
      clear hp11
      by_cases hz0 : z < 0
      case pos =>
        have dz : decide (z < 0) = true := decide_eq_true hz0
        clear x0 x6
        go_wp2_with fail
        go_ret
        exact ⟨rfl, hF⟩
      case neg =>
      have dz : decide (z < 0) = false := decide_eq_false hz0
      obtain ⟨at9, rfl⟩ : ∃ k : Nat, z = (k : Int) := ⟨z.toNat, by omega⟩
      by_cases hz1 : dn11 ≤ at9
      case pos =>
        have dz1 : decide ((dn11 : Int) ≤ (at9 : Int)) = true := decide_eq_true (by omega)
        clear x0 x6
        go_wp2_with fail
        go_ret
        exact ⟨rfl, hF⟩
      case neg =>
      have dz1 : decide ((dn11 : Int) ≤ (at9 : Int)) = false := decide_eq_false (by omega)
      have hat : at9 < (Tr.kd t).length := by have := (punhide HE11).2.2; omega
      have hgh : goodH (Tr.hd t) (Tr.kd t).length := (punhide HG).1
      obtain ⟨tk, ts, tn, hst⟩ : ∃ tk ts tn, stepT (Tr.hd t) at9 = ⟨tk, ts, tn⟩ := ⟨_, _, _, rfl⟩
      have HST : Hid ((hd11.k = 6 ∧ (⟨tk, ts, tn⟩ : Pm.St) = ⟨2, ⟨#[]⟩, at9⟩) ∨ (hd11.k = 7 ∧ ∃ hk : at9 < (Tr.hd t).ks.length, (⟨tk, ts, tn⟩ : Pm.St) = ⟨1, (Tr.hd t).ks[at9]'hk, 0⟩)) := phide (by
        have e := (punhide HE11).1
        obtain ⟨⟨_, _, _, h1, _⟩, h2, h3⟩ := hgh
        rw [← hst]
        by_cases h6 : (Tr.hd t).k = 6
        · exact .inl ⟨e.trans h6, by unfold stepT; rw [if_pos h6]⟩
        · by_cases h7 : (Tr.hd t).k = 7
          · have hkk : at9 < (Tr.hd t).ks.length := by rw [(h2 h7).1]; exact hat
            exact .inr ⟨e.trans h7, hkk, by unfold stepT; rw [if_neg h6, if_pos h7, dif_pos hkk]⟩
          · have := h1 h6 h7; omega)
      have HGH := phide (And.intro hgh (And.intro hat hst))
      have al : Below wr.heap.size wr (wr.alloc (.cells #[.int .i64 2, .string ⟨#[]⟩, .int .i64 (at9 : Int)] 57)) := (Below.refl _ _).alloc (Nat.le_refl _) _
      have r3 := Three.new wr (.int .i64 2) (.string ⟨#[]⟩) (.int .i64 (at9 : Int)) 57
      have HF := phide (And.intro al r3)
      have hz2 : at9 < dn11 := by omega
      clear hgh hat hst al r3 hF x0 x6
      go_upto_region 24 with fail
      clear x7
      obtain ⟨al, r3⟩ := punhide HF
      clear HF
      generalize wr.alloc (.cells #[.int .i64 2, .string ⟨#[]⟩, .int .i64 (at9 : Int)] 57) = w3 at al r3 ⊢
      have x0 := (punhide HN11 _ al).1.1
      have x6 := (punhide HN11 _ al).1.2.2.2.2.2.2.1
      go_upto_if 88 with fail
      obtain ⟨b7, hb7⟩ : ∃ b7, (hd11.k == 7) = b7 := ⟨_, rfl⟩
      rw [hb7]
      have HB7 := phide hb7
      clear hb7
      go_cut [] from 89 to 94 (fun wx => Below wr.heap.size wr wx ∧ Three wx wr.heap.size (.int .i64 tk) (.string ts) (.int .i64 tn))
      case first =>
        rcases punhide HST with ⟨h6k, e⟩ | ⟨h7k, hkk, e⟩
        · have dk : b7 = false := by rw [← punhide HB7, h6k]; rfl
          subst dk
          clear h6k
          injection e with e1 e2 e3
          subst e1
          subst e2
          subst e3
          go_wp2_with fail
          go_meet
          exact ⟨al, r3⟩
        · obtain ⟨gb, go, rfl, -, hgb, hgc⟩ := (punhide HP11).2.2.2.2.1 at9 hkk
          have hgc' := (al.cell (p := ⟨gb, go + at9, none⟩) hgb).trans hgc
          have dk : b7 = true := by rw [← punhide HB7, h7k]; rfl
          subst dk
          clear h7k
          obtain ⟨ky, hky⟩ : ∃ ky, (Tr.hd t).ks[at9]'hkk = ky := ⟨_, rfl⟩
          rw [hky] at hgc' e
          injection e with e1 e2 e3
          subst e1
          subst e2
          subst e3
          have i0 : (0 : Int) ≤ (at9 : Int) := by omega
          have i1 : (at9 : Int) < (kn11 : Int) := by have := (punhide HE11).2.1; omega
          have q0 := r3.c0
          have q1 := r3.c1
          have q2 := r3.c2
          have g0 := r3.f 0
          have g1 := r3.f 1
          have g2 := r3.f 2
          have p1 := (r3.put (.int .i64 1)).1
          have p2 := (p1.put (.string ts)).2.1
          have p3 := (p2.put (.int .i64 0)).2.2
          have z1 := p1.c1
          have z2 := p2.c2
          have hBz := ((al.setCell (p := ⟨wr.heap.size, 0, none⟩) (Nat.le_refl _) (.int .i64 1)).setCell (p := ⟨wr.heap.size, 1, none⟩) (Nat.le_refl _) (.string ts)).setCell (p := ⟨wr.heap.size, 2, none⟩) (Nat.le_refl _) (.int .i64 0)
          clear hgc r3 p1 p2 hky al
          go_wp2_with fail
          go_meet
          exact ⟨hBz, p3⟩
      case rest =>
      clear al r3 x0 x6
      obtain ⟨bz, r3⟩ := hcut
      generalize wc = Y3 at bz r3 ⊢
      have HZ' := phide (fun (W : World) (hW : Below Y3.heap.size Y3 W) => punhide HZ W (bz.trans (hW.mono bz.size)))
      clear HZ
      have HZ := HZ'
      clear HZ'
      have HN11' := phide (fun (W : World) (hW : Below Y3.heap.size Y3 W) => punhide HN11 W (bz.trans (hW.mono bz.size)))
      clear HN11
      have HN11 := HN11'
      clear HN11'
      have HS3 := phide (fun (W : World) (hW : Below Y3.heap.size Y3 W) => r3.step hW)
      clear r3 bz HP11
      obtain ⟨-, x0, x1, x2, x3, x4, -⟩ := (punhide HZ Y3 (Below.refl _ _)).2.1
      have n1 := Five.new Y3 (.slice a' n' c') (.slice none 0 0) (.string tok') (.int .i64 p'.fuel) (.int .i64 p'.quota) 25
      have hs : (Y3.alloc (.cells #[.slice a' n' c', .slice none 0 0, .string tok', .int .i64 p'.fuel, .int .i64 p'.quota] 25)).heap.size = Y3.heap.size + 1 := by simp
      have b0 : Below Y3.heap.size Y3 (Y3.alloc (.cells #[.slice a' n' c', .slice none 0 0, .string tok', .int .i64 p'.fuel, .int .i64 p'.quota] 25)) := (Below.refl _ _).alloc (Nat.le_refl _) _
      have HF := phide (And.intro n1 (And.intro hs b0))
      clear n1 hs b0
      go_upto_region 27 with fail
      clear x0 x1 x2 x3 x4
      obtain ⟨n1, hs, b0⟩ := punhide HF
      clear HF
      generalize (Y3.alloc (.cells #[.slice a' n' c', .slice none 0 0, .string tok', .int .i64 p'.fuel, .int .i64 p'.quota] 25)) = DN3 at n1 hs b0 ⊢
      have y1 := n1.c1
      have g1 := n1.f 1
      obtain ⟨hm, hf, hb⟩ := mark_lit DN3 Y3.heap.size (Y3.heap.size + 1) hs n1.lt ⟨tk, ts, tn⟩ Y3.heap.size (Nat.le_refl _)
      have f9 := hf _ _ _ _ _ n1
      have bz := b0.trans hb
      have s3 := punhide HS3 _ b0
      have s0 := s3.c0
      have s1 := s3.c1
      have s2 := s3.c2
      clear s3
      have hx : PolIn (((DN3.setCell ⟨Y3.heap.size, 1, none⟩ (.slice (some ⟨Y3.heap.size + 1 + 1, 0, none⟩) 1 1)).alloc (.cells #[.int .i64 tk, .string ts, .int .i64 tn] 57)).alloc (.cells #[.slice (some ⟨Y3.heap.size + 1, 0, none⟩) 1 1, .int .u64 1] 59)) (.agg #[.slice a' n' c', .slice none 0 0, .string tok', .int .i64 p'.fuel, .int .i64 p'.quota]) (⟨p'.cats, [], p'.token, p'.fuel, p'.quota⟩ : Po) := (punhide HZ _ bz).2.2
      have hp : PolIn (((DN3.setCell ⟨Y3.heap.size, 1, none⟩ (.slice (some ⟨Y3.heap.size + 1 + 1, 0, none⟩) 1 1)).alloc (.cells #[.int .i64 tk, .string ts, .int .i64 tn] 57)).alloc (.cells #[.slice (some ⟨Y3.heap.size + 1, 0, none⟩) 1 1, .int .u64 1] 59)) (.agg #[.slice a' n' c', .slice (some ⟨Y3.heap.size + 1 + 1, 0, none⟩) 1 1, .string tok', .int .i64 p'.fuel, .int .i64 p'.quota]) (⟨p'.cats, (oneM [⟨tk, ts, tn⟩]), p'.token, p'.fuel, p'.quota⟩ : Po) := PolIn.marks (p := (⟨p'.cats, [], p'.token, p'.fuel, p'.quota⟩ : Po)) hx hm
      have HF := phide (And.intro f9 (And.intro hp bz))
      clear f9 hp bz hx hm hf hb n1 b0
      go_upto_region 28 with fail
      clear y1 g1 s0 s1 s2
      obtain ⟨f9, hp, bz⟩ := punhide HF
      clear HF
      generalize (((DN3.setCell ⟨Y3.heap.size, 1, none⟩ (.slice (some ⟨Y3.heap.size + 1 + 1, 0, none⟩) 1 1)).alloc (.cells #[.int .i64 tk, .string ts, .int .i64 tn] 57)).alloc (.cells #[.slice (some ⟨Y3.heap.size + 1, 0, none⟩) 1 1, .int .u64 1] 59)) = N3 at f9 hp bz ⊢
      have HZ' := phide (fun (W : World) (hW : Below N3.heap.size N3 W) => punhide HZ W (bz.trans (hW.mono bz.size)))
      clear HZ
      have HZ := HZ'
      clear HZ'
      have HN11' := phide (fun (W : World) (hW : Below N3.heap.size N3 W) => punhide HN11 W (bz.trans (hW.mono bz.size)))
      clear HN11
      have HN11 := HN11'
      clear HN11'
      have HS3' := phide (fun (W : World) (hW : Below N3.heap.size N3 W) => punhide HS3 W (bz.trans (hW.mono bz.size)))
      clear HS3
      have HS3 := HS3'
      clear HS3'
      have HD3 := phide (fun (W : World) (hW : Below N3.heap.size N3 W) => And.intro (f9.step hW) (hp.step hW))
      clear f9 hp bz hs
      obtain ⟨u9, hu9⟩ : ∃ u9, mayP (⟨p'.cats, (oneM [⟨tk, ts, tn⟩]), p'.token, p'.fuel, p'.quota⟩ : Po) = u9 := ⟨_, rfl⟩
      have hbnd := punhide HB
      have CM9 := pmay8_any (.agg #[.slice a' n' c', .slice (some ⟨Y3.heap.size + 1 + 1, 0, none⟩) 1 1, .string tok', .int .i64 p'.fuel, .int .i64 p'.quota]) (⟨p'.cats, (oneM [⟨tk, ts, tn⟩]), p'.token, p'.fuel, p'.quota⟩ : Po) u9 hu9 (by show p'.cats.length ≤ 1000; have := hbnd.cats; omega) (fun x hx => by have := hbnd.names x hx; omega) (by show (1 : Nat) ≤ 1000; decide) (fun x hx => by simp only [oneM, List.mem_singleton] at hx; subst hx; simp) (by show p'.token.length ≤ 1000000; have := hbnd.token; omega) N3 (punhide HT _ (punhide HZ _ (Below.refl _ _)).1).1 (punhide HD3 _ (Below.refl _ _)).2
      obtain ⟨-, x0, x1, x2, x3, x4, -⟩ := (punhide HD3 _ (Below.refl _ _)).1
      clear hbnd hu9
      go_wp2_with fail
      refine CM9.mono ?_
      rintro e Y4 ⟨rfl, b1⟩
      clear CM9 x0 x1 x2 x3 x4
      by_cases hu90 : u9 = 0
      case neg =>
        have d9 : (u9 == 0) = false := by simp [hu90]
        have hF := (punhide HZ _ b1).1
        clear b1
        go_wp2_with fail
        go_ret
        exact ⟨rfl, hF⟩
      case pos =>
      subst hu90
      have HZ' := phide (fun (W : World) (hW : Below Y4.heap.size Y4 W) => punhide HZ W (b1.trans (hW.mono b1.size)))
      clear HZ
      have HZ := HZ'
      clear HZ'
      have HN11' := phide (fun (W : World) (hW : Below Y4.heap.size Y4 W) => punhide HN11 W (b1.trans (hW.mono b1.size)))
      clear HN11
      have HN11 := HN11'
      clear HN11'
      have HS3' := phide (fun (W : World) (hW : Below Y4.heap.size Y4 W) => punhide HS3 W (b1.trans (hW.mono b1.size)))
      clear HS3
      have HS3 := HS3'
      clear HS3'
      have HD3' := phide (fun (W : World) (hW : Below Y4.heap.size Y4 W) => punhide HD3 W (b1.trans (hW.mono b1.size)))
      clear HD3
      have HD3 := HD3'
      clear HD3'
      clear b1
      obtain ⟨-, x0, x1, x2, x3, x4, -⟩ := (punhide HD3 _ (Below.refl _ _)).1
      obtain ⟨y0, y1, y2, y3, y4, y5, y6, y7, y8⟩ := (punhide HN11 _ (Below.refl _ _)).1
      go_wp2_with fail
      refine (label_any 100 (by decide) (.agg #[.slice a' n' c', .slice (some ⟨Y3.heap.size + 1 + 1, 0, none⟩) 1 1, .string tok', .int .i64 p'.fuel, .int .i64 p'.quota]) (.agg #[.int .i64 hd11.k, .int .u64 (hd11.m : Int), .bool hd11.ng, .string hd11.dg, .int .i64 hd11.sc, .string hd11.tx, .slice ka11 kn11 kc11, .slice da11 dn11 dc11, .int .i64 hd11.cd]) (⟨p'.cats, (oneM [⟨tk, ts, tn⟩]), p'.token, p'.fuel, p'.quota⟩ : Po) t (by show (1 : Nat) ≤ 1000; decide) (fun x hx => by simp only [oneM, List.mem_singleton] at hx; subst hx; simp) Y4 (punhide HD3 _ (Below.refl _ _)).2 (punhide HN11 _ (Below.refl _ _)).2 (good_ok 100 t (punhide HG))).mono ?_
      rintro e U14 ⟨v14, rfl, hl14, bn⟩
      clear x0 x1 x2 x3 x4 y0 y1 y2 y3 y4 y5 y6 y7 y8
      obtain ⟨hd14, ka14, kn14, kc14, da14, dn14, dc14, rfl⟩ := hl14.shape
      have al : Below U14.heap.size U14 (U14.alloc (.cells #[.int .i64 hd14.k, .int .u64 (hd14.m : Int), .bool hd14.ng, .string hd14.dg, .int .i64 hd14.sc, .string hd14.tx, .slice ka14 kn14 kc14, .slice da14 dn14 dc14, .int .i64 hd14.cd] 42)) := (Below.refl _ _).alloc (Nat.le_refl _) _
      have bz : Below Y4.heap.size Y4 (U14.alloc (.cells #[.int .i64 hd14.k, .int .u64 (hd14.m : Int), .bool hd14.ng, .string hd14.dg, .int .i64 hd14.sc, .string hd14.tx, .slice ka14 kn14 kc14, .slice da14 dn14 dc14, .int .i64 hd14.cd] 42)) := bn.trans (al.mono bn.size)
      have kx : Box (U14.alloc (.cells #[.int .i64 hd14.k, .int .u64 (hd14.m : Int), .bool hd14.ng, .string hd14.dg, .int .i64 hd14.sc, .string hd14.tx, .slice ka14 kn14 kc14, .slice da14 dn14 dc14, .int .i64 hd14.cd] 42)) U14.heap.size #[.int .i64 hd14.k, .int .u64 (hd14.m : Int), .bool hd14.ng, .string hd14.dg, .int .i64 hd14.sc, .string hd14.tx, .slice ka14 kn14 kc14, .slice da14 dn14 dc14, .int .i64 hd14.cd] := Box.new _ _ _
      have lx := hl14.any.below al
      have HZ' := phide (fun (W : World) (hW : Below (U14.alloc (.cells #[.int .i64 hd14.k, .int .u64 (hd14.m : Int), .bool hd14.ng, .string hd14.dg, .int .i64 hd14.sc, .string hd14.tx, .slice ka14 kn14 kc14, .slice da14 dn14 dc14, .int .i64 hd14.cd] 42)).heap.size (U14.alloc (.cells #[.int .i64 hd14.k, .int .u64 (hd14.m : Int), .bool hd14.ng, .string hd14.dg, .int .i64 hd14.sc, .string hd14.tx, .slice ka14 kn14 kc14, .slice da14 dn14 dc14, .int .i64 hd14.cd] 42)) W) => punhide HZ W (bz.trans (hW.mono bz.size)))
      clear HZ
      have HZ := HZ'
      clear HZ'
      have HN11' := phide (fun (W : World) (hW : Below (U14.alloc (.cells #[.int .i64 hd14.k, .int .u64 (hd14.m : Int), .bool hd14.ng, .string hd14.dg, .int .i64 hd14.sc, .string hd14.tx, .slice ka14 kn14 kc14, .slice da14 dn14 dc14, .int .i64 hd14.cd] 42)).heap.size (U14.alloc (.cells #[.int .i64 hd14.k, .int .u64 (hd14.m : Int), .bool hd14.ng, .string hd14.dg, .int .i64 hd14.sc, .string hd14.tx, .slice ka14 kn14 kc14, .slice da14 dn14 dc14, .int .i64 hd14.cd] 42)) W) => punhide HN11 W (bz.trans (hW.mono bz.size)))
      clear HN11
      have HN11 := HN11'
      clear HN11'
      have HS3' := phide (fun (W : World) (hW : Below (U14.alloc (.cells #[.int .i64 hd14.k, .int .u64 (hd14.m : Int), .bool hd14.ng, .string hd14.dg, .int .i64 hd14.sc, .string hd14.tx, .slice ka14 kn14 kc14, .slice da14 dn14 dc14, .int .i64 hd14.cd] 42)).heap.size (U14.alloc (.cells #[.int .i64 hd14.k, .int .u64 (hd14.m : Int), .bool hd14.ng, .string hd14.dg, .int .i64 hd14.sc, .string hd14.tx, .slice ka14 kn14 kc14, .slice da14 dn14 dc14, .int .i64 hd14.cd] 42)) W) => punhide HS3 W (bz.trans (hW.mono bz.size)))
      clear HS3
      have HS3 := HS3'
      clear HS3'
      have HD3' := phide (fun (W : World) (hW : Below (U14.alloc (.cells #[.int .i64 hd14.k, .int .u64 (hd14.m : Int), .bool hd14.ng, .string hd14.dg, .int .i64 hd14.sc, .string hd14.tx, .slice ka14 kn14 kc14, .slice da14 dn14 dc14, .int .i64 hd14.cd] 42)).heap.size (U14.alloc (.cells #[.int .i64 hd14.k, .int .u64 (hd14.m : Int), .bool hd14.ng, .string hd14.dg, .int .i64 hd14.sc, .string hd14.tx, .slice ka14 kn14 kc14, .slice da14 dn14 dc14, .int .i64 hd14.cd] 42)) W) => punhide HD3 W (bz.trans (hW.mono bz.size)))
      clear HD3
      have HD3 := HD3'
      clear HD3'
      have HN14 := phide (fun (W : World) (hW : Below (U14.alloc (.cells #[.int .i64 hd14.k, .int .u64 (hd14.m : Int), .bool hd14.ng, .string hd14.dg, .int .i64 hd14.sc, .string hd14.tx, .slice ka14 kn14 kc14, .slice da14 dn14 dc14, .int .i64 hd14.cd] 42)).heap.size (U14.alloc (.cells #[.int .i64 hd14.k, .int .u64 (hd14.m : Int), .bool hd14.ng, .string hd14.dg, .int .i64 hd14.sc, .string hd14.tx, .slice ka14 kn14 kc14, .slice da14 dn14 dc14, .int .i64 hd14.cd] 42)) W) => And.intro (box_nine kx hW) (lx.below hW))
      clear al bz kx lx bn hl14
      go_upto_region 31 with fail
      generalize U14.heap.size = gx14 at HN14 ⊢
      generalize (U14.alloc (.cells #[.int .i64 hd14.k, .int .u64 (hd14.m : Int), .bool hd14.ng, .string hd14.dg, .int .i64 hd14.sc, .string hd14.tx, .slice ka14 kn14 kc14, .slice da14 dn14 dc14, .int .i64 hd14.cd] 42)) = Z14 at HZ HN11 HS3 HD3 HN14 ⊢
      obtain ⟨hgh, hat, hst⟩ := punhide HGH
      have hp14 := Lies.parts (n := 99) (punhide HN14 _ (Below.refl _ _)).2
      have e14 : hd14.m = 0 := hp14.2.1.trans (by rw [label_hd, ← hst]; exact top_mask hgh hat)
      have hM8 : dn14 ≤ 1000000 := by rw [hp14.2.2.2.1.trans (label_len _ _ _ _)]; exact (good_ok 100 t (punhide HG)).2.1
      have HD14 : Hid (dn14 = (Tr.kd t).length) := phide (hp14.2.2.2.1.trans (label_len _ _ _ _))
      have HK14 := phide hp14.2.2.2.2.2
      clear hp14
      go_wp2_with fail
      go_loopw [18] (fun i wr => ∃ k : Nat, i = .int .i64 (k : Int) ∧ k ≤ dn14 ∧ Below Z14.heap.size Z14 wr) (fun i _ => dn14 - (intOf i).toNat)
      case atStart => exact ⟨0, rfl, Nat.zero_le _, Below.refl _ _⟩
      case round =>
        obtain ⟨k, rfl, hk, hBr⟩ := hrel
        have z7 := (punhide HN14 _ hBr).1.2.2.2.2.2.2.2.1
        by_cases hlt : k < dn14
        case pos =>
          have hlt2 : k < (Tr.kd t).length := by rw [← punhide HD14]; exact hlt
          have hlt3 : k < (Tr.kd (labelT (oneM [⟨tk, ts, tn⟩]) 100 [] t)).length := by rw [label_len]; exact hlt2
          obtain ⟨kb, ko, hd, ka2, kn2, kc2, da2, dn2, dc2, hao, hbk, ⟨-, c1, -⟩, hlies⟩ := kid_at (punhide HK14) hBr k hlt3
          subst hao
          rw [label_at _ _ _ _ _ hlt2] at hlies
          have hm := (Lies.parts (n := 98) hlies).2.1
          rw [label_hd, List.nil_append, ← hst, kid_mask hgh hlt2 hat] at hm
          have i0 : (0 : Int) ≤ (k : Int) := by omega
          have i1 : (k : Int) < (dn14 : Int) := by omega
          clear hlies
          by_cases hka : k = at9
          case pos =>
            subst hka
            rw [if_pos rfl] at hm
            rw [hm] at c1
            have c1' : wr.cell? ⟨kb, ko + k * 9 + 1, none⟩ = some (.int .u64 1) := c1
            clear c1
            go_wp2_with fail
            go_roundw
            case rel => exact ⟨k + 1, by go_num, hlt, hBr⟩
            case measure => simp [intOf]; omega
          case neg =>
            rw [if_neg hka] at hm
            rw [hm] at c1
            have c1' : wr.cell? ⟨kb, ko + k * 9 + 1, none⟩ = some (.int .u64 0) := c1
            have dka : decide ((k : Int) = (at9 : Int)) = false := decide_eq_false (by omega)
            clear c1
            go_wp2_with fail
            go_roundw
            case rel => exact ⟨k + 1, by go_num, hlt, hBr⟩
            case measure => simp [intOf]; omega
        case neg =>
          have dl : decide ((k : Int) < (dn14 : Int)) = false := decide_eq_false (by omega)
          obtain ⟨x0, x1, x2, x3, x4, x5, x6, x7, x8⟩ := (punhide HN14 _ hBr).1
          rw [e14] at x1
          have x1' : wr.cell? ⟨gx14, 1, none⟩ = some (.int .u64 0) := x1
          have CD := rdeep_any 100 _ _ wr (punhide HN14 _ hBr).2 (ok_label _ _ _ _ (good_ok 100 t (punhide HG)))
          have hdp := key_deep100 hgh hat
          rw [hst] at hdp
          rw [hdp, e14] at CD
          have CD' : Calls Tryz.prog 22 #[.agg #[.int .i64 hd14.k, .int .u64 0, .bool hd14.ng, .string hd14.dg, .int .i64 hd14.sc, .string hd14.tx, .slice ka14 kn14 kc14, .slice da14 dn14 dc14, .int .i64 hd14.cd]] wr fun e w' => e = .returned (.int .u64 1) ∧ 1 < 18446744073709551616 ∧ Below wr.heap.size wr w' := CD
          clear CD e14
          have HBR := phide hBr
          clear z7 x1 hgh hat hst hdp hBr
          go_wp2_with fail
          refine CD'.mono ?_
          rintro e w2 ⟨rfl, -, b2⟩
          have hF := (punhide HZ _ ((punhide HBR).trans (b2.mono (punhide HBR).size))).1
          clear CD' b2
          go_wp2
          go_ret
          exact ⟨rfl, hF⟩
end Go.Proofs.YtnagecbepidfiaaGreatDoor.Pol
