/- What is proved here: PolicyUnion, walked; conditions: the tables and the two errors lie, the policies and the items lie. Written by union8_gen.py. -/
import Derived.Test.YtnagecbepidfiaaGreatDoorZHh
import Derived.Test.YtnagecbepidfiaaGreatDoorZHc
import Derived.Test.YtnagecbepidfiaaGreatDoorZHf
import Derived.Test.YtnagecbepidfiaaGreatDoorZHe
import Derived.Test.YtnagecbepidfiaaGreatDoorZHa
namespace Go.Proofs.YtnagecbepidfiaaGreatDoor.Pol
set_option maxRecDepth 100000
open Go.RowKit Go.Proofs.YtnagecbepidfiaaGreatDoor.Nc Go.Proofs.YtnagecbepidfiaaGreatDoor.Np Go.Proofs.YtnagecbepidfiaaGreatDoor.Nq
set_option linter.unusedVariables false
set_option linter.unusedSimpArgs false

theorem PolIn.marks {w : World} {a b b2 : Option Addr} {n c m d m2 d2 : Nat} {tok : ByteArray} {p : Po} (h : PolIn w (.agg #[.slice a n c, .slice b m d, .string tok, .int .i64 p.fuel, .int .i64 p.quota]) p) {M : List Mk} (hM : MarksIn w b2 m2 M) : PolIn w (.agg #[.slice a n c, .slice b2 m2 d2, .string tok, .int .i64 p.fuel, .int .i64 p.quota]) ⟨p.cats, M, p.token, p.fuel, p.quota⟩ := by
  obtain ⟨h1, h2, h3⟩ := h.parts
  exact ⟨a, n, c, b2, m2, d2, tok, rfl, h1, h2, hM⟩
theorem PolIn.cats {w : World} {a b a2 : Option Addr} {n c m d n2 c2 : Nat} {tok : ByteArray} {p : Po} (h : PolIn w (.agg #[.slice a n c, .slice b m d, .string tok, .int .i64 p.fuel, .int .i64 p.quota]) p) {C : List Tx} (hC : TxIn w a2 n2 C) : PolIn w (.agg #[.slice a2 n2 c2, .slice b m d, .string tok, .int .i64 p.fuel, .int .i64 p.quota]) ⟨C, p.marks, p.token, p.fuel, p.quota⟩ := by
  obtain ⟨h1, h2, h3⟩ := h.parts
  exact ⟨a2, n2, c2, b, m, d, tok, rfl, h1, hC, h3⟩

set_option maxRecDepth 100000 in
set_option maxHeartbeats 16000000 in
theorem union8 (v : Value) (p : Po) (v2 : Value) (p2 : Po) (a0 : Option Addr) (n0 c0 : Nat) (w : World) (hn0 : n0 ≤ 140737488355328) (hit : ∀ i, i < n0 → i < 80 → ItemAt w a0 i) (hI : PolIn w v p) (hI2 : PolIn w v2 p2) (hT : Tabs w) (hP : Pow w) (hE : Errs w) :
    Calls Tryz.prog 7 #[v, v2, .slice a0 n0 c0] w fun e w' => e = .returned (.bool true) ∧ Below w.heap.size w w' := by
  have HI := phide (fun (W : World) (hB : Below w.heap.size w W) => (And.intro (hI.step hB) (hI2.step hB)))
  have HIT := phide hit
  obtain ⟨a, n, c, b, m, d, tok, rfl, -, -, -⟩ := hI
  obtain ⟨a2, n2, c2, b2, m2, d2, tok2, rfl, -, -, -⟩ := hI2
  have CF := fun W h => few8c (.agg #[.slice a n c, .slice b m d, .string tok, .int .i64 p.fuel, .int .i64 p.quota]) p W h
  have CF2 := fun W h => few8c (.agg #[.slice a2 n2 c2, .slice b2 m2 d2, .string tok2, .int .i64 p2.fuel, .int .i64 p2.quota]) p2 W h
  have hB : Below w.heap.size w ((w.alloc (.cells #[.slice a n c, .slice b m d, .string tok, .int .i64 p.fuel, .int .i64 p.quota] 25)).alloc (.cells #[.slice a2 n2 c2, .slice b2 m2 d2, .string tok2, .int .i64 p2.fuel, .int .i64 p2.quota] 25)) := ((Below.refl _ _).alloc (Nat.le_refl _) _).alloc (by simp) _
  have f1 := (Five.new w (.slice a n c) (.slice b m d) (.string tok) (.int .i64 p.fuel) (.int .i64 p.quota) 25).step ((Below.refl _ _).alloc (Nat.le_refl _) (.cells #[.slice a2 n2 c2, .slice b2 m2 d2, .string tok2, .int .i64 p2.fuel, .int .i64 p2.quota] 25))
  have f2 : Five ((w.alloc (.cells #[.slice a n c, .slice b m d, .string tok, .int .i64 p.fuel, .int .i64 p.quota] 25)).alloc (.cells #[.slice a2 n2 c2, .slice b2 m2 d2, .string tok2, .int .i64 p2.fuel, .int .i64 p2.quota] 25)) (w.heap.size + 1) (.slice a2 n2 c2) (.slice b2 m2 d2) (.string tok2) (.int .i64 p2.fuel) (.int .i64 p2.quota) := by
    have := Five.new (w.alloc (.cells #[.slice a n c, .slice b m d, .string tok, .int .i64 p.fuel, .int .i64 p.quota] 25)) (.slice a2 n2 c2) (.slice b2 m2 d2) (.string tok2) (.int .i64 p2.fuel) (.int .i64 p2.quota) 25
    rwa [show (w.alloc (.cells #[.slice a n c, .slice b m d, .string tok, .int .i64 p.fuel, .int .i64 p.quota] 25)).heap.size = w.heap.size + 1 by simp] at this
  have HT : Hid (∀ W, Below w.heap.size w W → Tabs W ∧ Pow W ∧ Errs W) := phide (fun W hB => ⟨tabs_step hT hB, hP.next hB, Errs.next hE hB⟩)
  clear hT hP hE hit
  have HF := phide (And.intro f1 (And.intro f2 hB))
  clear f1 f2 hB
  go_enter Tryz.func7, Tryz.ntmps7
  go_upto_region 1 with fail
  obtain ⟨f1, f2, hB⟩ := punhide HF
  clear HF
  generalize (w.alloc (.cells #[.slice a n c, .slice b m d, .string tok, .int .i64 p.fuel, .int .i64 p.quota] 25)).alloc (.cells #[.slice a2 n2 c2, .slice b2 m2 d2, .string tok2, .int .i64 p2.fuel, .int .i64 p2.quota] 25) = W0 at f1 f2 hB ⊢
  go_wp2_with fail
  refine (shown8 _ (punhide HT _ hB).1 (punhide HT _ hB).2.1 (punhide HT _ hB).2.2).mono ?_
  rintro e W1 ⟨rfl, b2'⟩
  replace f1 := f1.step b2'
  replace f2 := f2.step b2'
  replace hB := hB.trans (b2'.mono hB.size)
  clear b2'
  have HI0 := phide (fun (W : World) hB => (punhide HI W hB).1)
  obtain ⟨-, x0, x1, x2, x3, x4, -⟩ := id f1
  have HF := phide (And.intro f1 (And.intro f2 hB))
  clear f1 f2 hB
  go_wp2_with fail
  refine (CF _ (punhide HI0 _ (punhide HF).2.2)).mono ?_
  rintro e W3 ⟨b3, v3, p3, rfl, hP3, hroom, hbnd3⟩
  clear CF x0 x1 x2 x3 x4
  obtain ⟨f1, f2, hB⟩ := punhide HF
  clear HF
  obtain ⟨a3, n3, c3, b3, m3, d3, tok3, rfl, htok, hC, hM⟩ := hP3
  obtain ⟨mg1, rfl, hmd3⟩ := MRoom.of hroom
  have hP3 : PolF W3 W1.heap.size (.agg #[.slice a3 n3 c3, .slice (some ⟨mg1, 0, none⟩) m3 d3, .string tok3, .int .i64 p3.fuel, .int .i64 p3.quota]) p3 := ⟨a3, n3, c3, _, m3, d3, tok3, rfl, htok, hC, hM⟩
  have hbs3 : w.heap.size < W1.heap.size := f1.lt
  have hbo3 : w.heap.size + 1 < W1.heap.size := f2.lt
  replace f1 := f1.step b3
  replace f2 := f2.step b3
  replace hB := hB.trans (b3.mono hB.size)
  have y0 := f1.c0
  have y1 := f1.c1
  have y2 := f1.c2
  have y3 := f1.c3
  have y4 := f1.c4
  have g0 := f1.f 0
  have g1 := f1.f 1
  have g2 := f1.f 2
  have g3 := f1.f 3
  have g4 := f1.f 4
  have q1 := (f1.put (.slice a3 n3 c3)).1
  have q2 := (q1.put (.slice (some ⟨mg1, 0, none⟩) m3 d3)).2.1
  have q3 := (q2.put (.string tok3)).2.2.1
  have q4 := (q3.put (.int .i64 p3.fuel)).2.2.2.1
  have q5 := (q4.put (.int .i64 p3.quota)).2.2.2.2
  have z1 := q1.c1
  have z2 := q2.c2
  have z3 := q3.c3
  have z4 := q4.c4
  have hne3 : w.heap.size + 1 ≠ w.heap.size := by omega
  have hbw3 : w.heap.size ≤ w.heap.size := by omega
  have f2' := (((((f2.other ⟨w.heap.size, 0, none⟩ hne3 (.slice a3 n3 c3)).other ⟨w.heap.size, 1, none⟩ hne3 (.slice (some ⟨mg1, 0, none⟩) m3 d3)).other ⟨w.heap.size, 2, none⟩ hne3 (.string tok3)).other ⟨w.heap.size, 3, none⟩ hne3 (.int .i64 p3.fuel)).other ⟨w.heap.size, 4, none⟩ hne3 (.int .i64 p3.quota))
  have hP3' := (((((hP3.keep (Kp.of_set ⟨w.heap.size, 0, none⟩ (.slice a3 n3 c3) hbs3)).keep (Kp.of_set ⟨w.heap.size, 1, none⟩ (.slice (some ⟨mg1, 0, none⟩) m3 d3) hbs3)).keep (Kp.of_set ⟨w.heap.size, 2, none⟩ (.string tok3) hbs3)).keep (Kp.of_set ⟨w.heap.size, 3, none⟩ (.int .i64 p3.fuel) hbs3)).keep (Kp.of_set ⟨w.heap.size, 4, none⟩ (.int .i64 p3.quota) hbs3))
  have hB' := (((((hB.setCell (p := ⟨w.heap.size, 0, none⟩) hbw3 (.slice a3 n3 c3)).setCell (p := ⟨w.heap.size, 1, none⟩) hbw3 (.slice (some ⟨mg1, 0, none⟩) m3 d3)).setCell (p := ⟨w.heap.size, 2, none⟩) hbw3 (.string tok3)).setCell (p := ⟨w.heap.size, 3, none⟩) hbw3 (.int .i64 p3.fuel)).setCell (p := ⟨w.heap.size, 4, none⟩) hbw3 (.int .i64 p3.quota))
  have HF := phide (And.intro q5 (And.intro f2' (And.intro hP3' (And.intro hB' trivial))))
  clear f1 f2 hB hP3 f2' hP3' hB'  b3 htok hC hM q1 q2 q3 q4 q5 hroom
  go_upto_region 3 with fail
  clear y0 y1 y2 y3 y4 g0 g1 g2 g3 g4 z1 z2 z3 z4
  obtain ⟨q5, f2, hP3, hB, -⟩ := punhide HF
  clear HF
  generalize (((((W3.setCell ⟨w.heap.size, 0, none⟩ (.slice a3 n3 c3)).setCell ⟨w.heap.size, 1, none⟩ (.slice (some ⟨mg1, 0, none⟩) m3 d3)).setCell ⟨w.heap.size, 2, none⟩ (.string tok3)).setCell ⟨w.heap.size, 3, none⟩ (.int .i64 p3.fuel)).setCell ⟨w.heap.size, 4, none⟩ (.int .i64 p3.quota)) = W3e at q5 f2 hP3 hB  ⊢
  have f1 := f2
  clear f2
  have f2 := q5
  clear q5 HI0
  have HI0 := phide (fun (W : World) hB => (punhide HI W hB).2)
  obtain ⟨-, x0, x1, x2, x3, x4, -⟩ := id f1
  have HF := phide (And.intro f1 (And.intro f2 hB))
  clear f1 f2 hB
  go_wp2_with fail
  refine (CF2 _ (punhide HI0 _ (punhide HF).2.2)).mono ?_
  rintro e W4 ⟨b3, v4, p4, rfl, hP4, hroom, hbnd4⟩
  clear CF2 x0 x1 x2 x3 x4
  obtain ⟨f1, f2, hB⟩ := punhide HF
  clear HF
  obtain ⟨a4, n4, c4, b4, m4, d4, tok4, rfl, htok, hC, hM⟩ := hP4
  obtain ⟨mg2, rfl, hmd4⟩ := MRoom.of hroom
  have hP4 : PolF W4 W3e.heap.size (.agg #[.slice a4 n4 c4, .slice (some ⟨mg2, 0, none⟩) m4 d4, .string tok4, .int .i64 p4.fuel, .int .i64 p4.quota]) p4 := ⟨a4, n4, c4, _, m4, d4, tok4, rfl, htok, hC, hM⟩
  have hbs4 : w.heap.size + 1 < W3e.heap.size := f1.lt
  have hbo4 : w.heap.size < W3e.heap.size := f2.lt
  replace f1 := f1.step b3
  replace f2 := f2.step b3
  replace hB := hB.trans (b3.mono hB.size)
  replace hP3 := hP3.keep (Kp.of_below b3)
  have y0 := f1.c0
  have y1 := f1.c1
  have y2 := f1.c2
  have y3 := f1.c3
  have y4 := f1.c4
  have g0 := f1.f 0
  have g1 := f1.f 1
  have g2 := f1.f 2
  have g3 := f1.f 3
  have g4 := f1.f 4
  have q1 := (f1.put (.slice a4 n4 c4)).1
  have q2 := (q1.put (.slice (some ⟨mg2, 0, none⟩) m4 d4)).2.1
  have q3 := (q2.put (.string tok4)).2.2.1
  have q4 := (q3.put (.int .i64 p4.fuel)).2.2.2.1
  have q5 := (q4.put (.int .i64 p4.quota)).2.2.2.2
  have z1 := q1.c1
  have z2 := q2.c2
  have z3 := q3.c3
  have z4 := q4.c4
  have hne4 : w.heap.size ≠ w.heap.size + 1 := by omega
  have hbw4 : w.heap.size ≤ w.heap.size + 1 := by omega
  have hqb3 : w.heap.size + 1 < W1.heap.size := hbo3
  have f2' := (((((f2.other ⟨w.heap.size + 1, 0, none⟩ hne4 (.slice a4 n4 c4)).other ⟨w.heap.size + 1, 1, none⟩ hne4 (.slice (some ⟨mg2, 0, none⟩) m4 d4)).other ⟨w.heap.size + 1, 2, none⟩ hne4 (.string tok4)).other ⟨w.heap.size + 1, 3, none⟩ hne4 (.int .i64 p4.fuel)).other ⟨w.heap.size + 1, 4, none⟩ hne4 (.int .i64 p4.quota))
  have hP4' := (((((hP4.keep (Kp.of_set ⟨w.heap.size + 1, 0, none⟩ (.slice a4 n4 c4) hbs4)).keep (Kp.of_set ⟨w.heap.size + 1, 1, none⟩ (.slice (some ⟨mg2, 0, none⟩) m4 d4) hbs4)).keep (Kp.of_set ⟨w.heap.size + 1, 2, none⟩ (.string tok4) hbs4)).keep (Kp.of_set ⟨w.heap.size + 1, 3, none⟩ (.int .i64 p4.fuel) hbs4)).keep (Kp.of_set ⟨w.heap.size + 1, 4, none⟩ (.int .i64 p4.quota) hbs4))
  have hP3' := (((((hP3.keep (Kp.of_set ⟨w.heap.size + 1, 0, none⟩ (.slice a4 n4 c4) hqb3)).keep (Kp.of_set ⟨w.heap.size + 1, 1, none⟩ (.slice (some ⟨mg2, 0, none⟩) m4 d4) hqb3)).keep (Kp.of_set ⟨w.heap.size + 1, 2, none⟩ (.string tok4) hqb3)).keep (Kp.of_set ⟨w.heap.size + 1, 3, none⟩ (.int .i64 p4.fuel) hqb3)).keep (Kp.of_set ⟨w.heap.size + 1, 4, none⟩ (.int .i64 p4.quota) hqb3))
  have hB' := (((((hB.setCell (p := ⟨w.heap.size + 1, 0, none⟩) hbw4 (.slice a4 n4 c4)).setCell (p := ⟨w.heap.size + 1, 1, none⟩) hbw4 (.slice (some ⟨mg2, 0, none⟩) m4 d4)).setCell (p := ⟨w.heap.size + 1, 2, none⟩) hbw4 (.string tok4)).setCell (p := ⟨w.heap.size + 1, 3, none⟩) hbw4 (.int .i64 p4.fuel)).setCell (p := ⟨w.heap.size + 1, 4, none⟩) hbw4 (.int .i64 p4.quota))
  have HF := phide (And.intro q5 (And.intro f2' (And.intro hP4' (And.intro hB' hP3'))))
  clear f1 f2 hB hP4 f2' hP4' hB' hP3 hP3' b3 htok hC hM q1 q2 q3 q4 q5 hroom
  go_upto_region 4 with fail
  clear y0 y1 y2 y3 y4 g0 g1 g2 g3 g4 z1 z2 z3 z4
  obtain ⟨q5, f2, hP4, hB, hP3⟩ := punhide HF
  clear HF
  generalize (((((W4.setCell ⟨w.heap.size + 1, 0, none⟩ (.slice a4 n4 c4)).setCell ⟨w.heap.size + 1, 1, none⟩ (.slice (some ⟨mg2, 0, none⟩) m4 d4)).setCell ⟨w.heap.size + 1, 2, none⟩ (.string tok4)).setCell ⟨w.heap.size + 1, 3, none⟩ (.int .i64 p4.fuel)).setCell ⟨w.heap.size + 1, 4, none⟩ (.int .i64 p4.quota)) = W4e at q5 f2 hP4 hB hP3 ⊢
  have x0 := f2.c0
  have y0 := q5.c0
  have g0 := q5.f 0
  have r1 := (q5.put (.slice a3 n3 c3)).1
  have r2 := f2.other ⟨w.heap.size + 1, 0, none⟩ (by show w.heap.size ≠ w.heap.size + 1; omega) (.slice a3 n3 c3)
  have r3 := hP3.keep (Kp.of_set ⟨w.heap.size + 1, 0, none⟩ (.slice a3 n3 c3) (by show w.heap.size + 1 < W1.heap.size; omega))
  have r4 := hP4.keep (Kp.of_set ⟨w.heap.size + 1, 0, none⟩ (.slice a3 n3 c3) (by show w.heap.size + 1 < W3e.heap.size; omega))
  have r5 := hB.setCell (p := ⟨w.heap.size + 1, 0, none⟩) (Nat.le_succ _) (.slice a3 n3 c3)
  have HF := phide (And.intro r1 (And.intro r2 (And.intro r3 (And.intro r4 r5))))
  clear r1 r2 r3 r4 r5 q5 f2 hP3 hP4 hB
  go_upto_region 5 with fail
  clear x0 y0 g0
  obtain ⟨q5, f2, hP3, hP4, hB⟩ := punhide HF
  clear HF
  generalize W4e.setCell ⟨w.heap.size + 1, 0, none⟩ (.slice a3 n3 c3) = W5 at q5 f2 hP3 hP4 hB ⊢
  have xl := f2.c1
  go_upto_if 24 with fail
  clear xl
  go_cut [] from 25 to 28 (fun wx => ∃ k1 : Nat, k1 ≤ 8 ∧ k1 ≤ m3 ∧ Five wx w.heap.size (.slice a3 n3 c3) (.slice (some ⟨mg1, 0, none⟩) k1 d3) (.string tok3) (.int .i64 p3.fuel) (.int .i64 p3.quota) ∧ Five wx (w.heap.size + 1) (.slice a3 n3 c3) (.slice (some ⟨mg2, 0, none⟩) m4 d4) (.string tok4) (.int .i64 p4.fuel) (.int .i64 p4.quota) ∧ PolF wx W1.heap.size (.agg #[.slice a3 n3 c3, .slice (some ⟨mg1, 0, none⟩) m3 d3, .string tok3, .int .i64 p3.fuel, .int .i64 p3.quota]) p3 ∧ PolF wx W3e.heap.size (.agg #[.slice a4 n4 c4, .slice (some ⟨mg2, 0, none⟩) m4 d4, .string tok4, .int .i64 p4.fuel, .int .i64 p4.quota]) p4 ∧ Below w.heap.size w wx)
  case first =>
    have x1 := f2.c1
    have g1 := f2.f 1
    by_cases h8 : 8 < m3
    case pos =>
      have dd : decide ((8 : Int) < (m3 : Int)) = true := decide_eq_true (by omega)
      have s8 : (8 : Int) ≤ (d3 : Int) := by omega
      have j1 := (f2.put (.slice (some ⟨mg1, 0, none⟩) 8 d3)).2.1
      have j2 := q5.other ⟨w.heap.size, 1, none⟩ (by show _ ≠ w.heap.size; omega) (.slice (some ⟨mg1, 0, none⟩) 8 d3)
      have j3 := hP3.keep (Kp.of_set ⟨w.heap.size, 1, none⟩ (.slice (some ⟨mg1, 0, none⟩) 8 d3) (by show w.heap.size < W1.heap.size; omega))
      have j4 := hP4.keep (Kp.of_set ⟨w.heap.size, 1, none⟩ (.slice (some ⟨mg1, 0, none⟩) 8 d3) (by show w.heap.size < W3e.heap.size; omega))
      have j5 := hB.setCell (p := ⟨w.heap.size, 1, none⟩) (by show w.heap.size ≤ w.heap.size; omega) (.slice (some ⟨mg1, 0, none⟩) 8 d3)
      have HQ := phide (And.intro j1 (And.intro j2 (And.intro j3 (And.intro j4 j5))))
      clear j1 j2 j3 j4 j5 f2 q5 hP3 hP4 hB
      go_wp2_with fail
      go_meet
      obtain ⟨j1, j2, j3, j4, j5⟩ := punhide HQ
      exact ⟨8, Nat.le_refl _, by omega, j1, j2, j3, j4, j5⟩
    case neg =>
      have dd : decide ((8 : Int) < (m3 : Int)) = false := decide_eq_false (by omega)
      have HQ := phide (And.intro f2 (And.intro q5 (And.intro hP3 (And.intro hP4 hB))))
      clear f2 q5 hP3 hP4 hB
      go_wp2_with fail
      go_meet
      obtain ⟨j1, j2, j3, j4, j5⟩ := punhide HQ
      exact ⟨m3, by omega, Nat.le_refl _, j1, j2, j3, j4, j5⟩
  case rest =>
  clear f2 q5 hP3 hP4 hB
  obtain ⟨k1, hk1, hk1m, f2, q5, hP3, hP4, hB⟩ := hcut
  generalize wc = W6 at q5 f2 hP3 hP4 hB ⊢
  go_upto_region 7 with fail
  have xl := q5.c1
  go_upto_if 32 with fail
  clear xl
  go_cut [] from 33 to 36 (fun wx => ∃ k2 : Nat, k2 ≤ 8 ∧ k2 ≤ m4 ∧ Five wx (w.heap.size + 1) (.slice a3 n3 c3) (.slice (some ⟨mg2, 0, none⟩) k2 d4) (.string tok4) (.int .i64 p4.fuel) (.int .i64 p4.quota) ∧ Five wx w.heap.size (.slice a3 n3 c3) (.slice (some ⟨mg1, 0, none⟩) k1 d3) (.string tok3) (.int .i64 p3.fuel) (.int .i64 p3.quota) ∧ PolF wx W1.heap.size (.agg #[.slice a3 n3 c3, .slice (some ⟨mg1, 0, none⟩) m3 d3, .string tok3, .int .i64 p3.fuel, .int .i64 p3.quota]) p3 ∧ PolF wx W3e.heap.size (.agg #[.slice a4 n4 c4, .slice (some ⟨mg2, 0, none⟩) m4 d4, .string tok4, .int .i64 p4.fuel, .int .i64 p4.quota]) p4 ∧ Below w.heap.size w wx)
  case first =>
    have x1 := q5.c1
    have g1 := q5.f 1
    by_cases h8 : 8 < m4
    case pos =>
      have dd : decide ((8 : Int) < (m4 : Int)) = true := decide_eq_true (by omega)
      have s8 : (8 : Int) ≤ (d4 : Int) := by omega
      have j1 := (q5.put (.slice (some ⟨mg2, 0, none⟩) 8 d4)).2.1
      have j2 := f2.other ⟨(w.heap.size + 1), 1, none⟩ (by show _ ≠ (w.heap.size + 1); omega) (.slice (some ⟨mg2, 0, none⟩) 8 d4)
      have j3 := hP3.keep (Kp.of_set ⟨(w.heap.size + 1), 1, none⟩ (.slice (some ⟨mg2, 0, none⟩) 8 d4) (by show (w.heap.size + 1) < W1.heap.size; omega))
      have j4 := hP4.keep (Kp.of_set ⟨(w.heap.size + 1), 1, none⟩ (.slice (some ⟨mg2, 0, none⟩) 8 d4) (by show (w.heap.size + 1) < W3e.heap.size; omega))
      have j5 := hB.setCell (p := ⟨(w.heap.size + 1), 1, none⟩) (by show w.heap.size ≤ (w.heap.size + 1); omega) (.slice (some ⟨mg2, 0, none⟩) 8 d4)
      have HQ := phide (And.intro j1 (And.intro j2 (And.intro j3 (And.intro j4 j5))))
      clear j1 j2 j3 j4 j5 q5 f2 hP3 hP4 hB
      go_wp2_with fail
      go_meet
      obtain ⟨j1, j2, j3, j4, j5⟩ := punhide HQ
      exact ⟨8, Nat.le_refl _, by omega, j1, j2, j3, j4, j5⟩
    case neg =>
      have dd : decide ((8 : Int) < (m4 : Int)) = false := decide_eq_false (by omega)
      have HQ := phide (And.intro q5 (And.intro f2 (And.intro hP3 (And.intro hP4 hB))))
      clear q5 f2 hP3 hP4 hB
      go_wp2_with fail
      go_meet
      obtain ⟨j1, j2, j3, j4, j5⟩ := punhide HQ
      exact ⟨m4, by omega, Nat.le_refl _, j1, j2, j3, j4, j5⟩
  case rest =>
  clear q5 f2 hP3 hP4 hB
  obtain ⟨k2, hk2, hk2m, q5, f2, hP3, hP4, hB⟩ := hcut
  generalize wc = Y0 at q5 f2 hP3 hP4 hB ⊢
  have hI1 : PolIn Y0 (.agg #[.slice a3 n3 c3, .slice (some ⟨mg1, 0, none⟩) k1 d3, .string tok3, .int .i64 p3.fuel, .int .i64 p3.quota]) (⟨p3.cats, p3.marks.take k1, p3.token, p3.fuel, p3.quota⟩ : Po) := PolIn.marks hP3.is (hP3.is.parts.2.2.take k1 hk1m)
  have hI2 : PolIn Y0 (.agg #[.slice a3 n3 c3, .slice (some ⟨mg2, 0, none⟩) k2 d4, .string tok4, .int .i64 p4.fuel, .int .i64 p4.quota]) (⟨p3.cats, p4.marks.take k2, p4.token, p4.fuel, p4.quota⟩ : Po) := PolIn.marks (p := ⟨p3.cats, p4.marks, p4.token, p4.fuel, p4.quota⟩) (PolIn.cats hP4.is hP3.is.parts.2.1) (hP4.is.parts.2.2.take k2 hk2m)
  have HX : Hid (∀ W, Below Y0.heap.size Y0 W → Below w.heap.size w W ∧ Five W w.heap.size (.slice a3 n3 c3) (.slice (some ⟨mg1, 0, none⟩) k1 d3) (.string tok3) (.int .i64 p3.fuel) (.int .i64 p3.quota) ∧ Five W (w.heap.size + 1) (.slice a3 n3 c3) (.slice (some ⟨mg2, 0, none⟩) k2 d4) (.string tok4) (.int .i64 p4.fuel) (.int .i64 p4.quota) ∧ PolIn W (.agg #[.slice a3 n3 c3, .slice (some ⟨mg1, 0, none⟩) k1 d3, .string tok3, .int .i64 p3.fuel, .int .i64 p3.quota]) (⟨p3.cats, p3.marks.take k1, p3.token, p3.fuel, p3.quota⟩ : Po) ∧ PolIn W (.agg #[.slice a3 n3 c3, .slice (some ⟨mg2, 0, none⟩) k2 d4, .string tok4, .int .i64 p4.fuel, .int .i64 p4.quota]) (⟨p3.cats, p4.marks.take k2, p4.token, p4.fuel, p4.quota⟩ : Po)) := phide (fun W hW => ⟨hB.trans (hW.mono hB.size), f2.step hW, q5.step hW, hI1.step hW, hI2.step hW⟩)
  have HB3 := phide hbnd3
  have HB4 := phide hbnd4
  obtain ⟨u1, hu1⟩ : ∃ u1, mayP (⟨p3.cats, p3.marks.take k1, p3.token, p3.fuel, p3.quota⟩ : Po) = u1 := ⟨_, rfl⟩
  obtain ⟨u2, hu2⟩ : ∃ u2, mayP (⟨p3.cats, p4.marks.take k2, p4.token, p4.fuel, p4.quota⟩ : Po) = u2 := ⟨_, rfl⟩
  have hml1 : (p3.marks.take k1).length ≤ 8 := by rw [List.length_take]; omega
  have hml2 : (p4.marks.take k2).length ≤ 8 := by rw [List.length_take]; omega
  have CM1 := fun W h => rmay8_any (.agg #[.slice a3 n3 c3, .slice (some ⟨mg1, 0, none⟩) k1 d3, .string tok3, .int .i64 p3.fuel, .int .i64 p3.quota]) (⟨p3.cats, p3.marks.take k1, p3.token, p3.fuel, p3.quota⟩ : Po) u1 hu1 (by show p3.cats.length ≤ 1000; have := hbnd3.cats; omega) (fun x hx => by have := hbnd3.names x hx; omega) (by show (p3.marks.take k1).length ≤ 1000; omega) (fun x hx => hbnd3.paths8 x (List.mem_of_mem_take hx)) (by show p3.token.length ≤ 1000000; have := hbnd3.token; omega) W h
  have CM2 := fun W h => rmay8_any (.agg #[.slice a3 n3 c3, .slice (some ⟨mg2, 0, none⟩) k2 d4, .string tok4, .int .i64 p4.fuel, .int .i64 p4.quota]) (⟨p3.cats, p4.marks.take k2, p4.token, p4.fuel, p4.quota⟩ : Po) u2 hu2 (by show p3.cats.length ≤ 1000; have := hbnd3.cats; omega) (fun x hx => by have := hbnd3.names x hx; omega) (by show (p4.marks.take k2).length ≤ 1000; omega) (fun x hx => hbnd4.paths8 x (List.mem_of_mem_take hx)) (by show p4.token.length ≤ 1000000; have := hbnd4.token; omega) W h
  have HU1 := phide hu1
  have HU2 := phide hu2
  have HL12 := phide (And.intro hml1 hml2)
  obtain ⟨-, x0, x1, x2, x3, x4, -⟩ := id f2
  clear hI1 hI2 hu1 hu2 hml1 hml2 hbnd3 hbnd4 hP3 hP4 q5 f2 hB
  go_wp2_with fail
  refine (CM1 _ (punhide HX _ (Below.refl _ _)).2.2.2.1).mono ?_
  rintro e Y1 ⟨rfl, b1⟩
  clear CM1 x0 x1 x2 x3 x4
  by_cases hu10 : u1 = 0
  case neg =>
    have d1 : (u1 == 0) = false := by simp [hu10]
    have hF := (punhide HX _ b1).1
    clear b1
    go_wp2_with fail
    go_ret
    exact ⟨rfl, hF⟩
  case pos =>
  subst hu10
  obtain ⟨-, y0, y1, y2, y3, y4, -⟩ := (punhide HX _ b1).2.2.1
  go_wp2_with fail
  refine (CM2 _ (punhide HX _ b1).2.2.2.2).mono ?_
  rintro e Y2 ⟨rfl, b2⟩
  have b12 := b1.trans (b2.mono b1.size)
  clear CM2 y0 y1 y2 y3 y4 b1 b2
  by_cases hu20 : u2 = 0
  case neg =>
    have d1 : (u2 == 0) = false := by simp [hu20]
    have hF := (punhide HX _ b12).1
    clear b12
    go_wp2_with fail
    go_ret
    exact ⟨rfl, hF⟩
  case pos =>
  subst hu20
  have HMY : Hid (mayP (⟨p3.cats, p3.marks.take k1 ++ p4.marks.take k2, p3.token, p3.fuel, p3.quota⟩ : Po) = 0) := phide (mayP_both (punhide HU1) (punhide HU2) (by have := punhide HL12; omega))
  have HX' := phide (fun (W : World) (hW : Below Y2.heap.size Y2 W) => punhide HX W (b12.trans (hW.mono b12.size)))
  clear HX HU1 HU2 b12
  have HX := HX'
  clear HX'
  obtain ⟨-, x0, x1, x2, x3, x4, -⟩ := (punhide HX _ (Below.refl _ _)).2.1
  have n1 := Five.new Y2 (.slice a3 n3 c3) (.slice (some ⟨mg1, 0, none⟩) k1 d3) (.string tok3) (.int .i64 p3.fuel) (.int .i64 p3.quota) 25
  have hS0 : Below Y2.heap.size Y2 (Y2.alloc (.cells #[.slice a3 n3 c3, .slice (some ⟨mg1, 0, none⟩) k1 d3, .string tok3, .int .i64 p3.fuel, .int .i64 p3.quota] 25)) := (Below.refl _ _).alloc (Nat.le_refl _) _
  have hs3 : (Y2.alloc (.cells #[.slice a3 n3 c3, .slice (some ⟨mg1, 0, none⟩) k1 d3, .string tok3, .int .i64 p3.fuel, .int .i64 p3.quota] 25)).heap.size = Y2.heap.size + 1 := by simp
  have HF := phide (And.intro n1 (And.intro hS0 hs3))
  clear n1 hS0 hs3
  go_upto_region 12 with fail
  clear x0 x1 x2 x3 x4
  obtain ⟨n1, hS0, hs3⟩ := punhide HF
  clear HF
  generalize Y2.alloc (.cells #[.slice a3 n3 c3, .slice (some ⟨mg1, 0, none⟩) k1 d3, .string tok3, .int .i64 p3.fuel, .int .i64 p3.quota] 25) = Y3 at n1 hS0 hs3 ⊢
  go_cut [] from 47 to 54 (fun wx => ∃ (g : Option Addr) (k cap : Nat), Five wx Y2.heap.size (.slice a3 n3 c3) (.slice g k cap) (.string tok3) (.int .i64 p3.fuel) (.int .i64 p3.quota) ∧ MarksIn wx g k (p3.marks.take k1 ++ p4.marks.take k2) ∧ Below Y2.heap.size Y2 wx)
  case first =>
    obtain ⟨-, hf1, hf2, hi1, hi2⟩ := punhide HX _ (Below.refl _ _)
    obtain ⟨D1, hD1, hD1l, hR1, hD1s⟩ := marks_dk hi1.parts.2.2
    obtain ⟨D2, hD2, hD2l, hR2, hD2s⟩ := marks_dk hi2.parts.2.2
    have HD : Hid (∀ W, Below Y2.heap.size Y2 W → RowM W mg1 0 D1 ∧ RowM W mg2 0 D2 ∧ ∀ d ∈ D1 ++ D2, d.m.mask < 18446744073709551616 ∧ Np.StepsIn W d.a d.n d.m.path) := phide (fun W hW => ⟨hR1.step hW, hR2.step hW, fun d hd => by
      rcases List.mem_append.1 hd with hd | hd
      · exact ⟨(hD1s d hd).1, (hD1s d hd).2.step hW⟩
      · exact ⟨(hD2s d hd).1, (hD2s d hd).2.step hW⟩⟩)
    have HDM : Hid ((D1 ++ D2).map (·.m) = p3.marks.take k1 ++ p4.marks.take k2) := phide (by rw [List.map_append, hD1, hD2])
    have HDL := phide (And.intro hD1l hD2l)
    have HS2 : Hid (∀ W, Below Y2.heap.size Y2 W → W.cell? ⟨w.heap.size, 1, none⟩ = some (.slice (some ⟨mg1, 0, none⟩) k1 d3) ∧ W.cell? ⟨w.heap.size + 1, 1, none⟩ = some (.slice (some ⟨mg2, 0, none⟩) k2 d4)) := phide (fun W hW => ⟨(hf1.step hW).c1, (hf2.step hW).c1⟩)
    have hk12 : Hid (k1 ≤ 1000 ∧ k1 + k2 ≤ 1000) := phide (by omega)
    have HN : Hid (∀ W, Below Y3.heap.size Y3 W → Five W Y2.heap.size (.slice a3 n3 c3) (.slice (some ⟨mg1, 0, none⟩) k1 d3) (.string tok3) (.int .i64 p3.fuel) (.int .i64 p3.quota)) := phide (fun W hW => n1.step hW)
    have HS3 := phide hs3
    have HR3 : Hid (Below Y3.heap.size Y3 Y3.drew) := phide ((Below.refl _ _).drew)
    have hS : Below Y2.heap.size Y2 Y3.drew := hS0.drew
    have HYN := phide hS0.size
    clear n1 hf1 hf2 hi1 hi2 hD1 hD1l hR1 hD1s hD2 hD2l hR2 hD2s hs3 hS0
    go_region_held3 (fun W => W.cell? ⟨w.heap.size, 1, none⟩ = some (.slice (some ⟨mg1, 0, none⟩) k1 d3) ∧ W.cell? ⟨w.heap.size + 1, 1, none⟩ = some (.slice (some ⟨mg2, 0, none⟩) k2 d4)) (first | exact punhide HS2 _ (hS5.setCell (p := ⟨Y2.heap.size, 1, none⟩) (Nat.le_refl _) _) | exact punhide HS2 _ hS5 | exact punhide HS2 _ hS4 | exact punhide HS2 _ (hS.alloc hS.size _) | exact punhide HS2 _ hS)
      (first
        | (refine step_append_marks (Y3.drew.alloc (.cells #[] 59)) (by rfl) _ _ (by rfl) (Y2.heap.size + 1) Y3.heap.size 0 0 [] (by rfl) (own_noneM_at Y3.drew _ _ (by simp) (by rw [punhide HS3]; exact Nat.le_refl _)) mg1 0 k1 d3 D1 (by rfl) (punhide HDL).1 (punhide HD _ (hS.alloc hS.size _)).1 k1 (Nat.zero_add _) (punhide hk12).1 (by rw [← punhide HS3]; exact ((punhide HR3).alloc (punhide HR3).size _).size) ?_; intro g4 cap4 v4 hown4 hB4; simp only [List.nil_append] at hown4; have hS4 := (hS.alloc hS.size (.cells #[] 59)).trans (hB4.mono (Nat.le_succ _)); have hT4 := ((punhide HR3).alloc (punhide HR3).size (.cells #[] 59)).trans (hB4.mono (by rw [punhide HS3]; exact Nat.le_refl _)))
        | (refine step_append_marks v4 (by rfl) _ _ (by rfl) (Y2.heap.size + 1) g4 cap4 k1 D1 (by rfl) hown4 mg2 0 k2 d4 D2 (by rfl) (punhide HDL).2 (punhide HD _ hS4).2.1 (k1 + k2) rfl (punhide hk12).2 (by rw [← punhide HS3]; exact hT4.size) ?_; intro g5 cap5 v5 hown5 hB5; have hS5 := hS4.trans (hB5.mono (Nat.le_succ _)); have hT5 := hT4.trans (hB5.mono (by rw [punhide HS3]; exact Nat.le_refl _)); have yB := (punhide HN _ hT5).c1; have gB := (punhide HN _ hT5).f 1))
    have hp := ((punhide HN _ hT5).put (.slice (some ⟨g5, 0, none⟩) (k1 + k2) cap5)).2.1
    have hS6 := hS5.setCell (p := ⟨Y2.heap.size, 1, none⟩) (Nat.le_refl _) (.slice (some ⟨g5, 0, none⟩) (k1 + k2) cap5)
    have hown6 := ownM_block (w' := v5.setCell ⟨Y2.heap.size, 1, none⟩ (.slice (some ⟨g5, 0, none⟩) (k1 + k2) cap5)) hown5 (fun g hg => Below.heap_setCell _ _ _ _ (by have := (hown5.lt g hg).1; show g ≠ Y2.heap.size; omega))
    obtain ⟨ma, mc, ev, hmk⟩ := marks_own hown6 (by have := punhide HDL; rw [List.length_append]; omega) (punhide HD _ hS6).2.2
    rw [punhide HDM] at hmk
    injection ev with ev1 ev2 ev3
    subst ev1
    subst ev3
    have HF := phide (And.intro hp (And.intro hmk hS6))
    clear hp hmk hS6 hown6 hown5 hown4 hB4 hB5 hS4 hS5 hT4 hT5 yB gB hS
    go_wp2
    go_meet
    obtain ⟨hp, hmk, hS6⟩ := punhide HF
    exact ⟨_, _, _, hp, hmk, hS6⟩
  case rest =>
  clear n1 hS0 hs3
  obtain ⟨gB, kB, capB, n1, hmk, hS0⟩ := hcut
  obtain ⟨-, -, -, hi1, -⟩ := punhide HX _ hS0
  have hi3 : PolIn wc (.agg #[.slice a3 n3 c3, .slice gB kB capB, .string tok3, .int .i64 p3.fuel, .int .i64 p3.quota]) (⟨p3.cats, p3.marks.take k1 ++ p4.marks.take k2, p3.token, p3.fuel, p3.quota⟩ : Po) := PolIn.marks (p := (⟨p3.cats, p3.marks.take k1, p3.token, p3.fuel, p3.quota⟩ : Po)) hi1 hmk
  generalize wc = Y4 at n1 hi3 hmk hS0 ⊢
  have HZ : Hid (∀ W, Below Y4.heap.size Y4 W → (Below w.heap.size w W ∧ Five W w.heap.size (.slice a3 n3 c3) (.slice (some ⟨mg1, 0, none⟩) k1 d3) (.string tok3) (.int .i64 p3.fuel) (.int .i64 p3.quota) ∧ Five W (w.heap.size + 1) (.slice a3 n3 c3) (.slice (some ⟨mg2, 0, none⟩) k2 d4) (.string tok4) (.int .i64 p4.fuel) (.int .i64 p4.quota) ∧ PolIn W (.agg #[.slice a3 n3 c3, .slice (some ⟨mg1, 0, none⟩) k1 d3, .string tok3, .int .i64 p3.fuel, .int .i64 p3.quota]) (⟨p3.cats, p3.marks.take k1, p3.token, p3.fuel, p3.quota⟩ : Po) ∧ PolIn W (.agg #[.slice a3 n3 c3, .slice (some ⟨mg2, 0, none⟩) k2 d4, .string tok4, .int .i64 p4.fuel, .int .i64 p4.quota]) (⟨p3.cats, p4.marks.take k2, p4.token, p4.fuel, p4.quota⟩ : Po)) ∧ Five W Y2.heap.size (.slice a3 n3 c3) (.slice gB kB capB) (.string tok3) (.int .i64 p3.fuel) (.int .i64 p3.quota) ∧ PolIn W (.agg #[.slice a3 n3 c3, .slice gB kB capB, .string tok3, .int .i64 p3.fuel, .int .i64 p3.quota]) (⟨p3.cats, p3.marks.take k1 ++ p4.marks.take k2, p3.token, p3.fuel, p3.quota⟩ : Po)) := phide (fun W hW => ⟨punhide HX W (hS0.trans (hW.mono hS0.size)), n1.step hW, hi3.step hW⟩)
  clear n1 hi1 hi3 hmk hS0 HX

  go_wp2_with fail
  refine (built_any a0 n0 c0 Y4 hn0 (fun i hi h8 => (punhide HIT i hi h8).below (punhide HZ _ (Below.refl _ _)).1.1)).mono ?_
  rintro e U11 ⟨v11, t, rfl, hl11, hg, hsz, bn⟩
  clear HIT
  obtain ⟨hd11, ka11, kn11, kc11, da11, dn11, dc11, rfl⟩ := hl11.shape
  have al : Below U11.heap.size U11 (U11.alloc (.cells #[.int .i64 hd11.k, .int .u64 (hd11.m : Int), .bool hd11.ng, .string hd11.dg, .int .i64 hd11.sc, .string hd11.tx, .slice ka11 kn11 kc11, .slice da11 dn11 dc11, .int .i64 hd11.cd] 42)) := (Below.refl _ _).alloc (Nat.le_refl _) _
  have bz : Below Y4.heap.size Y4 (U11.alloc (.cells #[.int .i64 hd11.k, .int .u64 (hd11.m : Int), .bool hd11.ng, .string hd11.dg, .int .i64 hd11.sc, .string hd11.tx, .slice ka11 kn11 kc11, .slice da11 dn11 dc11, .int .i64 hd11.cd] 42)) := bn.trans (al.mono bn.size)
  have kx : Box (U11.alloc (.cells #[.int .i64 hd11.k, .int .u64 (hd11.m : Int), .bool hd11.ng, .string hd11.dg, .int .i64 hd11.sc, .string hd11.tx, .slice ka11 kn11 kc11, .slice da11 dn11 dc11, .int .i64 hd11.cd] 42)) U11.heap.size #[.int .i64 hd11.k, .int .u64 (hd11.m : Int), .bool hd11.ng, .string hd11.dg, .int .i64 hd11.sc, .string hd11.tx, .slice ka11 kn11 kc11, .slice da11 dn11 dc11, .int .i64 hd11.cd] := Box.new _ _ _
  have lx := hl11.any.below al
  have HZ' := phide (fun (W : World) (hW : Below (U11.alloc (.cells #[.int .i64 hd11.k, .int .u64 (hd11.m : Int), .bool hd11.ng, .string hd11.dg, .int .i64 hd11.sc, .string hd11.tx, .slice ka11 kn11 kc11, .slice da11 dn11 dc11, .int .i64 hd11.cd] 42)).heap.size (U11.alloc (.cells #[.int .i64 hd11.k, .int .u64 (hd11.m : Int), .bool hd11.ng, .string hd11.dg, .int .i64 hd11.sc, .string hd11.tx, .slice ka11 kn11 kc11, .slice da11 dn11 dc11, .int .i64 hd11.cd] 42)) W) => punhide HZ W (bz.trans (hW.mono bz.size)))
  clear HZ
  have HZ := HZ'
  clear HZ'
  have HN11 := phide (fun (W : World) (hW : Below (U11.alloc (.cells #[.int .i64 hd11.k, .int .u64 (hd11.m : Int), .bool hd11.ng, .string hd11.dg, .int .i64 hd11.sc, .string hd11.tx, .slice ka11 kn11 kc11, .slice da11 dn11 dc11, .int .i64 hd11.cd] 42)).heap.size (U11.alloc (.cells #[.int .i64 hd11.k, .int .u64 (hd11.m : Int), .bool hd11.ng, .string hd11.dg, .int .i64 hd11.sc, .string hd11.tx, .slice ka11 kn11 kc11, .slice da11 dn11 dc11, .int .i64 hd11.cd] 42)) W) => And.intro (box_nine kx hW) (lx.below hW))
  clear al bz kx lx bn hl11
  go_upto_region 14 with fail
  generalize U11.heap.size = gx11 at HN11 ⊢
  generalize (U11.alloc (.cells #[.int .i64 hd11.k, .int .u64 (hd11.m : Int), .bool hd11.ng, .string hd11.dg, .int .i64 hd11.sc, .string hd11.tx, .slice ka11 kn11 kc11, .slice da11 dn11 dc11, .int .i64 hd11.cd] 42)) = Z11 at HZ HN11 ⊢
  obtain ⟨-, x0, x1, x2, x3, x4, -⟩ := (punhide HZ _ (Below.refl _ _)).1.2.1
  obtain ⟨y0, y1, y2, y3, y4, y5, y6, y7, y8⟩ := (punhide HN11 _ (Below.refl _ _)).1
  go_wp2_with fail
  refine (label_any 100 (by decide) (.agg #[.slice a3 n3 c3, .slice (some ⟨mg1, 0, none⟩) k1 d3, .string tok3, .int .i64 p3.fuel, .int .i64 p3.quota]) (.agg #[.int .i64 hd11.k, .int .u64 (hd11.m : Int), .bool hd11.ng, .string hd11.dg, .int .i64 hd11.sc, .string hd11.tx, .slice ka11 kn11 kc11, .slice da11 dn11 dc11, .int .i64 hd11.cd]) (⟨p3.cats, p3.marks.take k1, p3.token, p3.fuel, p3.quota⟩ : Po) t (by show (p3.marks.take k1).length ≤ 1000; have := punhide HL12; omega) (fun x hx => (punhide HB3).paths8 x (List.mem_of_mem_take hx)) Z11 ((punhide HZ _ (Below.refl _ _)).1.2.2.2.1) (punhide HN11 _ (Below.refl _ _)).2 (good_ok 100 t hg)).mono ?_
  rintro e U12 ⟨v12, rfl, hl12, bn⟩
  clear x0 x1 x2 x3 x4 y0 y1 y2 y3 y4 y5 y6 y7 y8
  obtain ⟨hd12, ka12, kn12, kc12, da12, dn12, dc12, rfl⟩ := hl12.shape
  have al : Below U12.heap.size U12 (U12.alloc (.cells #[.int .i64 hd12.k, .int .u64 (hd12.m : Int), .bool hd12.ng, .string hd12.dg, .int .i64 hd12.sc, .string hd12.tx, .slice ka12 kn12 kc12, .slice da12 dn12 dc12, .int .i64 hd12.cd] 42)) := (Below.refl _ _).alloc (Nat.le_refl _) _
  have bz : Below Z11.heap.size Z11 (U12.alloc (.cells #[.int .i64 hd12.k, .int .u64 (hd12.m : Int), .bool hd12.ng, .string hd12.dg, .int .i64 hd12.sc, .string hd12.tx, .slice ka12 kn12 kc12, .slice da12 dn12 dc12, .int .i64 hd12.cd] 42)) := bn.trans (al.mono bn.size)
  have kx : Box (U12.alloc (.cells #[.int .i64 hd12.k, .int .u64 (hd12.m : Int), .bool hd12.ng, .string hd12.dg, .int .i64 hd12.sc, .string hd12.tx, .slice ka12 kn12 kc12, .slice da12 dn12 dc12, .int .i64 hd12.cd] 42)) U12.heap.size #[.int .i64 hd12.k, .int .u64 (hd12.m : Int), .bool hd12.ng, .string hd12.dg, .int .i64 hd12.sc, .string hd12.tx, .slice ka12 kn12 kc12, .slice da12 dn12 dc12, .int .i64 hd12.cd] := Box.new _ _ _
  have lx := hl12.any.below al
  have HZ' := phide (fun (W : World) (hW : Below (U12.alloc (.cells #[.int .i64 hd12.k, .int .u64 (hd12.m : Int), .bool hd12.ng, .string hd12.dg, .int .i64 hd12.sc, .string hd12.tx, .slice ka12 kn12 kc12, .slice da12 dn12 dc12, .int .i64 hd12.cd] 42)).heap.size (U12.alloc (.cells #[.int .i64 hd12.k, .int .u64 (hd12.m : Int), .bool hd12.ng, .string hd12.dg, .int .i64 hd12.sc, .string hd12.tx, .slice ka12 kn12 kc12, .slice da12 dn12 dc12, .int .i64 hd12.cd] 42)) W) => punhide HZ W (bz.trans (hW.mono bz.size)))
  clear HZ
  have HZ := HZ'
  clear HZ'
  have HN11' := phide (fun (W : World) (hW : Below (U12.alloc (.cells #[.int .i64 hd12.k, .int .u64 (hd12.m : Int), .bool hd12.ng, .string hd12.dg, .int .i64 hd12.sc, .string hd12.tx, .slice ka12 kn12 kc12, .slice da12 dn12 dc12, .int .i64 hd12.cd] 42)).heap.size (U12.alloc (.cells #[.int .i64 hd12.k, .int .u64 (hd12.m : Int), .bool hd12.ng, .string hd12.dg, .int .i64 hd12.sc, .string hd12.tx, .slice ka12 kn12 kc12, .slice da12 dn12 dc12, .int .i64 hd12.cd] 42)) W) => punhide HN11 W (bz.trans (hW.mono bz.size)))
  clear HN11
  have HN11 := HN11'
  clear HN11'
  have HN12 := phide (fun (W : World) (hW : Below (U12.alloc (.cells #[.int .i64 hd12.k, .int .u64 (hd12.m : Int), .bool hd12.ng, .string hd12.dg, .int .i64 hd12.sc, .string hd12.tx, .slice ka12 kn12 kc12, .slice da12 dn12 dc12, .int .i64 hd12.cd] 42)).heap.size (U12.alloc (.cells #[.int .i64 hd12.k, .int .u64 (hd12.m : Int), .bool hd12.ng, .string hd12.dg, .int .i64 hd12.sc, .string hd12.tx, .slice ka12 kn12 kc12, .slice da12 dn12 dc12, .int .i64 hd12.cd] 42)) W) => And.intro (box_nine kx hW) (lx.below hW))
  clear al bz kx lx bn hl12
  go_upto_region 15 with fail
  generalize U12.heap.size = gx12 at HN12 ⊢
  generalize (U12.alloc (.cells #[.int .i64 hd12.k, .int .u64 (hd12.m : Int), .bool hd12.ng, .string hd12.dg, .int .i64 hd12.sc, .string hd12.tx, .slice ka12 kn12 kc12, .slice da12 dn12 dc12, .int .i64 hd12.cd] 42)) = Z12 at HZ HN11 HN12 ⊢
  obtain ⟨-, x0, x1, x2, x3, x4, -⟩ := (punhide HZ _ (Below.refl _ _)).1.2.2.1
  obtain ⟨y0, y1, y2, y3, y4, y5, y6, y7, y8⟩ := (punhide HN11 _ (Below.refl _ _)).1
  go_wp2_with fail
  refine (label_any 100 (by decide) (.agg #[.slice a3 n3 c3, .slice (some ⟨mg2, 0, none⟩) k2 d4, .string tok4, .int .i64 p4.fuel, .int .i64 p4.quota]) (.agg #[.int .i64 hd11.k, .int .u64 (hd11.m : Int), .bool hd11.ng, .string hd11.dg, .int .i64 hd11.sc, .string hd11.tx, .slice ka11 kn11 kc11, .slice da11 dn11 dc11, .int .i64 hd11.cd]) (⟨p3.cats, p4.marks.take k2, p4.token, p4.fuel, p4.quota⟩ : Po) t (by show (p4.marks.take k2).length ≤ 1000; have := punhide HL12; omega) (fun x hx => (punhide HB4).paths8 x (List.mem_of_mem_take hx)) Z12 ((punhide HZ _ (Below.refl _ _)).1.2.2.2.2) (punhide HN11 _ (Below.refl _ _)).2 (good_ok 100 t hg)).mono ?_
  rintro e U13 ⟨v13, rfl, hl13, bn⟩
  clear x0 x1 x2 x3 x4 y0 y1 y2 y3 y4 y5 y6 y7 y8
  obtain ⟨hd13, ka13, kn13, kc13, da13, dn13, dc13, rfl⟩ := hl13.shape
  have al : Below U13.heap.size U13 (U13.alloc (.cells #[.int .i64 hd13.k, .int .u64 (hd13.m : Int), .bool hd13.ng, .string hd13.dg, .int .i64 hd13.sc, .string hd13.tx, .slice ka13 kn13 kc13, .slice da13 dn13 dc13, .int .i64 hd13.cd] 42)) := (Below.refl _ _).alloc (Nat.le_refl _) _
  have bz : Below Z12.heap.size Z12 (U13.alloc (.cells #[.int .i64 hd13.k, .int .u64 (hd13.m : Int), .bool hd13.ng, .string hd13.dg, .int .i64 hd13.sc, .string hd13.tx, .slice ka13 kn13 kc13, .slice da13 dn13 dc13, .int .i64 hd13.cd] 42)) := bn.trans (al.mono bn.size)
  have kx : Box (U13.alloc (.cells #[.int .i64 hd13.k, .int .u64 (hd13.m : Int), .bool hd13.ng, .string hd13.dg, .int .i64 hd13.sc, .string hd13.tx, .slice ka13 kn13 kc13, .slice da13 dn13 dc13, .int .i64 hd13.cd] 42)) U13.heap.size #[.int .i64 hd13.k, .int .u64 (hd13.m : Int), .bool hd13.ng, .string hd13.dg, .int .i64 hd13.sc, .string hd13.tx, .slice ka13 kn13 kc13, .slice da13 dn13 dc13, .int .i64 hd13.cd] := Box.new _ _ _
  have lx := hl13.any.below al
  have HZ' := phide (fun (W : World) (hW : Below (U13.alloc (.cells #[.int .i64 hd13.k, .int .u64 (hd13.m : Int), .bool hd13.ng, .string hd13.dg, .int .i64 hd13.sc, .string hd13.tx, .slice ka13 kn13 kc13, .slice da13 dn13 dc13, .int .i64 hd13.cd] 42)).heap.size (U13.alloc (.cells #[.int .i64 hd13.k, .int .u64 (hd13.m : Int), .bool hd13.ng, .string hd13.dg, .int .i64 hd13.sc, .string hd13.tx, .slice ka13 kn13 kc13, .slice da13 dn13 dc13, .int .i64 hd13.cd] 42)) W) => punhide HZ W (bz.trans (hW.mono bz.size)))
  clear HZ
  have HZ := HZ'
  clear HZ'
  have HN11' := phide (fun (W : World) (hW : Below (U13.alloc (.cells #[.int .i64 hd13.k, .int .u64 (hd13.m : Int), .bool hd13.ng, .string hd13.dg, .int .i64 hd13.sc, .string hd13.tx, .slice ka13 kn13 kc13, .slice da13 dn13 dc13, .int .i64 hd13.cd] 42)).heap.size (U13.alloc (.cells #[.int .i64 hd13.k, .int .u64 (hd13.m : Int), .bool hd13.ng, .string hd13.dg, .int .i64 hd13.sc, .string hd13.tx, .slice ka13 kn13 kc13, .slice da13 dn13 dc13, .int .i64 hd13.cd] 42)) W) => punhide HN11 W (bz.trans (hW.mono bz.size)))
  clear HN11
  have HN11 := HN11'
  clear HN11'
  have HN12' := phide (fun (W : World) (hW : Below (U13.alloc (.cells #[.int .i64 hd13.k, .int .u64 (hd13.m : Int), .bool hd13.ng, .string hd13.dg, .int .i64 hd13.sc, .string hd13.tx, .slice ka13 kn13 kc13, .slice da13 dn13 dc13, .int .i64 hd13.cd] 42)).heap.size (U13.alloc (.cells #[.int .i64 hd13.k, .int .u64 (hd13.m : Int), .bool hd13.ng, .string hd13.dg, .int .i64 hd13.sc, .string hd13.tx, .slice ka13 kn13 kc13, .slice da13 dn13 dc13, .int .i64 hd13.cd] 42)) W) => punhide HN12 W (bz.trans (hW.mono bz.size)))
  clear HN12
  have HN12 := HN12'
  clear HN12'
  have HN13 := phide (fun (W : World) (hW : Below (U13.alloc (.cells #[.int .i64 hd13.k, .int .u64 (hd13.m : Int), .bool hd13.ng, .string hd13.dg, .int .i64 hd13.sc, .string hd13.tx, .slice ka13 kn13 kc13, .slice da13 dn13 dc13, .int .i64 hd13.cd] 42)).heap.size (U13.alloc (.cells #[.int .i64 hd13.k, .int .u64 (hd13.m : Int), .bool hd13.ng, .string hd13.dg, .int .i64 hd13.sc, .string hd13.tx, .slice ka13 kn13 kc13, .slice da13 dn13 dc13, .int .i64 hd13.cd] 42)) W) => And.intro (box_nine kx hW) (lx.below hW))
  clear al bz kx lx bn hl13
  go_upto_region 16 with fail
  generalize U13.heap.size = gx13 at HN13 ⊢
  generalize (U13.alloc (.cells #[.int .i64 hd13.k, .int .u64 (hd13.m : Int), .bool hd13.ng, .string hd13.dg, .int .i64 hd13.sc, .string hd13.tx, .slice ka13 kn13 kc13, .slice da13 dn13 dc13, .int .i64 hd13.cd] 42)) = Z13 at HZ HN11 HN12 HN13 ⊢
  obtain ⟨-, x0, x1, x2, x3, x4, -⟩ := (punhide HZ _ (Below.refl _ _)).2.1
  obtain ⟨y0, y1, y2, y3, y4, y5, y6, y7, y8⟩ := (punhide HN11 _ (Below.refl _ _)).1
  go_wp2_with fail
  refine (label_any 100 (by decide) (.agg #[.slice a3 n3 c3, .slice gB kB capB, .string tok3, .int .i64 p3.fuel, .int .i64 p3.quota]) (.agg #[.int .i64 hd11.k, .int .u64 (hd11.m : Int), .bool hd11.ng, .string hd11.dg, .int .i64 hd11.sc, .string hd11.tx, .slice ka11 kn11 kc11, .slice da11 dn11 dc11, .int .i64 hd11.cd]) (⟨p3.cats, p3.marks.take k1 ++ p4.marks.take k2, p3.token, p3.fuel, p3.quota⟩ : Po) t (by show (p3.marks.take k1 ++ p4.marks.take k2).length ≤ 1000; have := punhide HL12; rw [List.length_append]; omega) (fun x hx => (List.mem_append.1 hx).elim (fun h => (punhide HB3).paths8 x (List.mem_of_mem_take h)) (fun h => (punhide HB4).paths8 x (List.mem_of_mem_take h))) Z13 ((punhide HZ _ (Below.refl _ _)).2.2) (punhide HN11 _ (Below.refl _ _)).2 (good_ok 100 t hg)).mono ?_
  rintro e U14 ⟨v14, rfl, hl14, bn⟩
  clear x0 x1 x2 x3 x4 y0 y1 y2 y3 y4 y5 y6 y7 y8
  obtain ⟨hd14, ka14, kn14, kc14, da14, dn14, dc14, rfl⟩ := hl14.shape
  have al : Below U14.heap.size U14 (U14.alloc (.cells #[.int .i64 hd14.k, .int .u64 (hd14.m : Int), .bool hd14.ng, .string hd14.dg, .int .i64 hd14.sc, .string hd14.tx, .slice ka14 kn14 kc14, .slice da14 dn14 dc14, .int .i64 hd14.cd] 42)) := (Below.refl _ _).alloc (Nat.le_refl _) _
  have bz : Below Z13.heap.size Z13 (U14.alloc (.cells #[.int .i64 hd14.k, .int .u64 (hd14.m : Int), .bool hd14.ng, .string hd14.dg, .int .i64 hd14.sc, .string hd14.tx, .slice ka14 kn14 kc14, .slice da14 dn14 dc14, .int .i64 hd14.cd] 42)) := bn.trans (al.mono bn.size)
  have kx : Box (U14.alloc (.cells #[.int .i64 hd14.k, .int .u64 (hd14.m : Int), .bool hd14.ng, .string hd14.dg, .int .i64 hd14.sc, .string hd14.tx, .slice ka14 kn14 kc14, .slice da14 dn14 dc14, .int .i64 hd14.cd] 42)) U14.heap.size #[.int .i64 hd14.k, .int .u64 (hd14.m : Int), .bool hd14.ng, .string hd14.dg, .int .i64 hd14.sc, .string hd14.tx, .slice ka14 kn14 kc14, .slice da14 dn14 dc14, .int .i64 hd14.cd] := Box.new _ _ _
  have lx := hl14.any.below al
  have HZ' := phide (fun (W : World) (hW : Below (U14.alloc (.cells #[.int .i64 hd14.k, .int .u64 (hd14.m : Int), .bool hd14.ng, .string hd14.dg, .int .i64 hd14.sc, .string hd14.tx, .slice ka14 kn14 kc14, .slice da14 dn14 dc14, .int .i64 hd14.cd] 42)).heap.size (U14.alloc (.cells #[.int .i64 hd14.k, .int .u64 (hd14.m : Int), .bool hd14.ng, .string hd14.dg, .int .i64 hd14.sc, .string hd14.tx, .slice ka14 kn14 kc14, .slice da14 dn14 dc14, .int .i64 hd14.cd] 42)) W) => punhide HZ W (bz.trans (hW.mono bz.size)))
  clear HZ
  have HZ := HZ'
  clear HZ'
  have HN11' := phide (fun (W : World) (hW : Below (U14.alloc (.cells #[.int .i64 hd14.k, .int .u64 (hd14.m : Int), .bool hd14.ng, .string hd14.dg, .int .i64 hd14.sc, .string hd14.tx, .slice ka14 kn14 kc14, .slice da14 dn14 dc14, .int .i64 hd14.cd] 42)).heap.size (U14.alloc (.cells #[.int .i64 hd14.k, .int .u64 (hd14.m : Int), .bool hd14.ng, .string hd14.dg, .int .i64 hd14.sc, .string hd14.tx, .slice ka14 kn14 kc14, .slice da14 dn14 dc14, .int .i64 hd14.cd] 42)) W) => punhide HN11 W (bz.trans (hW.mono bz.size)))
  clear HN11
  have HN11 := HN11'
  clear HN11'
  have HN12' := phide (fun (W : World) (hW : Below (U14.alloc (.cells #[.int .i64 hd14.k, .int .u64 (hd14.m : Int), .bool hd14.ng, .string hd14.dg, .int .i64 hd14.sc, .string hd14.tx, .slice ka14 kn14 kc14, .slice da14 dn14 dc14, .int .i64 hd14.cd] 42)).heap.size (U14.alloc (.cells #[.int .i64 hd14.k, .int .u64 (hd14.m : Int), .bool hd14.ng, .string hd14.dg, .int .i64 hd14.sc, .string hd14.tx, .slice ka14 kn14 kc14, .slice da14 dn14 dc14, .int .i64 hd14.cd] 42)) W) => punhide HN12 W (bz.trans (hW.mono bz.size)))
  clear HN12
  have HN12 := HN12'
  clear HN12'
  have HN13' := phide (fun (W : World) (hW : Below (U14.alloc (.cells #[.int .i64 hd14.k, .int .u64 (hd14.m : Int), .bool hd14.ng, .string hd14.dg, .int .i64 hd14.sc, .string hd14.tx, .slice ka14 kn14 kc14, .slice da14 dn14 dc14, .int .i64 hd14.cd] 42)).heap.size (U14.alloc (.cells #[.int .i64 hd14.k, .int .u64 (hd14.m : Int), .bool hd14.ng, .string hd14.dg, .int .i64 hd14.sc, .string hd14.tx, .slice ka14 kn14 kc14, .slice da14 dn14 dc14, .int .i64 hd14.cd] 42)) W) => punhide HN13 W (bz.trans (hW.mono bz.size)))
  clear HN13
  have HN13 := HN13'
  clear HN13'
  have HN14 := phide (fun (W : World) (hW : Below (U14.alloc (.cells #[.int .i64 hd14.k, .int .u64 (hd14.m : Int), .bool hd14.ng, .string hd14.dg, .int .i64 hd14.sc, .string hd14.tx, .slice ka14 kn14 kc14, .slice da14 dn14 dc14, .int .i64 hd14.cd] 42)).heap.size (U14.alloc (.cells #[.int .i64 hd14.k, .int .u64 (hd14.m : Int), .bool hd14.ng, .string hd14.dg, .int .i64 hd14.sc, .string hd14.tx, .slice ka14 kn14 kc14, .slice da14 dn14 dc14, .int .i64 hd14.cd] 42)) W) => And.intro (box_nine kx hW) (lx.below hW))
  clear al bz kx lx bn hl14
  go_upto_region 17 with fail
  generalize U14.heap.size = gx14 at HN14 ⊢
  generalize (U14.alloc (.cells #[.int .i64 hd14.k, .int .u64 (hd14.m : Int), .bool hd14.ng, .string hd14.dg, .int .i64 hd14.sc, .string hd14.tx, .slice ka14 kn14 kc14, .slice da14 dn14 dc14, .int .i64 hd14.cd] 42)) = Z14 at HZ HN11 HN12 HN13 HN14 ⊢
  obtain ⟨-, x0, x1, x2, x3, x4, -⟩ := (punhide HZ _ (Below.refl _ _)).2.1
  go_wp2_with fail
  refine (pmay8_any (.agg #[.slice a3 n3 c3, .slice gB kB capB, .string tok3, .int .i64 p3.fuel, .int .i64 p3.quota]) (⟨p3.cats, p3.marks.take k1 ++ p4.marks.take k2, p3.token, p3.fuel, p3.quota⟩ : Po) 0 (punhide HMY) (by show p3.cats.length ≤ 1000; have := (punhide HB3).cats; omega) (fun x hx => by have := (punhide HB3).names x hx; omega) (by show (p3.marks.take k1 ++ p4.marks.take k2).length ≤ 1000; have := punhide HL12; rw [List.length_append]; omega) (fun x hx => (List.mem_append.1 hx).elim (fun h => (punhide HB3).paths8 x (List.mem_of_mem_take h)) (fun h => (punhide HB4).paths8 x (List.mem_of_mem_take h))) (by show p3.token.length ≤ 1000000; have := (punhide HB3).token; omega) Z14 (punhide HT _ (punhide HZ _ (Below.refl _ _)).1.1).1 (punhide HZ _ (Below.refl _ _)).2.2).mono ?_
  rintro e Z15 ⟨rfl, bn⟩
  clear x0 x1 x2 x3 x4
  obtain ⟨x0, x1, x2, x3, x4, x5, x6, x7, x8⟩ := (punhide HN12 _ bn).1
  obtain ⟨y0, y1, y2, y3, y4, y5, y6, y7, y8⟩ := (punhide HN13 _ bn).1
  obtain ⟨z0, z1, z2, z3, z4, z5, z6, z7, z8⟩ := (punhide HN14 _ bn).1
  have CJ := joined_any 100 _ _ _ _ _ _ Z15 (punhide HN12 _ bn).2 (punhide HN13 _ bn).2 (punhide HN14 _ bn).2 (ok_label _ _ _ _ (good_ok 100 t hg)) (join_label (p3.marks.take k1) (p4.marks.take k2) 100 [] t)
  have HBN := phide bn
  clear bn
  go_wp2_with fail
  refine CJ.mono ?_
  rintro e Z16 ⟨rfl, b16⟩
  have hF := (punhide HZ _ ((punhide HBN).trans (b16.mono (punhide HBN).size))).1.1
  clear CJ x0 x1 x2 x3 x4 x5 x6 x7 x8 y0 y1 y2 y3 y4 y5 y6 y7 y8 z0 z1 z2 z3 z4 z5 z6 z7 z8 b16
  go_wp2
  go_ret
  exact ⟨rfl, hF⟩
end Go.Proofs.YtnagecbepidfiaaGreatDoor.Pol
