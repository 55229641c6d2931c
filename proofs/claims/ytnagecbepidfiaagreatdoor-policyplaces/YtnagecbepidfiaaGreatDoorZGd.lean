/- What is proved here: placed of the laws, walked: each node of a value that is marked has the masks of its place; conditions: the policy, the value and the place lie. Written by placed_gen.py. -/
import Derived.Test.YtnagecbepidfiaaGreatDoorZHh
import Derived.Test.YtnagecbepidfiaaGreatDoorZHg
import Derived.Test.YtnagecbepidfiaaGreatDoorZHa
namespace Go.Proofs.YtnagecbepidfiaaGreatDoor.Pol
set_option maxRecDepth 100000
open Go.RowKit Go.Proofs.YtnagecbepidfiaaGreatDoor.Nc Go.Proofs.YtnagecbepidfiaaGreatDoor.Np Go.Proofs.YtnagecbepidfiaaGreatDoor.Nq
set_option linter.unusedVariables false
set_option linter.unusedSimpArgs false

set_option maxHeartbeats 16000000 in
theorem placed_any (p : Po) (hml : p.marks.length ≤ 1000) (hpl : ∀ m ∈ p.marks, m.path.length ≤ 1000) : ∀ (n : Nat) (pv v : Value) (t : Tr) (at9 : List Pm.St) (ab ao ac m9 : Nat) (z : Int) (w : World), PolIn w pv p → Lies anyB w n v (labelT p.marks n at9 t) → okT n t → goodT n t → at9.length = m9 → m9 ≤ 6 → z = (m9 : Int) → Np.RowSt w ab ao at9 →
    Calls Tryz.prog 25 #[pv, v, .slice (some ⟨ab, ao, none⟩) m9 ac, .int .i64 z] w fun e w' => e = .returned (.bool true) ∧ Below w.heap.size w w'
  | 0, _, _, _, _, _, _, _, _, _, _, _, h, _, _, _, _, _, _ => h.elim
  | n + 1, pv, v, t, at9, ab, ao, ac, m9, z, w, hI, hl, hok, hg, hat, hm9, hz, ha => by
    subst hz
    obtain ⟨h, l, ka, kc, da, dc, ht, rfl, hm64, hkc, hdc, hks, hkid⟩ := hl.node
    have e1 : ({ Tr.hd t with m := maskL at9 p.marks } : Hd) = h := congrArg Tr.hd ht
    have e2 : ((Tr.kd t).mapIdx fun i k => labelT p.marks n (at9 ++ [stepT (Tr.hd t) i]) k) = l := congrArg Tr.kd ht
    clear ht
    obtain ⟨hgh, hgk⟩ := hg
    have hok3 : ∀ k, k ∈ Tr.kd t → okT n k := hok.2.2
    have hlen : (Tr.kd t).length ≤ 1000000 := hok.2.1
    generalize Tr.hd t = h0 at e1 e2 hgh
    generalize Tr.kd t = l0 at e2 hgh hgk hok3 hlen
    have hk0 : h.k = h0.k := by rw [← e1]
    have hks0 : h.ks = h0.ks := by rw [← e1]
    have hm0 : maskL at9 p.marks = h.m := by rw [← e1]
    have hN0 : l.length = l0.length := by rw [← e2, List.length_mapIdx]
    have IH : Hid (∀ (W : World) (v2 : Value) (k : Nat) (hk : k < l.length) (b2 o2 c2 : Nat) (z : Int), PolIn W pv p → Lies anyB W n v2 (l[k]'hk) → Np.RowSt W b2 o2 (at9 ++ [stepT h k]) → m9 + 1 ≤ 6 → z = ((m9 : Int) + 1) → Calls Tryz.prog 25 #[pv, v2, .slice (some ⟨b2, o2, none⟩) (m9 + 1) c2, .int .i64 z] W fun e w' => e = .returned (.bool true) ∧ Below W.heap.size W w') :=
      phide (fun W v2 k hk b2 o2 c2 z hI hl hr h6 hz => by
        have hk2 : k < l0.length := by omega
        have e : l[k]'hk = labelT p.marks n (at9 ++ [stepT h0 k]) (l0[k]'hk2) := by
          subst e2
          rw [List.getElem_mapIdx]
        rw [e] at hl
        rw [step_same hk0 hks0] at hr
        exact placed_any p hml hpl n pv v2 (l0[k]'hk2) _ b2 o2 c2 (m9 + 1) z W hI hl (hok3 _ (List.getElem_mem hk2)) (hgk _ (List.getElem_mem hk2)) (by rw [List.length_append, hat]; rfl) h6 (by omega) hr)
    have HST : Hid (∀ k, k < l.length → (h.k = 6 ∧ stepT h k = ⟨2, ⟨#[]⟩, k⟩) ∨ (h.k = 7 ∧ ∃ hk : k < h.ks.length, stepT h k = ⟨1, h.ks[k]'hk, 0⟩)) := phide (fun k hk => by
      have hk2 : k < l0.length := by omega
      obtain ⟨⟨_, _, _, h1, _⟩, h2, h3⟩ := hgh
      by_cases h6 : h.k = 6
      · exact .inl ⟨h6, by unfold stepT; rw [if_pos h6]⟩
      · by_cases h7 : h.k = 7
        · have hkk : k < h.ks.length := by rw [hks0, (h2 (hk0 ▸ h7)).1]; exact hk2
          exact .inr ⟨h7, hkk, by unfold stepT; rw [if_neg h6, if_pos h7, dif_pos hkk]⟩
        · have := h1 (by rw [← hk0]; exact h6) (by rw [← hk0]; exact h7); omega)
    have CM := fun W h1 h2 => maskAt_any pv p (some ⟨ab, ao, none⟩) ac m9 at9 (by omega) hml hpl h.m hm0 W h1 h2
    have HSI : Hid (∀ W, Below w.heap.size w W → PolIn W pv p ∧ Np.RowSt W ab ao at9) := phide (fun W hW => ⟨hI.step hW, ha.step hW⟩)
    have hIa := hI
    obtain ⟨a, n0, c, b, m, d, tok, rfl, htok, hC, hM⟩ := hI
    obtain ⟨N, hN⟩ : ∃ N, l.length = N := ⟨_, rfl⟩
    rw [hN] at hN0 hdc HST
    have HN := phide hN
    have HKID := phide hkid
    have HKS := phide hks
    have HAT := phide hat
    have hB1 : Below w.heap.size w ((w.alloc (.cells #[.slice a n0 c, .slice b m d, .string tok, .int .i64 p.fuel, .int .i64 p.quota] 25)).alloc (.cells #[.int .i64 h.k, .int .u64 (h.m : Int), .bool h.ng, .string h.dg, .int .i64 h.sc, .string h.tx, .slice ka h.ks.length kc, .slice da N dc, .int .i64 h.cd] 42)) := ((Below.refl _ _).alloc (Nat.le_refl _) _).alloc (by simp) _
    have f1 := (Five.new w (.slice a n0 c) (.slice b m d) (.string tok) (.int .i64 p.fuel) (.int .i64 p.quota) 25).step ((Below.refl _ _).alloc (Nat.le_refl _) (.cells #[.int .i64 h.k, .int .u64 (h.m : Int), .bool h.ng, .string h.dg, .int .i64 h.sc, .string h.tx, .slice ka h.ks.length kc, .slice da N dc, .int .i64 h.cd] 42))
    have k1 : Box ((w.alloc (.cells #[.slice a n0 c, .slice b m d, .string tok, .int .i64 p.fuel, .int .i64 p.quota] 25)).alloc (.cells #[.int .i64 h.k, .int .u64 (h.m : Int), .bool h.ng, .string h.dg, .int .i64 h.sc, .string h.tx, .slice ka h.ks.length kc, .slice da N dc, .int .i64 h.cd] 42)) (w.heap.size + 1) #[.int .i64 h.k, .int .u64 (h.m : Int), .bool h.ng, .string h.dg, .int .i64 h.sc, .string h.tx, .slice ka h.ks.length kc, .slice da N dc, .int .i64 h.cd] := by
      have := Box.new (w.alloc (.cells #[.slice a n0 c, .slice b m d, .string tok, .int .i64 p.fuel, .int .i64 p.quota] 25)) #[.int .i64 h.k, .int .u64 (h.m : Int), .bool h.ng, .string h.dg, .int .i64 h.sc, .string h.tx, .slice ka h.ks.length kc, .slice da N dc, .int .i64 h.cd] 42
      rwa [show (w.alloc (.cells #[.slice a n0 c, .slice b m d, .string tok, .int .i64 p.fuel, .int .i64 p.quota] 25)).heap.size = w.heap.size + 1 by simp] at this
    have HB := phide (And.intro hB1 (And.intro f1 k1))
    rw [hN]
    have hN6 : N ≤ 1000000 := by rw [hN0]; exact hlen
    have HNN := phide hN0
    clear hN0 hB1 f1 k1 hl hok hgk hgh hok3 hkid hks hkc hdc e1 e2 hk0 hks0 hm0 hN hm64 htok hC hM hIa ha hat hpl hml
    go_enter Tryz.func25, Tryz.ntmps25
    go_upto_region 1 with fail
    obtain ⟨hB1, f1, k1⟩ := punhide HB
    clear HB
    generalize (w.alloc (.cells #[.slice a n0 c, .slice b m d, .string tok, .int .i64 p.fuel, .int .i64 p.quota] 25)).alloc (.cells #[.int .i64 h.k, .int .u64 (h.m : Int), .bool h.ng, .string h.dg, .int .i64 h.sc, .string h.tx, .slice ka h.ks.length kc, .slice da N dc, .int .i64 h.cd] 42) = w1 at hB1 f1 k1 ⊢
    obtain ⟨-, x0, x1, x2, x3, x4, -⟩ := id f1
    obtain ⟨y0, y1, y2, y3, y4, y5, y6, y7, y8⟩ := box_nine k1 (Below.refl _ _)
    have HF : Hid (∀ W, Below w1.heap.size w1 W → Below w.heap.size w W ∧ Five W w.heap.size (.slice a n0 c) (.slice b m d) (.string tok) (.int .i64 p.fuel) (.int .i64 p.quota) ∧ W.cell? ⟨w.heap.size + 1, 0, none⟩ = some (.int .i64 h.k) ∧ W.cell? ⟨w.heap.size + 1, 6, none⟩ = some (.slice ka h.ks.length kc) ∧ W.cell? ⟨w.heap.size + 1, 7, none⟩ = some (.slice da N dc)) := phide (fun W hW => by
      obtain ⟨q0, q1, q2, q3, q4, q5, q6, q7, q8⟩ := box_nine k1 hW
      exact ⟨hB1.trans (hW.mono hB1.size), f1.step hW, q0, q6, q7⟩)
    have HBW := phide hB1
    have hS : Below w1.heap.size w1 w1.drew := (Below.refl _ _).drew
    have HS1 : Hid (∀ W, Below w1.heap.size w1 W → W.cell? ⟨w.heap.size, 0, none⟩ = some (.slice a n0 c) ∧ W.cell? ⟨w.heap.size, 1, none⟩ = some (.slice b m d) ∧ W.cell? ⟨w.heap.size, 2, none⟩ = some (.string tok) ∧ W.cell? ⟨w.heap.size, 3, none⟩ = some (.int .i64 p.fuel) ∧ W.cell? ⟨w.heap.size, 4, none⟩ = some (.int .i64 p.quota) ∧ W.cell? ⟨w.heap.size + 1, 1, none⟩ = some (.int .u64 (h.m : Int))) := phide (fun W hW => by
      have f := (punhide HF W hW).2.1
      exact ⟨f.c0, f.c1, f.c2, f.c3, f.c4, (box_nine k1 hW).2.1⟩)
    clear hB1 f1 k1 y0 y2 y3 y4 y5 y6 y7 y8
    go_region_held3 (fun W => W.cell? ⟨w.heap.size, 0, none⟩ = some (.slice a n0 c) ∧ W.cell? ⟨w.heap.size, 1, none⟩ = some (.slice b m d) ∧ W.cell? ⟨w.heap.size, 2, none⟩ = some (.string tok) ∧ W.cell? ⟨w.heap.size, 3, none⟩ = some (.int .i64 p.fuel) ∧ W.cell? ⟨w.heap.size, 4, none⟩ = some (.int .i64 p.quota) ∧ W.cell? ⟨w.heap.size + 1, 1, none⟩ = some (.int .u64 (h.m : Int))) (exact punhide HS1 _ hS)
      (first | (go_at_call 23; refine (CM _ (punhide HSI _ ((punhide HF _ hS).1)).1 ⟨punhide HAT, .inr ⟨ab, ao, rfl, (punhide HSI _ ((punhide HF _ hS).1)).2⟩⟩).mono ?_; rintro e w2 ⟨rfl, b2⟩; replace hS := hS.trans (b2.mono hS.size); clear b2))
    clear x0 x1 x2 x3 x4 y1 CM HS1
    go_wp2_with fail
    go_loopw [9] (fun i wr => ∃ k : Nat, i = .int .i64 (k : Int) ∧ k ≤ N ∧ Below w1.heap.size w1 wr) (fun i _ => N - (intOf i).toNat)
    case atStart => exact ⟨0, rfl, Nat.zero_le _, hS⟩
    case round =>
      clear hS
      obtain ⟨k, rfl, hk, hBr⟩ := hrel
      obtain ⟨hBw, f5, y0, y6, y7⟩ := punhide HF wr hBr
      by_cases hlt : k < N
      case pos =>
        have d1 : decide ((k : Int) < (N : Int)) = true := decide_eq_true (by omega)
        by_cases h6 : m9 < 6
        case pos =>
          have d2 : decide ((m9 : Int) < 6) = true := decide_eq_true (by omega)
          obtain ⟨tk, ts, tn, hst⟩ : ∃ tk ts tn, stepT h k = ⟨tk, ts, tn⟩ := ⟨_, _, _, rfl⟩
          have HTT := punhide HST k hlt
          rw [hst] at HTT
          have HTT := phide HTT
          have HSS := phide hst
          have al := (Below.refl wr.heap.size wr).alloc (Nat.le_refl _) (.cells #[.int .i64 2, .string ⟨#[]⟩, .int .i64 (k : Int)] 57)
          have hB2 := hBr.trans (al.mono hBr.size)
          have r3 := Three.new wr (.int .i64 2) (.string ⟨#[]⟩) (.int .i64 (k : Int)) 57
          have HAL := phide (And.intro al (And.intro hB2 r3))
          have HBR := phide hBr
          clear hst al hB2 r3 f5 hBr hBw
          go_upto_region 7 with fail
          obtain ⟨al, hB2, r3⟩ := punhide HAL
          have hsb : (wr.alloc (.cells #[.int .i64 2, .string ⟨#[]⟩, .int .i64 (k : Int)] 57)).heap.size = wr.heap.size + 1 := by simp
          clear HAL
          generalize wr.alloc (.cells #[.int .i64 2, .string ⟨#[]⟩, .int .i64 (k : Int)] 57) = w3 at al hB2 r3 hsb ⊢
          obtain ⟨hBw, f5, y0, y6, y7⟩ := punhide HF w3 hB2
          clear f5 y6 y7
          go_upto_if 33 with fail
          obtain ⟨b7, hb7⟩ : ∃ b7, (h.k == 7) = b7 := ⟨_, rfl⟩
          rw [hb7]
          have HB7 := phide hb7
          clear hb7
          go_cut [] from 34 to 39 (fun wx => Below w1.heap.size w1 wx ∧ Three wx wr.heap.size (.int .i64 tk) (.string ts) (.int .i64 tn))
          case first =>
            obtain ⟨hBw, f5, y0, y6, y7⟩ := punhide HF w3 hB2
            have hge := (punhide HBR).size
            rcases punhide HTT with ⟨h6k, e⟩ | ⟨h7k, hkk, e⟩
            · have dk : b7 = false := by rw [← punhide HB7, h6k]; rfl
              subst dk
              clear h6k
              injection e with e1 e2 e3
              subst e1
              subst e2
              subst e3
              clear f5
              go_wp2_with fail
              go_meet
              exact ⟨hB2, r3⟩
            · obtain ⟨gb, go, rfl, -, hgb, hgc⟩ := punhide HKS k hkk
              have hgc' := (hBw.cell (p := ⟨gb, go + k, none⟩) hgb).trans hgc
              have dk : b7 = true := by rw [← punhide HB7, h7k]; rfl
              subst dk
              clear h7k
              obtain ⟨ky, hky⟩ : ∃ ky, h.ks[k]'hkk = ky := ⟨_, rfl⟩
              rw [hky] at hgc' e
              injection e with e1 e2 e3
              subst e1
              subst e2
              subst e3
              have i0 : (0 : Int) ≤ (k : Int) := by omega
              have i1 : (k : Int) < (h.ks.length : Int) := by omega
              have q0 := r3.c0
              have q1 := r3.c1
              have q2 := r3.c2
              have g0 := r3.f 0
              have g1 := r3.f 1
              have g2 := r3.f 2
              have p1 := (r3.put (.int .i64 1)).1
              have p2 := (p1.put (.string ts)).2.1
              have p3 := (p2.put (.int .i64 0)).2.2
              have z1 := p1.c1
              have z2 := p2.c2
              have hBz := ((hB2.setCell (p := ⟨wr.heap.size, 0, none⟩) hge (.int .i64 1)).setCell (p := ⟨wr.heap.size, 1, none⟩) hge (.string ts)).setCell (p := ⟨wr.heap.size, 2, none⟩) hge (.int .i64 0)
              clear f5 hgc r3 p1 p2 hky y7
              go_wp2_with fail
              go_meet
              exact ⟨hBz, p3⟩
          case rest =>
          clear hBw y0 al r3 hB2 hsb
          obtain ⟨hBc, r3⟩ := hcut
          go_upto_region 9 with fail
          go_cut [11] from 40 to 54 (fun v11 wx => v11 = .bool true ∧ Below w1.heap.size w1 wx)
          case first =>
            obtain ⟨hBw, f5, y0, y6, y7⟩ := punhide HF wc hBc
            obtain ⟨kb, ko, hd, ka2, kn2, kc2, da2, dn2, dc2, hao, hbk, ⟨c0, c1, c2, c3, c4, c5, c6, c7, c8⟩, hlies⟩ := kid_at (punhide HKID) hBw k (by rw [punhide HN]; exact hlt)
            subst hao
            have hwl := hBw.size
            have HSB : Hid (∀ W, Below wc.heap.size wc W → (W.cell? ⟨w.heap.size, 0, none⟩ = some (.slice a n0 c) ∧ W.cell? ⟨w.heap.size, 1, none⟩ = some (.slice b m d) ∧ W.cell? ⟨w.heap.size, 2, none⟩ = some (.string tok) ∧ W.cell? ⟨w.heap.size, 3, none⟩ = some (.int .i64 p.fuel) ∧ W.cell? ⟨w.heap.size, 4, none⟩ = some (.int .i64 p.quota) ∧ W.cell? ⟨w.heap.size + 1, 7, none⟩ = some (.slice (some ⟨kb, ko, none⟩) N dc) ∧ W.cell? ⟨kb, ko + k * 9, none⟩ = some (.int .i64 hd.k) ∧ W.cell? ⟨kb, ko + k * 9 + 1, none⟩ = some (.int .u64 (hd.m : Int)) ∧ W.cell? ⟨kb, ko + k * 9 + 2, none⟩ = some (.bool hd.ng) ∧ W.cell? ⟨kb, ko + k * 9 + 3, none⟩ = some (.string hd.dg) ∧ W.cell? ⟨kb, ko + k * 9 + 4, none⟩ = some (.int .i64 hd.sc) ∧ W.cell? ⟨kb, ko + k * 9 + 5, none⟩ = some (.string hd.tx) ∧ W.cell? ⟨kb, ko + k * 9 + 6, none⟩ = some (.slice ka2 kn2 kc2) ∧ W.cell? ⟨kb, ko + k * 9 + 7, none⟩ = some (.slice da2 dn2 dc2) ∧ W.cell? ⟨kb, ko + k * 9 + 8, none⟩ = some (.int .i64 hd.cd) ∧ W.cell? ⟨wr.heap.size, 0, none⟩ = some (.int .i64 tk) ∧ W.cell? ⟨wr.heap.size, 1, none⟩ = some (.string ts) ∧ W.cell? ⟨wr.heap.size, 2, none⟩ = some (.int .i64 tn))) := phide (fun W hW => by
              have f := f5.step hW
              have t := r3.step hW
              have hkb := Nat.lt_of_lt_of_le hbk hwl
              exact ⟨f.c0, f.c1, f.c2, f.c3, f.c4, (punhide HF W (hBc.trans (hW.mono hBc.size))).2.2.2.2, (hW.cell (p := ⟨kb, ko + k * 9, none⟩) hkb).trans c0, (hW.cell (p := ⟨kb, ko + k * 9 + 1, none⟩) hkb).trans c1, (hW.cell (p := ⟨kb, ko + k * 9 + 2, none⟩) hkb).trans c2, (hW.cell (p := ⟨kb, ko + k * 9 + 3, none⟩) hkb).trans c3, (hW.cell (p := ⟨kb, ko + k * 9 + 4, none⟩) hkb).trans c4, (hW.cell (p := ⟨kb, ko + k * 9 + 5, none⟩) hkb).trans c5, (hW.cell (p := ⟨kb, ko + k * 9 + 6, none⟩) hkb).trans c6, (hW.cell (p := ⟨kb, ko + k * 9 + 7, none⟩) hkb).trans c7, (hW.cell (p := ⟨kb, ko + k * 9 + 8, none⟩) hkb).trans c8, t.c0, t.c1, t.c2⟩)
            have HRA : Hid (∀ W, Below wc.heap.size wc W → Np.RowSt W ab ao at9) := phide (fun W hW => (punhide HSI W (hBw.trans (hW.mono hBw.size))).2)
            have hw13 : IntKind.i64.wrap ((m9 : Int) + 1) = (m9 : Int) + 1 := by rw [IntKind.wrap_i64]; omega
            have HCC : Hid (∀ (W : World) (b2 o2 c2 : Nat), Below wc.heap.size wc W → Np.RowSt W b2 o2 (at9 ++ [⟨tk, ts, tn⟩]) → Calls Tryz.prog 25 #[.agg #[.slice a n0 c, .slice b m d, .string tok, .int .i64 p.fuel, .int .i64 p.quota], .agg #[.int .i64 hd.k, .int .u64 (hd.m : Int), .bool hd.ng, .string hd.dg, .int .i64 hd.sc, .string hd.tx, .slice ka2 kn2 kc2, .slice da2 dn2 dc2, .int .i64 hd.cd], .slice (some ⟨b2, o2, none⟩) (m9 + 1) c2, .int .i64 (IntKind.i64.wrap ((m9 : Int) + 1))] W fun e w' => e = .returned (.bool true) ∧ Below W.heap.size W w') := phide (fun W b2 o2 c2 hW hr =>
              punhide IH W _ k (by rw [punhide HN]; exact hlt) b2 o2 c2 _ (punhide HSI W (hBw.trans (hW.mono hBw.size))).1 (hlies.below hW) (by rw [punhide HSS]; exact hr) (by omega) hw13)
            clear hw13
            have HM9 : Hid (m9 + 1 ≤ 1000) := phide (by omega)
            have i0 : (0 : Int) ≤ (k : Int) := by omega
            have i1 : (k : Int) < (N : Int) := by omega
            have hz : wc.heap.size ≤ wc.drew.heap.size := ((Below.refl wc.heap.size wc).drew).size
            have hS : Below wc.heap.size wc wc.drew := (Below.refl _ _).drew
            have HBC := phide hBc
            have hA0 : Below wc.heap.size wc (wc.alloc (.cells #[.int .i64 tk, .string ts, .int .i64 tn] 57)).drew := ((Below.refl _ wc).alloc (Nat.le_refl _) _).drew
            have hA1 : Below wc.heap.size wc (wc.alloc (.cells #[] 57)).drew := ((Below.refl _ wc).alloc (Nat.le_refl _) _).drew
            have hA2 : Below wc.heap.size wc ((wc.alloc (.cells #[] 57)).alloc (.cells #[.int .i64 tk, .string ts, .int .i64 tn] 57)).drew := (((Below.refl _ wc).alloc (Nat.le_refl _) _).alloc (by simp) _).drew
            have hA3 : Below wc.heap.size wc ((wc.alloc (.cells #[.int .i64 tk, .string ts, .int .i64 tn] 57)).alloc (.cells #[] 57)).drew := (((Below.refl _ wc).alloc (Nat.le_refl _) _).alloc (by simp) _).drew
            have hO1 := own_kept (w' := (wc.alloc (.cells #[] 57)).drew) (own_none_at wc wc.heap.size wc.heap.size rfl (Nat.le_refl _)) (fun g hg => rfl)
            have hO2 := own_kept (w' := ((wc.alloc (.cells #[] 57)).alloc (.cells #[.int .i64 tk, .string ts, .int .i64 tn] 57)).drew) (own_alloc (own_none_at wc wc.heap.size wc.heap.size rfl (Nat.le_refl _)) (.cells #[.int .i64 tk, .string ts, .int .i64 tn] 57)) (fun g hg => rfl)
            have hO3 := own_kept (w' := ((wc.alloc (.cells #[.int .i64 tk, .string ts, .int .i64 tn] 57)).alloc (.cells #[] 57)).drew) (own_none_at (wc.alloc (.cells #[.int .i64 tk, .string ts, .int .i64 tn] 57)) wc.heap.size (wc.heap.size + 1) (by simp) (Nat.le_succ _)) (fun g hg => rfl)
            have hR2 := (row1_at (wc.alloc (.cells #[] 57)) ⟨tk, ts, tn⟩ 57 (wc.heap.size + 1) (by simp)).step ((Below.refl _ _).drew)
            have hR3 := ((row1_at wc ⟨tk, ts, tn⟩ 57 wc.heap.size rfl).step ((Below.refl _ _).alloc (Nat.le_refl _) (.cells #[] 57))).step ((Below.refl _ _).drew)
            clear hBw f5 y0 y6 y7 hlies c0 c1 c2 c3 c4 c5 c6 c7 c8 hwl r3 hBc HKID HKS HSI HST HTT HF
            go_region_held3 (fun W => W.cell? ⟨w.heap.size, 0, none⟩ = some (.slice a n0 c) ∧ W.cell? ⟨w.heap.size, 1, none⟩ = some (.slice b m d) ∧ W.cell? ⟨w.heap.size, 2, none⟩ = some (.string tok) ∧ W.cell? ⟨w.heap.size, 3, none⟩ = some (.int .i64 p.fuel) ∧ W.cell? ⟨w.heap.size, 4, none⟩ = some (.int .i64 p.quota) ∧ W.cell? ⟨w.heap.size + 1, 7, none⟩ = some (.slice (some ⟨kb, ko, none⟩) N dc) ∧ W.cell? ⟨kb, ko + k * 9, none⟩ = some (.int .i64 hd.k) ∧ W.cell? ⟨kb, ko + k * 9 + 1, none⟩ = some (.int .u64 (hd.m : Int)) ∧ W.cell? ⟨kb, ko + k * 9 + 2, none⟩ = some (.bool hd.ng) ∧ W.cell? ⟨kb, ko + k * 9 + 3, none⟩ = some (.string hd.dg) ∧ W.cell? ⟨kb, ko + k * 9 + 4, none⟩ = some (.int .i64 hd.sc) ∧ W.cell? ⟨kb, ko + k * 9 + 5, none⟩ = some (.string hd.tx) ∧ W.cell? ⟨kb, ko + k * 9 + 6, none⟩ = some (.slice ka2 kn2 kc2) ∧ W.cell? ⟨kb, ko + k * 9 + 7, none⟩ = some (.slice da2 dn2 dc2) ∧ W.cell? ⟨kb, ko + k * 9 + 8, none⟩ = some (.int .i64 hd.cd) ∧ W.cell? ⟨wr.heap.size, 0, none⟩ = some (.int .i64 tk) ∧ W.cell? ⟨wr.heap.size, 1, none⟩ = some (.string ts) ∧ W.cell? ⟨wr.heap.size, 2, none⟩ = some (.int .i64 tn)) (first | with_reducible exact punhide HSB _ hS6 | with_reducible exact punhide HSB _ hS5 | with_reducible exact punhide HSB _ (hS4.alloc hS4.size _) | with_reducible exact punhide HSB _ hS4 | with_reducible exact punhide HSB _ hA3 | with_reducible exact punhide HSB _ hA2 | with_reducible exact punhide HSB _ hA1 | with_reducible exact punhide HSB _ hA0 | with_reducible exact punhide HSB _ hS)
              (first
                | (go_at_call 25; refine (punhide HCC _ _ _ _ hS5 (rowst_of hown5)).mono ?_; rintro e v6 ⟨rfl, b6⟩; have hS6 := hS5.trans (b6.mono hS5.size))
                | (refine step_append_gen v4 (by rfl) _ _ (by rfl) wc.heap.size g4 cap4 m9 at9 (by rfl) hown4 (wc.heap.size + 1) 0 1 1 [⟨tk, ts, tn⟩] (by rfl) rfl hd4b (m9 + 1) rfl (punhide HM9) hS4.size ?_; intro g5 cap5 v5 hown5 hgr5; have hS5 := hS4.grown hgr5 hS4.size (fun k hk => by cases hk; exact (hown4.lt g4 rfl).1))
                | (refine step_append_gen v4 (by rfl) _ _ (by rfl) wc.heap.size g4 cap4 m9 at9 (by rfl) hown4 wc.heap.size 0 1 1 [⟨tk, ts, tn⟩] (by rfl) rfl hd4c (m9 + 1) rfl (punhide HM9) hS4.size ?_; intro g5 cap5 v5 hown5 hgr5; have hS5 := hS4.grown hgr5 hS4.size (fun k hk => by cases hk; exact (hown4.lt g4 rfl).1))
                | ((with_reducible show ite _ (Oper.wp _ _ _ (World.alloc v4 _) _ _) _); refine step_append_gen (v4.alloc (.cells #[.int .i64 tk, .string ts, .int .i64 tn] 57)) (by rfl) _ _ (by rfl) wc.heap.size g4 cap4 m9 at9 (by rfl) (own_alloc hown4 _) v4.heap.size 0 1 1 [⟨tk, ts, tn⟩] (by rfl) rfl (row1_at v4 ⟨tk, ts, tn⟩ _ _ rfl) (m9 + 1) rfl (punhide HM9) (hS4.alloc hS4.size _).size ?_; intro g5 cap5 v5 hown5 hgr5; have hS5 := (hS4.alloc hS4.size _).grown hgr5 (hS4.alloc hS4.size _).size (fun k hk => by cases hk; exact (hown4.lt g4 rfl).1))
                | ((with_reducible show ite _ (Oper.wp _ _ _ (World.drew (World.alloc (World.alloc wc (.cells #[_, _, _] _)) _)) _ _) _); refine step_append_gen _ (by rfl) _ _ (by rfl) wc.heap.size (wc.heap.size + 1) 0 0 [] (by rfl) hO3 ab ao m9 ac at9 (by rfl) (punhide HAT) (punhide HRA _ hA3) m9 (Nat.zero_add _) (by have := punhide HM9; omega) hA3.size ?_; intro g4 cap4 v4 hown4 hgr4; simp only [List.nil_append] at hown4; have hd4c := hR3.grown hgr4 (by omega); have hS4 := hA3.grown hgr4 hA3.size (fun k hk => by cases hk; omega))
                | ((with_reducible show ite _ (Oper.wp _ _ _ (World.drew (World.alloc (World.alloc wc (.cells #[] _)) _)) _ _) _); refine step_append_gen _ (by rfl) _ _ (by rfl) wc.heap.size wc.heap.size 0 0 [] (by rfl) hO2 ab ao m9 ac at9 (by rfl) (punhide HAT) (punhide HRA _ hA2) m9 (Nat.zero_add _) (by have := punhide HM9; omega) hA2.size ?_; intro g4 cap4 v4 hown4 hgr4; simp only [List.nil_append] at hown4; have hd4b := hR2.grown hgr4 (by omega); have hS4 := hA2.grown hgr4 hA2.size (fun k hk => by cases hk; omega))
                | ((with_reducible show ite _ (Oper.wp _ _ _ (World.drew (World.alloc wc _)) _ _) _); refine step_append_gen _ (by rfl) _ _ (by rfl) wc.heap.size wc.heap.size 0 0 [] (by rfl) hO1 ab ao m9 ac at9 (by rfl) (punhide HAT) (punhide HRA _ hA1) m9 (Nat.zero_add _) (by have := punhide HM9; omega) hA1.size ?_; intro g4 cap4 v4 hown4 hgr4; simp only [List.nil_append] at hown4; have hS4 := hA1.grown hgr4 hA1.size (fun k hk => by cases hk; omega)))
            all_goals (go_wp2; go_meet; exact ⟨rfl, (punhide HBC).trans (hS6.mono (punhide HBC).size)⟩)
          case rest =>
          clear r3 hBc
          obtain ⟨rfl, hB9⟩ := hcut
          go_wp2
          go_roundw
          case rel => exact ⟨k + 1, by go_num, hlt, hB9⟩
          case measure => simp [intOf]; omega
        case neg =>
          have d2 : decide ((m9 : Int) < 6) = false := decide_eq_false (by omega)
          clear f5
          go_wp2
          go_ret
          exact ⟨rfl, hBw⟩
      case neg =>
        have d1 : decide ((k : Int) < (N : Int)) = false := decide_eq_false (by omega)
        clear f5
        go_wp2
        go_ret
        exact ⟨rfl, hBw⟩
end Go.Proofs.YtnagecbepidfiaaGreatDoor.Pol
