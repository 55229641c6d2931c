/- What is proved here: the document's own Same of two policies with the same content, walked; conditions: both policies lie. -/
import Derived.Test.YtnagecbepidfiaaGreatDoorVj
import Derived.BigQuiet
namespace Go.Proofs.YtnagecbepidfiaaGreatDoor.Pol
set_option maxRecDepth 100000
open Go.RowKit Go.Proofs.YtnagecbepidfiaaGreatDoor.Nc Go.Proofs.YtnagecbepidfiaaGreatDoor.Np Go.Proofs.YtnagecbepidfiaaGreatDoor.Nq
set_option linter.unusedVariables false
set_option linter.unusedSimpArgs false

theorem steps_same (a a' : Option Addr) (n c c' : Nat) (L : List Pm.St) (hn : n ≤ 1000) (w : World) (h : Np.StepsIn w a n L) (h' : Np.StepsIn w a' n L) : Calls Tryz.prog 38 #[.slice a n c, .slice a' n c'] w fun e w' => e = .returned (.bool true) ∧ Below w.heap.size w w' := by
  have hl := h.1
  rcases h.2 with h0 | ⟨b, o, rfl, hr⟩
  · rw [h0]; exact same_nil _ _ _ _ _
  · rcases h'.2 with h0 | ⟨b', o', rfl, hr'⟩
    · rw [h0]; exact same_nil _ _ _ _ _
    · subst hl
      exact same_any b o c b' o' c' _ _ L L rfl rfl (by omega) (by omega) true (decide_eq_true rfl) w hr hr'
set_option maxHeartbeats 8000000 in
theorem psame_any (v v' : Value) (p : Po) (hc : p.cats.length ≤ 1000) (hm : p.marks.length ≤ 1000) (hpl : ∀ m ∈ p.marks, m.path.length ≤ 1000) (w : World) (hI : PolIn w v p) (hI' : PolIn w v' p) :
    Calls Tryz.prog 13 #[v, v'] w fun e w' => e = .returned (.bool true) ∧ Below w.heap.size w w' := by
  obtain ⟨a, n, c, b, m, d, tok, rfl, htok, hC, hM⟩ := hI
  obtain ⟨a', n', c', b', m', d', tok', rfl, htok', hC', hM'⟩ := hI'
  obtain ⟨C, M, T, fu, qu⟩ := p
  simp only at *
  obtain rfl : tok' = tok := bytes_ext (htok'.trans htok.symm)
  have hcn := hC.1
  have hmn := hM.1
  obtain rfl : n' = n := hC'.1.symm.trans hcn
  obtain rfl : m' = m := hM'.1.symm.trans hmn
  have hB1 : Below w.heap.size w (w.alloc (.cells #[.slice a n' c, .slice b m' d, .string tok', .int .i64 fu, .int .i64 qu] 25)) := (Below.refl _ _).alloc (Nat.le_refl _) _
  have hF1 := Five.new w (.slice a n' c) (.slice b m' d) (.string tok') (.int .i64 fu) (.int .i64 qu) 25
  have s1 : (w.alloc (.cells #[.slice a n' c, .slice b m' d, .string tok', .int .i64 fu, .int .i64 qu] 25)).heap.size = w.heap.size + 1 := by simp
  have hB2 := hB1.alloc hB1.size (.cells #[.slice a' n' c', .slice b' m' d', .string tok', .int .i64 fu, .int .i64 qu] 25)
  have hF2 := Five.new (w.alloc (.cells #[.slice a n' c, .slice b m' d, .string tok', .int .i64 fu, .int .i64 qu] 25)) (.slice a' n' c') (.slice b' m' d') (.string tok') (.int .i64 fu) (.int .i64 qu) 25
  rw [s1] at hF2
  have hF3 := hF1.step ((Below.refl _ (w.alloc (.cells #[.slice a n' c, .slice b m' d, .string tok', .int .i64 fu, .int .i64 qu] 25))).alloc (Nat.le_refl _) (.cells #[.slice a' n' c', .slice b' m' d', .string tok', .int .i64 fu, .int .i64 qu] 25))
  have hC2 := hC.step hB2
  have hM2 := hM.step hB2
  have hC2' := hC'.step hB2
  have hM2' := hM'.step hB2
  clear hC hM hC' hM' hB1 hF1 s1 htok htok'
  go_enter Tryz.func13, Tryz.ntmps13
  go_upto_region 1 with fail
  generalize (w.alloc (.cells #[.slice a n' c, .slice b m' d, .string tok', .int .i64 fu, .int .i64 qu] 25)).alloc (.cells #[.slice a' n' c', .slice b' m' d', .string tok', .int .i64 fu, .int .i64 qu] 25) = W1 at *
  obtain ⟨x9, x0, x1, x2, x3, x4, -⟩ := id hF3
  obtain ⟨y9, y0, y1, y2, y3, y4, -⟩ := id hF2
  have he : (tok'.toList == tok'.toList) = true := by simp
  have hfq : (fu == fu) = true := by simp
  have hqq : (qu == qu) = true := by simp
  have HX := phide hF3
  have HY := phide hF2
  have HC := phide hC2
  have HC' := phide hC2'
  have HM := phide hM2
  have HM' := phide hM2'
  have HPL := phide hpl
  clear hF3 hF2 hC2 hC2' hM2 hM2' hpl
  go_wp2_with fail
  go_loopw [5] (fun i wr => ∃ k : Nat, i = .int .i64 (k : Int) ∧ k ≤ n' ∧ Below W1.heap.size W1 wr) (fun i _ => n' - (intOf i).toNat)
  case atStart => exact ⟨0, rfl, Nat.zero_le _, Below.refl _ _⟩
  case round =>
    obtain ⟨k, rfl, hk, hBr⟩ := hrel
    clear x0 x1 x2 x3 x4 y0 y1 y2 y3 y4 x9 y9
    obtain ⟨x9, x0, x1, x2, x3, x4, -⟩ := (punhide HX).step hBr
    obtain ⟨y9, y0, y1, y2, y3, y4, -⟩ := (punhide HY).step hBr
    by_cases hlt : k < n'
    case pos =>
      obtain ⟨g, o, rfl, hr⟩ := (punhide HC).get (by omega)
      obtain ⟨g', o', rfl, hr'⟩ := (punhide HC').get (by omega)
      obtain ⟨s, hs, -, -⟩ := txt (C[k]'(by omega))
      have c0 := (hr.step hBr).2 k (by omega)
      have c1 := (hr'.step hBr).2 k (by omega)
      rw [hs] at c0 c1
      have hss : (s.toList == s.toList) = true := by simp
      clear hs hr hr' he hfq hqq
      have hB3 := hBr.drew
      go_upto_region 6 with fail
      go_quiet (fail)
      go_wp2
      refine ⟨⟨k + 1, by go_num, hlt, Go.below_drewN hBr _⟩, ?_⟩
      simp [intOf]; omega
    case neg =>
      clear he hfq hqq
      go_wp2_with fail
      go_loopw [6] (fun i wr2 => ∃ k : Nat, i = .int .i64 (k : Int) ∧ k ≤ m' ∧ Below W1.heap.size W1 wr2) (fun i _ => m' - (intOf i).toNat)
      case atStart => exact ⟨0, rfl, Nat.zero_le _, hBr⟩
      case round =>
        obtain ⟨j, rfl, hj, hBq⟩ := hrel
        clear hlt hk
        clear x0 x1 x2 x3 x4 y0 y1 y2 y3 y4 x9 y9
        by_cases hlt : j < m'
        case pos =>
          obtain ⟨g, o, rfl, hg, hr⟩ := (punhide HM).2.resolve_left (by omega)
          obtain ⟨g', o', rfl, hg', hr'⟩ := (punhide HM').2.resolve_left (by omega)
          obtain ⟨-, pa, pn, pc, c0, c1, hst⟩ := hr j (by omega)
          obtain ⟨-, pa', pn', pc', d0, d1, hst'⟩ := hr' j (by omega)
          obtain ⟨mk, hmk⟩ : ∃ mk, M[j]'(by omega) = mk := ⟨_, rfl⟩
          have hml := punhide HPL _ (List.getElem_mem (show j < M.length by omega))
          rw [hmk] at c1 hst d1 hst' hml
          obtain rfl : pn' = pn := hst'.1.symm.trans hst.1
          have hpn : pn' ≤ 1000 := by rw [← hst.1]; exact hml
          have HSB : Hid (∀ W, Below W1.heap.size W1 W → ((W.cell? ⟨w.heap.size, 1, none⟩ = some (.slice (some ⟨g, o, none⟩) m' d) ∧ W.cell? ⟨w.heap.size + 1, 1, none⟩ = some (.slice (some ⟨g', o', none⟩) m' d')) ∧ W.cell? ⟨g, o + j * 2, none⟩ = some (.slice pa pn' pc) ∧ W.cell? ⟨g', o' + j * 2, none⟩ = some (.slice pa' pn' pc')) ∧
              (W.cell? ⟨g, o + j * 2 + 1, none⟩ = some (.int .u64 (mk.mask : Int)) ∧ W.cell? ⟨g', o' + j * 2 + 1, none⟩ = some (.int .u64 (mk.mask : Int))) ∧ Np.StepsIn W pa pn' mk.path ∧ Np.StepsIn W pa' pn' mk.path) := phide (fun W hW =>
            ⟨⟨⟨((punhide HX).step hW).c1, ((punhide HY).step hW).c1⟩, (hW.cell (p := ⟨g, o + j * 2, none⟩) hg).trans c0, (hW.cell (p := ⟨g', o' + j * 2, none⟩) hg').trans d0⟩, ⟨(hW.cell (p := ⟨g, o + j * 2 + 1, none⟩) hg).trans c1, (hW.cell (p := ⟨g', o' + j * 2 + 1, none⟩) hg').trans d1⟩, hst.step hW, hst'.step hW⟩)
          have CS := fun W h h' => steps_same pa pa' pn' pc pc' mk.path hpn W h h'
          obtain ⟨⟨⟨z0, z1⟩, z2, z3⟩, ⟨z4, z5⟩, -⟩ := punhide HSB _ hBq
          clear hr hr' c0 c1 d0 d1 hst hst' hmk hml hg hg'
          go_upto_region 11 with fail
          have hS : Below W1.heap.size W1 _ := hBq.drew
          go_region_held3 (fun w' => (w'.cell? ⟨w.heap.size, 1, none⟩ = some (.slice (some ⟨g, o, none⟩) m' d) ∧ w'.cell? ⟨w.heap.size + 1, 1, none⟩ = some (.slice (some ⟨g', o', none⟩) m' d')) ∧ w'.cell? ⟨g, o + j * 2, none⟩ = some (.slice pa pn' pc) ∧ w'.cell? ⟨g', o' + j * 2, none⟩ = some (.slice pa' pn' pc'))
            (exact (punhide HSB _ hS).1)
            (first | (go_at_call 38; refine (CS _ (punhide HSB _ hS).2.2.1 (punhide HSB _ hS).2.2.2).mono ?_; rintro e9 w9 ⟨rfl, b9⟩; replace hS := hS.trans (b9.mono hS.size); clear b9))
          all_goals
            clear z0 z1 z2 z3 z4 z5
            obtain ⟨⟨⟨z0, z1⟩, z2, z3⟩, ⟨z4, z5⟩, -⟩ := punhide HSB _ hS
            have hmm : ((mk.mask : Int) == (mk.mask : Int)) = true := by simp
            go_upto_region 12 with fail
            go_quiet (fail)
            go_wp2
            refine ⟨⟨j + 1, by go_num, hlt, Go.below_drewN hS _⟩, ?_⟩
            simp [intOf]; omega
        case neg =>
          have x1 := ((punhide HX).step hBq).c1
          have y1 := ((punhide HY).step hBq).c1
          go_wp2
          go_ret
          exact ⟨rfl, hB2.trans (hBq.mono hB2.size)⟩
end Go.Proofs.YtnagecbepidfiaaGreatDoor.Pol
