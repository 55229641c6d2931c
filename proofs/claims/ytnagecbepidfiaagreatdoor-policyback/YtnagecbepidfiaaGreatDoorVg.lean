/- What is proved here: May of package policy, walked; conditions: the tables of unicode/utf8 lie, the policy lies. -/
import Derived.Test.YtnagecbepidfiaaGreatDoorVf
namespace Go.Proofs.YtnagecbepidfiaaGreatDoor.Pol
set_option maxRecDepth 100000
open Go.RowKit Go.Proofs.YtnagecbepidfiaaGreatDoor.Nc Go.Proofs.YtnagecbepidfiaaGreatDoor.Np Go.Proofs.YtnagecbepidfiaaGreatDoor.Nq
set_option linter.unusedVariables false
set_option linter.unusedSimpArgs false

theorem mayFuel_any (z : Int) (b : Bool) (hb : fuelB z = b) (w : World) : Calls Tryz.prog 45 #[.int .i64 z] w fun e w' => e = .returned (.bool b) ∧ w' = w := by
  unfold fuelB at hb
  by_cases h1 : 1 ≤ z
  · have d1 : decide (1 ≤ z) = true := decide_eq_true h1
    rw [d1, Bool.true_and] at hb
    subst hb
    clear h1
    go_enter Tryz.func45, Tryz.ntmps45
    go_wp2
    go_ret
    exact ⟨rfl, rfl⟩
  · have d1 : decide (1 ≤ z) = false := decide_eq_false h1
    rw [d1, Bool.false_and] at hb
    subst hb
    clear h1
    go_enter Tryz.func45, Tryz.ntmps45
    go_wp2
    go_ret
    exact ⟨rfl, rfl⟩
set_option maxHeartbeats 2000000 in
theorem mayMark_any (a : Option Addr) (n c : Nat) (mk : Mk) (N A : Nat) (hA : 2 ^ N - 1 = A) (hN : N ≤ 64) (hn : n ≤ 1000) (hm : mk.mask < 18446744073709551616) (q : Int) (hq : marksE N [mk] = q) (w : World) (hT : Tabs w) (hs : Np.StepsIn w a n mk.path) :
    Calls Tryz.prog 43 #[.agg #[.slice a n c, .int .u64 (mk.mask : Int)], .int .u64 (A : Int)] w fun e w' => e = .returned (.int .i64 q) ∧ Below w.heap.size w w' := by
  obtain ⟨L, m⟩ := mk
  simp only at hm hs
  obtain ⟨e0, he0⟩ : ∃ e0, Np.mayE L = e0 := ⟨_, rfl⟩
  have CM := fun W hT hs => Np.may_any a n c L e0 he0 hn W hT hs
  have hAl : A < 18446744073709551616 := by
    have := Nat.pow_le_pow_right (n := 2) (by omega) hN
    rw [← hA]; omega
  obtain ⟨b, hb⟩ : ∃ b, Cm.subB m A = b := ⟨_, rfl⟩
  have CW := fun W => Nc.within_any m A hm hAl W
  rw [hb] at CW
  unfold marksE at hq
  rw [he0, hA, hb] at hq
  simp only [marksE] at hq
  have HQ := phide hq
  have hB0 : Below w.heap.size w (w.alloc (.cells #[.slice a n c, .int .u64 (m : Int)] 59)) := (Below.refl _ _).alloc (Nat.le_refl _) _
  have t0 := Two.new w (.slice a n c) (.int .u64 (m : Int)) 59
  clear hq hb he0 hA
  go_enter Tryz.func43, Tryz.ntmps43
  go_wp2_with fail
  refine (CM _ (tabs_step hT hB0) (hs.step hB0)).mono ?_
  rintro e w2 ⟨rfl, b2⟩
  replace t0 := t0.step b2
  have hB2 := hB0.trans (b2.mono hB0.size)
  obtain ⟨-, x0, x1, -, -, -⟩ := t0
  clear CM b2 hB0 hT hs
  by_cases h0 : e0 = 0
  · subst h0
    by_cases hm0 : m = 0
    · have d1 : ((m : Int) == 0) = true := by rw [beq_iff_eq]; omega
      have hq := punhide HQ
      rw [if_neg (by simp), if_pos (.inl hm0)] at hq
      subst hq
      clear hm0
      go_wp2
      go_ret
      exact ⟨rfl, hB2⟩
    · have d1 : ((m : Int) == 0) = false := by rw [beq_eq_false_iff_ne]; omega
      have hq := punhide HQ
      cases b
      · rw [if_neg (by simp), if_pos (.inr rfl)] at hq
        subst hq
        clear hm0
        go_wp2_with (go_at_call 80; refine (CW _).mono ?_; rintro e w2 ⟨rfl, rfl⟩)
        go_ret
        exact ⟨rfl, hB2⟩
      · rw [if_neg (by simp), if_neg (by intro h; rcases h with h | h; exact hm0 h; cases h)] at hq
        subst hq
        clear hm0
        go_wp2_with (go_at_call 80; refine (CW _).mono ?_; rintro e w2 ⟨rfl, rfl⟩)
        go_ret
        exact ⟨rfl, hB2⟩
  · have d1 : (e0 == 0) = false := by simp [h0]
    have hq := punhide HQ
    rw [if_pos h0] at hq
    subst hq
    go_wp2
    go_ret
    exact ⟨rfl, hB2⟩
/-- The bits of all categories. -/
theorem all_bits {n : Nat} (h : n ≤ 64) : IntKind.u64.wrap ((Cm.bitN n : Int) - 1) = ((2 ^ n - 1 : Nat) : Int) := by
  unfold Cm.bitN
  split
  · have h1 := Nat.pow_le_pow_right (n := 2) (by omega) (show n ≤ 63 by omega)
    have h2 := Nat.two_pow_pos n
    rw [Nc.wrap_u64]
    omega
  · have : n = 64 := by omega
    subst this
    rfl
theorem marks_drop (N : Nat) (l : List Mk) (k : Nat) (h : k < l.length) : marksE N (l.drop k) = if marksE N [l[k]'h] = 0 then marksE N (l.drop (k + 1)) else marksE N [l[k]'h] := by
  rw [List.drop_eq_getElem_cons h]
  simp only [marksE]
  by_cases h1 : Np.mayE (l[k]'h).path = 0
  · by_cases h2 : (l[k]'h).mask = 0 ∨ Cm.subB (l[k]'h).mask (2 ^ N - 1) = false
    · simp [h1, h2]
    · simp [h1, h2]
  · simp [h1]
set_option maxHeartbeats 4000000 in
theorem may_any (v : Value) (p : Po) (q : Int) (hq : mayP p = q) (hc : p.cats.length ≤ 1000) (hl : ∀ x ∈ p.cats, x.length ≤ 1000000) (hml : p.marks.length ≤ 1000) (hpl : ∀ m ∈ p.marks, m.path.length ≤ 1000) (ht : p.token.length ≤ 1000000) (w : World) (hT : Tabs w) (hI : PolIn w v p) :
    Calls Tryz.prog 15 #[v] w fun e w' => e = .returned (.int .i64 q) ∧ Below w.heap.size w w' := by
  obtain ⟨a, n, c, b, m, d, tok, rfl, htok, hC, hM⟩ := hI
  obtain ⟨C, M, T, fu, qu⟩ := p
  simp only at *
  obtain ⟨e0, he0⟩ : ∃ e0, Cm.mayE C = e0 := ⟨_, rfl⟩
  have CM := fun W h => may_o a n c C hC.1 (by have := hC.1; omega) hl e0 he0 W h
  have hF := Five.new w (.slice a n c) (.slice b m d) (.string tok) (.int .i64 fu) (.int .i64 qu) 25
  have hB0 : Below w.heap.size w (w.alloc (.cells #[.slice a n c, .slice b m d, .string tok, .int .i64 fu, .int .i64 qu] 25)) := (Below.refl _ _).alloc (Nat.le_refl _) _
  have hC0 := hC.step hB0
  have hM0 := hM.step hB0
  have hT0 := tabs_step hT hB0
  unfold mayP at hq
  simp only at hq
  rw [he0] at hq
  have HQ := phide hq
  have HPL := phide hpl
  have hCn := hC.1
  have hMn := hM.1
  have HE0 := phide he0
  clear hq he0 hT hC hM hpl hl
  go_enter Tryz.func15, Tryz.ntmps15
  go_wp2_with fail
  refine (CM _ hC0).mono ?_
  rintro e w1 ⟨rfl, b1⟩
  replace hF := hF.step b1
  have hB1 := hB0.trans (b1.mono hB0.size)
  replace hM0 := hM0.step b1
  replace hT0 := tabs_step hT0 b1
  clear CM hC0 b1 hB0
  obtain ⟨-, x0, x1, x2, x3, x4, -⟩ := id hF
  by_cases h0 : e0 = 0
  case neg =>
    have d1 : ((e0 : Int) == 0) = false := by simp [h0]
    have hq := punhide HQ
    rw [if_pos h0] at hq
    subst hq
    clear hM0 hT0
    go_wp2
    go_ret
    exact ⟨rfl, hB1⟩
  case pos =>
  subst h0
  obtain ⟨h64, -, -⟩ := may_zero (punhide HE0)
  by_cases h16 : 16 < M.length
  case pos =>
    have d1 : decide ((16 : Int) < (m : Int)) = true := decide_eq_true (by omega)
    have hq := punhide HQ
    rw [if_neg (by simp), if_pos h16] at hq
    subst hq
    clear hM0 hT0 h16 hMn
    go_wp2
    go_ret
    exact ⟨rfl, hB1⟩
  case neg =>
  have d1 : decide ((16 : Int) < (m : Int)) = false := decide_eq_false (by omega)
  obtain ⟨A, hA⟩ : ∃ A, 2 ^ n - 1 = A := ⟨_, rfl⟩
  have hab := all_bits (n := n) (by omega)
  rw [hA] at hab
  have hb1 := Nc.bit_wrap n
  have hb2 : IntKind.u64.wrap (2 ^ n) = (Cm.bitN n : Int) := by rw [← hb1, Nat.min_eq_left (by omega)]
  generalize (Cm.bitN n : Int) = Z at *
  have HQ2 : Hid ((if marksE n M ≠ 0 then marksE n M else if 24 < List.length T ∨ Lib.validD T = false ∨ fuelB fu = false ∨ fuelB qu = false then 22 else 0) = q) := phide (by
    have hq := punhide HQ
    rw [if_neg (by simp), if_neg h16, hCn] at hq
    exact hq)
  have HA := phide hA
  clear HQ hA h16 HE0
  go_upto_region 7 with fail
  have HM := phide hM0
  have HX := phide hF
  have HT := phide hT0
  have hn64 : n ≤ 64 := by omega
  clear hb1 hb2 hab hM0 hT0 h64
  go_wp2_with fail
  go_loopw [26] (fun i wr => ∃ k : Nat, i = .int .i64 (k : Int) ∧ k ≤ m ∧ Below w1.heap.size w1 wr ∧ Hid (marksE n (M.drop k) = marksE n M)) (fun i _ => m - (intOf i).toNat)
  case atStart => exact ⟨0, rfl, Nat.zero_le _, Below.refl _ _, phide rfl⟩
  case round =>
    obtain ⟨k, rfl, hk, hBr, hE⟩ := hrel
    have hsz := (punhide HX).lt
    have e0 := (hBr.cell (p := ⟨w.heap.size, 0, none⟩) hsz).trans x0
    have e1 := (hBr.cell (p := ⟨w.heap.size, 1, none⟩) hsz).trans x1
    have e2 := (hBr.cell (p := ⟨w.heap.size, 2, none⟩) hsz).trans x2
    have e3 := (hBr.cell (p := ⟨w.heap.size, 3, none⟩) hsz).trans x3
    have e4 := (hBr.cell (p := ⟨w.heap.size, 4, none⟩) hsz).trans x4
    clear x0 x1 x2 x3 x4 hsz hF
    by_cases hlt : k < m
    case pos =>
      obtain ⟨g, o, rfl, hg, hrow⟩ := (punhide HM).2.resolve_left (by omega)
      obtain ⟨hmk, pa, pn, pc, c0, c1, hst⟩ := hrow k (by omega)
      obtain ⟨mk, hmke⟩ : ∃ mk, M[k]'(by omega) = mk := ⟨_, rfl⟩
      rw [hmke] at hmk c1 hst
      have f0 := (hBr.cell (p := ⟨g, o + k * 2, none⟩) hg).trans c0
      have f1 := (hBr.cell (p := ⟨g, o + k * 2 + 1, none⟩) hg).trans c1
      obtain ⟨qm, hqm⟩ : ∃ qm, marksE n [mk] = qm := ⟨_, rfl⟩
      have hpn : pn ≤ 1000 := by rw [← hst.1, ← hmke]; exact punhide HPL _ (List.getElem_mem _)
      have CMk := fun W hT hs => mayMark_any pa pn pc mk n A (punhide HA) hn64 hpn hmk qm hqm W hT hs
      have hd := marks_drop n M k (by omega)
      rw [hmke, hqm] at hd
      have HD := phide hd
      have hBa : Below w1.heap.size w1 (wr.alloc (.cells #[.slice pa pn pc, .int .u64 (mk.mask : Int)] 59)) := hBr.alloc hBr.size _
      have hTa := tabs_step (punhide HT) hBa
      have hsa := hst.step hBa
      have HBA := phide hBa
      have hza : w1.heap.size ≤ (wr.alloc (.cells #[.slice pa pn pc, .int .u64 (mk.mask : Int)] 59)).heap.size := hBa.size
      clear hd c0 c1 hst hrow hqm hmke hBa
      go_wp2_with fail
      refine (CMk _ hTa hsa).mono ?_
      rintro e w3 ⟨rfl, b3⟩
      have hB3 := (punhide HBA).trans (b3.mono hza)
      clear CMk b3 hTa hsa HBA hza
      by_cases hq0 : qm = 0
      · subst hq0
        have hE2 : Hid (marksE n (M.drop (k + 1)) = marksE n M) := phide (by rw [← punhide hE, punhide HD, if_pos rfl])
        go_wp2
        go_roundw
        case rel => exact ⟨k + 1, by go_num, hlt, hB3, hE2⟩
        case measure => simp [intOf]; omega
      · have d2 : (qm == 0) = false := by simp [hq0]
        have hE2 : Hid (qm = q) := phide (by
          have h1 : marksE n M = qm := by rw [← punhide hE, punhide HD, if_neg hq0]
          rw [← punhide HQ2, h1, if_pos hq0])
        have hqq := punhide hE2
        clear hE2 HQ2
        subst hqq
        go_wp2
        go_ret
        exact ⟨rfl, hB1.trans (hB3.mono hB1.size)⟩
    case neg =>
      have hkm : k = m := by omega
      have hE0 : marksE n M = 0 := by rw [← punhide hE, hkm, List.drop_of_length_le (by omega)]; rfl
      have hq := punhide HQ2
      rw [if_neg (by rw [hE0]; simp)] at hq
      have htl : T.length = tok.size := by rw [← htok, len_size]
      have htk : tok.size ≤ 1000000 := by omega
      rw [htl] at hq
      obtain ⟨v1, hv1⟩ : ∃ v1, Lib.validD T = v1 := ⟨_, rfl⟩
      obtain ⟨v2, hv2⟩ : ∃ v2, fuelB fu = v2 := ⟨_, rfl⟩
      obtain ⟨v3, hv3⟩ : ∃ v3, fuelB qu = v3 := ⟨_, rfl⟩
      have CV := fun W hT => valid_c tok v1 W (by omega) (by rw [htok]; exact hv1) hT
      have C2 := fun W => mayFuel_any fu v2 hv2 W
      have C3 := fun W => mayFuel_any qu v3 hv3 W
      rw [hv1, hv2, hv3] at hq
      have hTr := tabs_step (punhide HT) hBr
      have hB := hB1.trans (hBr.mono hB1.size)
      have hBs := hB.size
      have hsz := Nat.lt_of_lt_of_le (punhide HX).lt hBr.size
      have HQ3 := phide hq
      clear hq hE0 hkm hE hk htok hv1 hv2 hv3 htl
      by_cases h24 : 24 < tok.size
      case pos =>
        have d2 : decide ((24 : Int) < (tok.size : Int)) = true := decide_eq_true (by omega)
        have hq := punhide HQ3
        rw [if_pos (.inl h24)] at hq
        subst hq
        clear h24 hB1 hBr
        go_wp2
        go_ret
        exact ⟨rfl, hB⟩
      case neg =>
        have d2 : decide ((24 : Int) < (tok.size : Int)) = false := decide_eq_false (by omega)
        have hq := punhide HQ3
        clear hB1 hBr HQ3
        cases v1 with
        | false =>
          rw [if_pos (.inr (.inl rfl))] at hq
          subst hq
          clear h24
          go_wp2_with (go_at_call 44; refine (CV _ hTr).mono ?_; rintro e w4 ⟨rfl, b4⟩)
          go_ret
          exact ⟨rfl, hB.trans (b4.mono hBs)⟩
        | true =>
          have h2 : ¬ (24 < tok.size ∨ true = false ∨ v2 = false ∨ v3 = false) ↔ (v2 = true ∧ v3 = true) := by
            cases v2 <;> cases v3 <;> simp [h24]
          cases v2 with
          | false =>
            rw [if_pos (.inr (.inr (.inl rfl)))] at hq
            subst hq
            clear h24 h2
            go_wp2_with (first | (go_at_call 44; refine (CV _ hTr).mono ?_; rintro e w4 ⟨rfl, b4⟩; replace e3 := (b4.cell (p := ⟨w.heap.size, 3, none⟩) hsz).trans e3; replace e4 := (b4.cell (p := ⟨w.heap.size, 4, none⟩) hsz).trans e4) | (go_at_call_of 45 (Value.int IntKind.i64 fu); refine (C2 _).mono ?_; rintro e w5 ⟨rfl, rfl⟩))
            go_ret
            exact ⟨rfl, hB.trans (b4.mono hBs)⟩
          | true =>
            cases v3 with
            | false =>
              rw [if_pos (.inr (.inr (.inr rfl)))] at hq
              subst hq
              clear h24 h2
              go_wp2_with (first | (go_at_call 44; refine (CV _ hTr).mono ?_; rintro e w4 ⟨rfl, b4⟩; replace e3 := (b4.cell (p := ⟨w.heap.size, 3, none⟩) hsz).trans e3; replace e4 := (b4.cell (p := ⟨w.heap.size, 4, none⟩) hsz).trans e4) | (go_at_call_of 45 (Value.int IntKind.i64 fu); refine (C2 _).mono ?_; rintro e w5 ⟨rfl, rfl⟩) | (go_at_call_of 45 (Value.int IntKind.i64 qu); refine (C3 _).mono ?_; rintro e w5 ⟨rfl, rfl⟩))
              go_ret
              exact ⟨rfl, hB.trans (b4.mono hBs)⟩
            | true =>
              rw [if_neg (h2.2 ⟨rfl, rfl⟩)] at hq
              subst hq
              clear h24 h2
              go_wp2_with (first | (go_at_call 44; refine (CV _ hTr).mono ?_; rintro e w4 ⟨rfl, b4⟩; replace e3 := (b4.cell (p := ⟨w.heap.size, 3, none⟩) hsz).trans e3; replace e4 := (b4.cell (p := ⟨w.heap.size, 4, none⟩) hsz).trans e4) | (go_at_call_of 45 (Value.int IntKind.i64 fu); refine (C2 _).mono ?_; rintro e w5 ⟨rfl, rfl⟩) | (go_at_call_of 45 (Value.int IntKind.i64 qu); refine (C3 _).mono ?_; rintro e w5 ⟨rfl, rfl⟩))
              go_ret
              exact ⟨rfl, hB.trans (b4.mono hBs)⟩
end Go.Proofs.YtnagecbepidfiaaGreatDoor.Pol
