/- What is proved here: the document's own May of policies, walked; conditions: the policy lies. -/
import Derived.Test.YtnagecbepidfiaaGreatDoorZHe
import Derived.OwnWalk
import Derived.Deep.DeepCutAuto
import Derived.Deep.CutRange
import Derived.Deep.CutBlock
import Derived.Deep.RegionWith
namespace Go.Proofs.YtnagecbepidfiaaGreatDoor.Pol
set_option maxRecDepth 100000
open Go.RowKit Go.Proofs.YtnagecbepidfiaaGreatDoor.Nc Go.Proofs.YtnagecbepidfiaaGreatDoor.Np Go.Proofs.YtnagecbepidfiaaGreatDoor.Nq
set_option linter.unusedVariables false
set_option linter.unusedSimpArgs false

set_option maxRecDepth 100000 in
theorem rplace_o (ad : Option Addr) (n c : Nat) (L : List Cm.Tx) (hn : L.length = n) (hn2 : n ≤ 1000000) (s : ByteArray) (r : Int) (hr0 : plc L s.data.toList = r) (w : World) (hr : TxIn w ad n L) :
    Calls Tryz.prog 73 #[.slice ad n c, .string s] w fun e w' => e = .returned (.int .i64 r) ∧ w' = w := by
  have HR := phide hr0
  clear hr0
  go_enter Tryz.func73, Tryz.ntmps73
  go_wp2
  go_loop [5] (fun i => ∃ k : Nat, k ≤ n ∧ i = .int .i64 (k : Int) ∧ ∀ j, ∀ hj : j < L.length, j < k → L[j]'hj ≠ s.data.toList) (fun i => n - (intOf i).toNat)
  case atStart => exact ⟨0, by omega, rfl, fun j _ h => absurd h (by omega)⟩
  case round =>
    obtain ⟨k, hk, rfl, hno⟩ := hrel
    by_cases hlt : k < n
    · obtain ⟨x, hx, hx2, hx3⟩ := txt (L[k]'(by omega))
      obtain ⟨g, o, rfl, hrow⟩ := hr.get (by omega)
      have hc := hrow.2 k (by omega)
      rw [hx] at hc
      have he := list_eq x s
      rw [hx2] at he
      by_cases hxs : L[k]'(by omega) = s.data.toList
      · have hp := plc_hit (by omega) hxs hno
        have HP := phide ((punhide HR).symm.trans hp)
        rw [decide_eq_true hxs] at he
        clear hxs hp hno hx2 hx3 hx
        go_wp2
        go_ret
        exact ⟨ret_i64 (punhide HP).symm, rfl⟩
      · have hno2 : ∀ j, ∀ hj : j < L.length, j < k + 1 → L[j]'hj ≠ s.data.toList := fun j hj h => by
          by_cases e : j = k
          · subst e; exact hxs
          · exact hno j hj (by omega)
        rw [decide_eq_false hxs] at he
        clear hxs hno hx2 hx3 hx
        go_wp2
        go_round
        case rel => exact ⟨k + 1, by omega, by go_num, hno2⟩
        case measure => simp [intOf]; omega
    · have hp := plc_miss (fun j hj => hno j hj (by omega))
      have HP := phide ((punhide HR).symm.trans hp)
      clear hp hno
      go_wp2
      go_ret
      exact ⟨ret_i64 (punhide HP).symm, rfl⟩
set_option maxRecDepth 100000 in
set_option maxHeartbeats 1000000 in
theorem rmay_o (ad : Option Addr) (n c : Nat) (L : List Cm.Tx) (hn : L.length = n) (hn2 : n ≤ 1000) (hl : ∀ x ∈ L, x.length ≤ 1000) (q : Nat) (hq : Cm.mayE L = q) (w : World) (hr : TxIn w ad n L) :
    Calls Tryz.prog 32 #[.slice ad n c] w fun e w' => e = .returned (.int .i64 (q : Int)) ∧ w' = w := by
  by_cases h64 : 64 < n
  · have hm : Cm.mayE L = 3 := by unfold Cm.mayE; rw [if_pos (by omega)]
    have hq3 := hq.symm.trans hm
    subst hq3
    clear hq hm
    go_enter Tryz.func32, Tryz.ntmps32
    go_wp2
    go_ret
    exact ⟨rfl, rfl⟩
  · rw [may_small (by omega)] at hq
    have HQ := phide hq
    clear hq
    go_enter Tryz.func32, Tryz.ntmps32
    go_wp2
    go_loop [3] (fun i => ∃ k : Nat, k ≤ n ∧ i = .int .i64 (k : Int) ∧ ∀ j, ∀ hj : j < L.length, j < k → Cm.nameB (L[j]'hj) = true ∧ plc L (L[j]'hj) = (j : Int)) (fun i => n - (intOf i).toNat)
    case atStart => exact ⟨0, by omega, rfl, fun j _ h => absurd h (by omega)⟩
    case round =>
      obtain ⟨k, hk, rfl, hno⟩ := hrel
      by_cases hlt : k < n
      · obtain ⟨x, hx, hx2, hx3⟩ := txt (L[k]'(by omega))
        obtain ⟨g, o, rfl, hrow⟩ := hr.get (by omega)
        have hc := hrow.2 k (by omega)
        rw [hx] at hc
        have hxl := hl _ (List.getElem_mem (show k < L.length by omega))
        have hxm : x.data.toList ∈ L := by rw [hx2]; exact List.getElem_mem _
        cases hnm : Cm.nameB x.data.toList
        · have C : ∀ W, Calls Tryz.prog 72 #[.string x] W fun e w' => e = .returned (.bool false) ∧ w' = W := fun W => by
            have := rmayName_any x W (by omega)
            rwa [hnm] at this
          have hall : L.all Cm.nameB = false := by
            rw [List.all_eq_false]
            exact ⟨_, hxm, by rw [hnm]; simp⟩
          have hq := punhide HQ
          rw [hall] at hq
          have HQ2 := phide (show (20 : Nat) = q from hq)
          clear hq hall hno hxm hnm hx2 hx3 hx hxl HQ
          go_wp2_with (go_at_call 72; refine (C _).mono ?_; rintro e w ⟨rfl, rfl⟩)
          go_ret
          exact ⟨by rw [← punhide HQ2]; rfl, rfl⟩
        · have C : ∀ W, Calls Tryz.prog 72 #[.string x] W fun e w' => e = .returned (.bool true) ∧ w' = W := fun W => by
            have := rmayName_any x W (by omega)
            rwa [hnm] at this
          obtain ⟨i, hi1, hi2, hi3, hi4⟩ := plc_self (L := L) k (by omega)
          have CP : ∀ W, TxIn W (some ⟨g, o, none⟩) n L → Calls Tryz.prog 73 #[.slice (some ⟨g, o, none⟩) n c, .string x] W fun e w' => e = .returned (.int .i64 (i : Int)) ∧ w' = W := fun W h =>
            rplace_o (some ⟨g, o, none⟩) n c L hn (by omega) x i (by rw [hx2]; exact hi1) W h
          by_cases hik : i = k
          · subst hik
            have hno2 : ∀ j, ∀ hj : j < L.length, j < i + 1 → Cm.nameB (L[j]'hj) = true ∧ plc L (L[j]'hj) = (j : Int) := fun j hj h => by
              by_cases e : j = i
              · subst e; exact ⟨by rw [← hx2]; exact hnm, hi1⟩
              · exact hno j hj (by omega)
            have d1 : ((i : Int) == (i : Int)) = true := beq_self_eq_true _
            clear hno hi1 hi2 hi3 hi4 hnm hxm hx hx2 hx3
            go_wp2_with (first | (go_at_call 72; refine (C _).mono ?_; rintro e w ⟨rfl, rfl⟩) | (go_at_call 73; refine (CP _ hr).mono ?_; rintro e w ⟨rfl, rfl⟩))
            go_round
            case rel => exact ⟨i + 1, by omega, by go_num, hno2⟩
            case measure => simp [intOf]; omega
          · have hnd : ¬ L.Nodup := fun hd => by
              have := plc_nodup hd k (by omega)
              rw [hi1] at this
              omega
            have hq := punhide HQ
            rw [decide_eq_false hnd, Bool.and_false] at hq
            have HQ2 := phide (show (20 : Nat) = q from hq)
            have d1 : ((i : Int) == (k : Int)) = false := beq_eq_false_iff_ne.2 (by omega)
            clear hno hi1 hi2 hi3 hi4 hnm hxm hx hx2 hx3 hnd hq HQ hik
            go_wp2_with (first | (go_at_call 72; refine (C _).mono ?_; rintro e w ⟨rfl, rfl⟩) | (go_at_call 73; refine (CP _ hr).mono ?_; rintro e w ⟨rfl, rfl⟩))
            go_ret
            exact ⟨by rw [← punhide HQ2]; rfl, rfl⟩
      · have hall : L.all Cm.nameB = true := by
          rw [List.all_eq_true]
          intro y hy
          obtain ⟨j, hj, rfl⟩ := List.getElem_of_mem hy
          exact (hno j hj (by omega)).1
        have hd : L.Nodup := nodup_plc (fun j hj => (hno j hj (by omega)).2)
        have hq := punhide HQ
        rw [hall, decide_eq_true hd] at hq
        have HQ2 := phide (show (0 : Nat) = q from hq)
        clear hq hall hno hd HQ
        go_wp2
        go_ret
        exact ⟨by rw [← punhide HQ2]; rfl, rfl⟩
theorem rfuel_any (z : Int) (b : Bool) (hb : fuelB z = b) (w : World) : Calls Tryz.prog 41 #[.int .i64 z] w fun e w' => e = .returned (.bool b) ∧ w' = w := by
  unfold fuelB at hb
  by_cases h1 : 1 ≤ z
  · have d1 : decide (1 ≤ z) = true := decide_eq_true h1
    rw [d1, Bool.true_and] at hb
    subst hb
    clear h1
    go_enter Tryz.func41, Tryz.ntmps41
    go_wp2
    go_ret
    exact ⟨rfl, rfl⟩
  · have d1 : decide (1 ≤ z) = false := decide_eq_false h1
    rw [d1, Bool.false_and] at hb
    subst hb
    clear h1
    go_enter Tryz.func41, Tryz.ntmps41
    go_wp2
    go_ret
    exact ⟨rfl, rfl⟩
theorem or_next (k : Nat) : (2 ^ k - 1) ||| 2 ^ k = 2 ^ (k + 1) - 1 := by
  have h := Nat.two_pow_add_eq_or_of_lt (b := 2 ^ k - 1) (i := k) (by have := Nat.two_pow_pos k; omega) 1
  rw [Nat.mul_one] at h
  rw [Nat.or_comm, ← h]
  have := Nat.two_pow_pos k
  rw [Nat.pow_succ]
  omega
theorem shl_is {k : Nat} (h : k < 64) : IntKind.u64.wrap (2 ^ k) = ((2 ^ k : Nat) : Int) := by
  have h1 := Nat.pow_le_pow_right (n := 2) (by omega) (show k ≤ 63 by omega)
  have h2 : ((2 : Int) ^ k) = ((2 ^ k : Nat) : Int) := by simp
  rw [Nc.wrap_u64, h2]
  generalize 2 ^ k = t at *
  omega
set_option maxHeartbeats 4000000 in
theorem rmay8_any (v : Value) (p : Po) (q : Int) (hq : mayP p = q) (hc : p.cats.length ≤ 1000) (hl : ∀ x ∈ p.cats, x.length ≤ 1000) (hml : p.marks.length ≤ 1000) (hpl : ∀ m ∈ p.marks, m.path.length ≤ 1000) (ht : p.token.length ≤ 1000000) (w : World) (hI : PolIn w v p) :
    Calls Tryz.prog 14 #[v] w fun e w' => e = .returned (.int .i64 q) ∧ Below w.heap.size w w' := by
  obtain ⟨a, n, c, b, m, d, tok, rfl, htok, hC, hM⟩ := hI
  obtain ⟨C, M, T, fu, qu⟩ := p
  simp only at *
  obtain ⟨e0, he0⟩ : ∃ e0, Cm.mayE C = e0 := ⟨_, rfl⟩
  have CM := fun W h => rmay_o a n c C hC.1 (by have := hC.1; omega) hl e0 he0 W h
  have hF := Five.new w (.slice a n c) (.slice b m d) (.string tok) (.int .i64 fu) (.int .i64 qu) 25
  have hB1 : Below w.heap.size w (w.alloc (.cells #[.slice a n c, .slice b m d, .string tok, .int .i64 fu, .int .i64 qu] 25)) := (Below.refl _ _).alloc (Nat.le_refl _) _
  have hC0 := hC.step hB1
  have hM0 := hM.step hB1
  unfold mayP at hq
  simp only at hq
  rw [he0] at hq
  have HQ := phide hq
  have HPL := phide hpl
  have hCn := hC.1
  have hMn := hM.1
  have HE0 := phide he0
  clear hq he0 hC hM hpl hl
  go_enter Tryz.func14, Tryz.ntmps14
  go_wp2_with fail
  refine (CM _ hC0).mono ?_
  rintro e w1 ⟨rfl, hw1⟩
  clear CM hC0
  generalize w.alloc (.cells #[.slice a n c, .slice b m d, .string tok, .int .i64 fu, .int .i64 qu] 25) = wz at *
  subst hw1
  obtain ⟨-, x0, x1, x2, x3, x4, -⟩ := id hF
  by_cases h0 : e0 = 0
  case neg =>
    have d1 : ((e0 : Int) == 0) = false := by simp [h0]
    have hq := punhide HQ
    rw [if_pos h0] at hq
    subst hq
    clear hM0
    go_wp2
    go_ret
    exact ⟨rfl, hB1⟩
  case pos =>
  subst h0
  obtain ⟨h64, -, -⟩ := may_zero (punhide HE0)
  by_cases h16 : 16 < M.length
  case pos =>
    have d1 : decide ((16 : Int) < (m : Int)) = true := decide_eq_true (by omega)
    have hq := punhide HQ
    rw [if_neg (by simp), if_pos h16] at hq
    subst hq
    clear hM0 h16 hMn
    go_wp2
    go_ret
    exact ⟨rfl, hB1⟩
  case neg =>
  have d1 : decide ((16 : Int) < (m : Int)) = false := decide_eq_false (by omega)
  have HQ2 : Hid ((if marksE n M ≠ 0 then marksE n M else if 24 < List.length T ∨ Lib.validD T = false ∨ fuelB fu = false ∨ fuelB qu = false then 22 else 0) = q) := phide (by
    have hq := punhide HQ
    rw [if_neg (by simp), if_neg h16, hCn] at hq
    exact hq)
  have hn64 : n ≤ 64 := by omega
  have HM := phide hM0
  have HX := phide hF
  clear HQ h16 HE0 hM0 hF h64
  go_upto_block 0 with fail
  go_cut [4, 5] from 19 to 29 (fun v4 v5 wx => v4 = .int .u64 ((2 ^ n - 1 : Nat) : Int) ∧ wx = w1)
  case first =>
    go_wp2_with fail
    go_loopw [4, 5] (fun v4 i wr => ∃ k : Nat, i = .int .i64 (k : Int) ∧ v4 = .int .u64 ((2 ^ k - 1 : Nat) : Int) ∧ k ≤ n ∧ wr = w1) (fun _ i _ => n - (intOf i).toNat)
    case atStart => exact ⟨0, rfl, rfl, Nat.zero_le _, rfl⟩
    case round =>
      obtain ⟨k, rfl, rfl, hk, rfl⟩ := hrel
      by_cases hlt : k < n
      · have d2 : decide ((k : Int) < (n : Int)) = true := decide_eq_true (by omega)
        have hsh := shl_is (k := k) (by omega)
        have hA := Nat.pow_le_pow_right (n := 2) (by omega) (show k ≤ 63 by omega)
        obtain ⟨A1, hA1⟩ : ∃ A1, ((2 ^ (k + 1) - 1 : Nat) : Int) = A1 := ⟨_, rfl⟩
        have hor : bits BinOp.or IntKind.u64 ((2 ^ k - 1 : Nat) : Int) ((2 ^ k : Nat) : Int) = A1 := by
          rw [← hA1, ← or_next k]
          exact u64_or_nat _ _ (by omega) (by omega)
        have HA1 := phide hA1
        clear hA1 hA
        generalize ((2 ^ k - 1 : Nat) : Int) = A0 at *
        generalize ((2 ^ k : Nat) : Int) = B0 at *
        go_wp2
        go_roundw
        case rel => exact ⟨k + 1, by go_num, by rw [← punhide HA1], hlt, trivial⟩
        case measure => simp [intOf]; omega
      · have hkn : k = n := by omega
        subst hkn
        go_wp2
        go_meet
        exact ⟨rfl, rfl⟩
  case rest =>
  obtain ⟨rfl, rfl⟩ := hcut
  obtain ⟨A, hA⟩ : ∃ A, 2 ^ n - 1 = A := ⟨_, rfl⟩
  rw [hA]
  have HA := phide hA
  have hAl : A < 18446744073709551616 := by
    have := Nat.pow_le_pow_right (n := 2) (by omega) hn64
    rw [← hA]; omega
  clear hA
  generalize hw1 : wc = w1 at *
  clear hw1
  go_wp2_with fail
  go_loopw [6] (fun i wr => ∃ k : Nat, i = .int .i64 (k : Int) ∧ k ≤ m ∧ Below w1.heap.size w1 wr ∧ Hid (marksE n (M.drop k) = marksE n M)) (fun i _ => m - (intOf i).toNat)
  case atStart => exact ⟨0, rfl, Nat.zero_le _, Below.refl _ _, phide rfl⟩
  case round =>
    obtain ⟨k, rfl, hk, hBr, hE⟩ := hrel
    have hsz := (punhide HX).lt
    have e0 := (hBr.cell (p := ⟨w.heap.size, 0, none⟩) hsz).trans x0
    have e1 := (hBr.cell (p := ⟨w.heap.size, 1, none⟩) hsz).trans x1
    have e2 := (hBr.cell (p := ⟨w.heap.size, 2, none⟩) hsz).trans x2
    have e3 := (hBr.cell (p := ⟨w.heap.size, 3, none⟩) hsz).trans x3
    have e4 := (hBr.cell (p := ⟨w.heap.size, 4, none⟩) hsz).trans x4
    clear x0 x1 x2 x3 x4 hsz
    by_cases hlt : k < m
    case pos =>
      obtain ⟨g, o, rfl, hg, hrow⟩ := (punhide HM).2.resolve_left (by omega)
      obtain ⟨hmk, pa, pn, pc, c0, c1, hst⟩ := hrow k (by omega)
      obtain ⟨mk, hmke⟩ : ∃ mk, M[k]'(by omega) = mk := ⟨_, rfl⟩
      rw [hmke] at hmk c1 hst
      have f0 := (hBr.cell (p := ⟨g, o + k * 2, none⟩) hg).trans c0
      have f1 := (hBr.cell (p := ⟨g, o + k * 2 + 1, none⟩) hg).trans c1
      obtain ⟨qm, hqm⟩ : ∃ qm, marksE n [mk] = qm := ⟨_, rfl⟩
      have hpn : pn ≤ 1000 := by rw [← hst.1, ← hmke]; exact punhide HPL _ (List.getElem_mem _)
      have hd := marks_drop n M k (by omega)
      rw [hmke, hqm] at hd
      have HD := phide hd
      obtain ⟨L, mm⟩ := mk
      simp only at hmk c1 hst f1
      obtain ⟨q0, hq0⟩ : ∃ q0, Np.mayE L = q0 := ⟨_, rfl⟩
      have CP := fun W hs => Np.rmay_any pa pn pc L q0 hq0 hpn W hs
      obtain ⟨b0, hb0⟩ : ∃ b0, Cm.subB mm A = b0 := ⟨_, rfl⟩
      have CW := fun W => Nc.rwithin_any mm A hmk hAl W
      rw [hb0] at CW
      unfold marksE at hqm
      rw [hq0, punhide HA, hb0] at hqm
      simp only [marksE] at hqm
      have HQM := phide hqm
      have hBa : Below w1.heap.size w1 (wr.alloc (.cells #[.slice pa pn pc, .int .u64 (mm : Int)] 59)) := hBr.alloc hBr.size _
      have t0 := Two.new wr (.slice pa pn pc) (.int .u64 (mm : Int)) 59
      have hsa := hst.step hBa
      have HBA := phide hBa
      have hza : w1.heap.size ≤ (wr.alloc (.cells #[.slice pa pn pc, .int .u64 (mm : Int)] 59)).heap.size := hBa.size
      clear hd c0 c1 hst hrow hqm hmke hBa hq0 hb0
      go_wp2_with fail
      refine (CP _ hsa).mono ?_
      rintro e w3 ⟨rfl, b3⟩
      have hB3 := (punhide HBA).trans (b3.mono hza)
      obtain ⟨-, z0, z1, -, -, -⟩ := t0.step b3
      clear CP b3 hsa HBA hza t0
      by_cases h00 : q0 = 0
      case neg =>
        have d2 : (q0 == 0) = false := by simp [h00]
        have hE2 : q0 = q := by
          have h1 : qm = q0 := by have := punhide HQM; rw [if_pos h00] at this; exact this.symm
          have h2 : marksE n M = q0 := by rw [← punhide hE, punhide HD, h1, if_neg h00]
          rw [← punhide HQ2, h2, if_pos h00]
        subst hE2
        go_wp2
        go_ret
        exact ⟨rfl, hB1.trans (hB3.mono hB1.size)⟩
      case pos =>
      subst h00
      by_cases hm0 : mm = 0
      case pos =>
        have d2 : ((mm : Int) == 0) = true := by rw [beq_iff_eq]; omega
        have hE2 : (22 : Int) = q := by
          have h1 : qm = 22 := by have := punhide HQM; rw [if_neg (by simp), if_pos (.inl hm0)] at this; exact this.symm
          have h2 : marksE n M = 22 := by rw [← punhide hE, punhide HD, h1, if_neg (by decide)]
          rw [← punhide HQ2, h2, if_pos (by decide)]
        subst hE2
        clear hm0
        go_wp2
        go_ret
        exact ⟨rfl, hB1.trans (hB3.mono hB1.size)⟩
      case neg =>
      have d2 : ((mm : Int) == 0) = false := by rw [beq_eq_false_iff_ne]; omega
      cases b0
      · have hE2 : (22 : Int) = q := by
          have h1 : qm = 22 := by have := punhide HQM; rw [if_neg (by simp), if_pos (.inr rfl)] at this; exact this.symm
          have h2 : marksE n M = 22 := by rw [← punhide hE, punhide HD, h1, if_neg (by decide)]
          rw [← punhide HQ2, h2, if_pos (by decide)]
        subst hE2
        clear hm0
        go_wp2_with (go_at_call 39; refine (CW _).mono ?_; rintro e w4 ⟨rfl, rfl⟩)
        go_ret
        exact ⟨rfl, hB1.trans (hB3.mono hB1.size)⟩
      · have hE2 : Hid (marksE n (M.drop (k + 1)) = marksE n M) := phide (by
          have h1 : qm = 0 := by have := punhide HQM; rw [if_neg (by simp), if_neg (by intro h; rcases h with h | h; exact hm0 h; cases h)] at this; exact this.symm
          rw [← punhide hE, punhide HD, h1, if_pos rfl])
        clear hm0
        go_wp2_with (go_at_call 39; refine (CW _).mono ?_; rintro e w4 ⟨rfl, rfl⟩)
        go_roundw
        case rel => exact ⟨k + 1, by go_num, hlt, hB3, hE2⟩
        case measure => simp [intOf]; omega
    case neg =>
      have hkm : k = m := by omega
      have hE0 : marksE n M = 0 := by rw [← punhide hE, hkm, List.drop_of_length_le (by omega)]; rfl
      have hq := punhide HQ2
      rw [if_neg (by rw [hE0]; simp)] at hq
      have htl : T.length = tok.size := by rw [← htok, len_size]
      have htk : tok.size ≤ 1000000 := by omega
      rw [htl] at hq
      obtain ⟨v1, hv1⟩ : ∃ v1, Lib.validD T = v1 := ⟨_, rfl⟩
      obtain ⟨v2, hv2⟩ : ∃ v2, fuelB fu = v2 := ⟨_, rfl⟩
      obtain ⟨v3, hv3⟩ : ∃ v3, fuelB qu = v3 := ⟨_, rfl⟩
      have CV := fun W => ref_valid tok (by omega) v1 (by rw [htok]; exact hv1) W
      have C2 := fun W => rfuel_any fu v2 hv2 W
      have C3 := fun W => rfuel_any qu v3 hv3 W
      rw [hv1, hv2, hv3] at hq
      have hB := hB1.trans (hBr.mono hB1.size)
      have hBs := hB.size
      have hsz := Nat.lt_of_lt_of_le (punhide HX).lt hBr.size
      have HQ3 := phide hq
      clear hq hE0 hkm hE hk htok hv1 hv2 hv3 htl
      by_cases h24 : 24 < tok.size
      case pos =>
        have d2 : decide ((24 : Int) < (tok.size : Int)) = true := decide_eq_true (by omega)
        have hq := punhide HQ3
        rw [if_pos (.inl h24)] at hq
        subst hq
        clear h24 hB1 hBr
        go_wp2
        go_ret
        exact ⟨rfl, hB⟩
      case neg =>
        have d2 : decide ((24 : Int) < (tok.size : Int)) = false := decide_eq_false (by omega)
        have hq := punhide HQ3
        clear hB1 hBr HQ3
        cases v1 with
        | false =>
          rw [if_pos (.inr (.inl rfl))] at hq
          subst hq
          clear h24
          go_wp2_with (go_at_call 40; refine (CV _).mono ?_; rintro e w4 ⟨rfl, rfl⟩)
          go_ret
          exact ⟨rfl, hB⟩
        | true =>
          have h2 : ¬ (24 < tok.size ∨ true = false ∨ v2 = false ∨ v3 = false) ↔ (v2 = true ∧ v3 = true) := by
            cases v2 <;> cases v3 <;> simp [h24]
          cases v2 with
          | false =>
            rw [if_pos (.inr (.inr (.inl rfl)))] at hq
            subst hq
            clear h24 h2
            go_wp2_with (first | (go_at_call 40; refine (CV _).mono ?_; rintro e w4 ⟨rfl, rfl⟩) | (go_at_call_of 41 (Value.int IntKind.i64 fu); refine (C2 _).mono ?_; rintro e w5 ⟨rfl, rfl⟩))
            go_ret
            exact ⟨rfl, hB⟩
          | true =>
            cases v3 with
            | false =>
              rw [if_pos (.inr (.inr (.inr rfl)))] at hq
              subst hq
              clear h24 h2
              go_wp2_with (first | (go_at_call 40; refine (CV _).mono ?_; rintro e w4 ⟨rfl, rfl⟩) | (go_at_call_of 41 (Value.int IntKind.i64 fu); refine (C2 _).mono ?_; rintro e w5 ⟨rfl, rfl⟩) | (go_at_call_of 41 (Value.int IntKind.i64 qu); refine (C3 _).mono ?_; rintro e w5 ⟨rfl, rfl⟩))
              go_ret
              exact ⟨rfl, hB⟩
            | true =>
              rw [if_neg (h2.2 ⟨rfl, rfl⟩)] at hq
              subst hq
              clear h24 h2
              go_wp2_with (first | (go_at_call 40; refine (CV _).mono ?_; rintro e w4 ⟨rfl, rfl⟩) | (go_at_call_of 41 (Value.int IntKind.i64 fu); refine (C2 _).mono ?_; rintro e w5 ⟨rfl, rfl⟩) | (go_at_call_of 41 (Value.int IntKind.i64 qu); refine (C3 _).mono ?_; rintro e w5 ⟨rfl, rfl⟩))
              go_ret
              exact ⟨rfl, hB⟩
end Go.Proofs.YtnagecbepidfiaaGreatDoor.Pol
/- What is proved here: Match of package path of any two rows of steps, empty ones too; what MaskAt of package policy answers, walked; conditions: the rows, the policy lie. -/
namespace Go.Proofs.YtnagecbepidfiaaGreatDoor.Pol
set_option maxRecDepth 100000
open Go.RowKit Go.Proofs.YtnagecbepidfiaaGreatDoor.Nc Go.Proofs.YtnagecbepidfiaaGreatDoor.Np Go.Proofs.YtnagecbepidfiaaGreatDoor.Nq
set_option linter.unusedVariables false
set_option linter.unusedSimpArgs false

set_option maxRecDepth 100000 in
set_option maxHeartbeats 8000000 in
theorem match_o (la : Option Addr) (lc : Nat) (aa : Option Addr) (ac n m : Nat) (l a : List Pm.St) (hn2 : n ≤ 1000) (hm2 : m ≤ 1000) (q : Bool) (hq : Pm.mt l a = q) (w : World) (hrl : Np.StepsIn w la n l) (hra : Np.StepsIn w aa m a) :
    Calls Tryz.prog 64 #[.slice la n lc, .slice aa m ac] w fun e w' => e = .returned (.bool q) ∧ Below w.heap.size w w' := by
  have hn := hrl.1
  have hm := hra.1
  have HQ := phide hq
  obtain ⟨lb, lo, hla0, hL0⟩ : ∃ lb lo, (n = 0 ∨ la = some ⟨lb, lo, none⟩) ∧ ∀ W, Below w.heap.size w W → ∀ i, ∀ h : i < l.length, Np.StepAt W lb (lo + i * 3) (l[i]'h) := by
    rcases hrl.2 with h0 | ⟨b, o, e, r⟩
    · exact ⟨0, 0, .inl h0, fun W hB i h => absurd h (by omega)⟩
    · exact ⟨b, o, .inr e, fun W hB => (r.step hB).2⟩
  obtain ⟨ab, ao, haa0, hA0⟩ : ∃ ab ao, (m = 0 ∨ aa = some ⟨ab, ao, none⟩) ∧ ∀ W, Below w.heap.size w W → ∀ i, ∀ h : i < a.length, Np.StepAt W ab (ao + i * 3) (a[i]'h) := by
    rcases hra.2 with h0 | ⟨b, o, e, r⟩
    · exact ⟨0, 0, .inl h0, fun W hB i h => absurd h (by omega)⟩
    · exact ⟨b, o, .inr e, fun W hB => (r.step hB).2⟩
  have HL := phide hL0
  have HA := phide hA0
  have hla := phide hla0
  have haa := phide haa0
  clear hq hrl hra hL0 hA0 hla0 haa0
  go_enter Tryz.func64, Tryz.ntmps64
  go_wp2
  go_loopw [5, 6, 7, 8] (fun vi vj vd ve wr => ∃ i j d e : Nat, vi = .int .i64 (i : Int) ∧ vj = .int .i64 (j : Int) ∧ vd = .int .i64 (d : Int) ∧ ve = .int .i64 (e : Int) ∧ Hid (Pm.Inv l a i j d e) ∧ Below w.heap.size w wr) (fun _ vj vd ve _ => Pm.left n m (intOf vd).toNat (intOf ve).toNat (intOf vj).toNat)
  case atStart => exact ⟨0, 0, 0, 0, rfl, rfl, rfl, rfl, phide (Pm.Inv.start l a), Below.refl _ _⟩
  case round =>
    obtain ⟨i, j, d, e, rfl, rfl, rfl, rfl, HI, hB⟩ := hrel
    have hil : i ≤ n := by have := (punhide HI).1; omega
    have hjm : j ≤ m := by have := (punhide HI).2.1; omega
    have hdi : d ≤ i := by
      by_cases h0 : d = 0
      · omega
      · exact ((punhide HI).2.2.2 (by omega)).1
    have hej : e ≤ j := by
      by_cases h0 : d = 0
      · have := ((punhide HI).2.2.1 h0).1; omega
      · exact ((punhide HI).2.2.2 (by omega)).2.1
    by_cases hj : j < m
    · have hja : j < a.length := by omega
      obtain rfl := (punhide haa).resolve_left (by omega)
      by_cases hi : i < n
      · have hia : i < l.length := by omega
        obtain rfl := (punhide hla).resolve_left (by omega)
        obtain ⟨c0, c1, c2⟩ := punhide HL _ hB i hia
        obtain ⟨x0, x1, x2⟩ := punhide HA _ hB j hja
        by_cases h5 : (l[i]'hia).k = 5
        · have HI2 := phide ((punhide HI).deep hia h5)
          have hmeas := Pm.left_deep (L := n) (N := m) hdi hi hej
          rw [h5] at c0
          clear c1 c2 x0 x1 x2 h5 hil hjm hej hn hm
          go_wp2
          go_roundw
          case rel => exact ⟨i + 1, j, i + 1, j, by go_num, rfl, by go_num, rfl, HI2, hB⟩
          case measure => simp [intOf]; (first | exact hmeas | (have e1 : ((i : Int) + 1).toNat = i + 1 := by omega; simpa [e1] using hmeas))
        · obtain ⟨t, ht⟩ : ∃ t, l[i]'hia = t := ⟨_, rfl⟩
          obtain ⟨x, hx⟩ : ∃ x, a[j]'hja = x := ⟨_, rfl⟩
          have HY : Hid (Pm.leadB t x = true → Pm.Inv l a (i + 1) (j + 1) d e) := phide (fun h => (punhide HI).yes hia hja h5 (by rw [ht, hx]; exact h))
          have HN : Hid (Pm.leadB t x = false → (d = 0 → q = false) ∧ (0 < d → Pm.Inv l a d (e + 1) d (e + 1))) := phide (fun h => by
            have := (punhide HI).no hja (by rw [Pm.R_yes hia hja h5, ht, hx, h]; rfl)
            rwa [punhide HQ] at this)
          rw [ht] at c0 c1 c2 h5
          rw [hx] at x0 x1 x2
          have d5 : (t.k == 5) = false := beq_eq_false_iff_ne.2 h5
          have hmy := Pm.left_yes (L := n) (d := d) (e := e) hj
          have hmn := Pm.left_no (L := n) (N := m) (d := d) (e := e) (j := j) (show e < m by omega)
          have HC : Hid (∀ W, Below w.heap.size w W → (W.cell? ⟨lb, lo + i * 3, none⟩ = some (.int .i64 t.k) ∧ W.cell? ⟨lb, lo + i * 3 + 1, none⟩ = some (.string t.s) ∧ W.cell? ⟨lb, lo + i * 3 + 2, none⟩ = some (.int .i64 t.n)) ∧ (W.cell? ⟨ab, ao + j * 3, none⟩ = some (.int .i64 x.k) ∧ W.cell? ⟨ab, ao + j * 3 + 1, none⟩ = some (.string x.s) ∧ W.cell? ⟨ab, ao + j * 3 + 2, none⟩ = some (.int .i64 x.n))) :=
            phide (fun W hB => by
              have k1 := punhide HL W hB i hia
              have k2 := punhide HA W hB j hja
              rw [ht] at k1
              rw [hx] at k2
              exact ⟨k1, k2⟩)
          have hS : Below w.heap.size w wr.drew := hB.drew
          have hi' : (i : Int) < (n : Int) := by omega
          have hj' : (j : Int) < (m : Int) := by omega
          obtain ⟨y, hy⟩ : ∃ y, Pm.leadB t x = y := ⟨_, rfl⟩
          rw [hy] at HY HN
          clear hn hm ht hx hia hja HL HA HQ HI c1 c2 x0 x1 x2 h5
          go_wp2_with fail
          go_cut [30] from 9 to 57 (fun v wx => v = .bool y ∧ Below w.heap.size w wx)
          case first =>
            clear HY HN hmy hmn
            by_cases h12 : t.k = 1 ∨ t.k = 2
            · obtain ⟨u, hu⟩ : ∃ u, Pm.bareS t = u := ⟨_, rfl⟩
              have CL := fun W => leads_1 t u h12 hu W
              have CW : ∀ g W, StepAt W g 0 u → g < W.heap.size → _ := fun g W h1 h2 => want_any t u x g y (by rw [← hy, ← hu]; unfold Pm.leadB; rw [if_pos h12]) W h1 h2
              obtain ⟨tk, ts, tn⟩ := t
              obtain ⟨xk, xs, xn⟩ := x
              unfold valS at *
              simp only [] at *
              clear hy hu h12 hi hj
              go_region_held3 (fun w' => (w'.cell? ⟨lb, lo + i * 3, none⟩ = some (.int .i64 tk) ∧ w'.cell? ⟨lb, lo + i * 3 + 1, none⟩ = some (.string ts) ∧ w'.cell? ⟨lb, lo + i * 3 + 2, none⟩ = some (.int .i64 tn)) ∧ (w'.cell? ⟨ab, ao + j * 3, none⟩ = some (.int .i64 xk) ∧ w'.cell? ⟨ab, ao + j * 3 + 1, none⟩ = some (.string xs) ∧ w'.cell? ⟨ab, ao + j * 3 + 2, none⟩ = some (.int .i64 xn))) (exact punhide HC _ hS)
                (first | (go_at_call 94; refine (CL _).mono ?_; rintro e9 w2 ⟨g9, rfl, b9, hg9, hs9⟩; replace hS := hS.trans (b9.mono hS.size); clear b9) | (go_at_call 121; refine (CW _ _ hs9 hg9).mono ?_; rintro e9 w3 ⟨rfl, b9⟩; replace hS := hS.trans (b9.mono hS.size); clear b9))
              all_goals
                go_wp2_with fail
                go_meet
                exact ⟨rfl, hS⟩
            by_cases h3 : t.k = 3
            · have CL := fun W => leads_3 t h3 W
              have CW := fun W => kind1_any x y (by rw [← hy]; unfold Pm.leadB; rw [if_neg h12, if_pos h3]) W
              obtain ⟨tk, ts, tn⟩ := t
              obtain ⟨xk, xs, xn⟩ := x
              unfold valS at *
              simp only [] at *
              clear hy h12 hi hj h3
              go_region_held3 (fun w' => (w'.cell? ⟨lb, lo + i * 3, none⟩ = some (.int .i64 tk) ∧ w'.cell? ⟨lb, lo + i * 3 + 1, none⟩ = some (.string ts) ∧ w'.cell? ⟨lb, lo + i * 3 + 2, none⟩ = some (.int .i64 tn)) ∧ (w'.cell? ⟨ab, ao + j * 3, none⟩ = some (.int .i64 xk) ∧ w'.cell? ⟨ab, ao + j * 3 + 1, none⟩ = some (.string xs) ∧ w'.cell? ⟨ab, ao + j * 3 + 2, none⟩ = some (.int .i64 xn))) (exact punhide HC _ hS)
                (first | (go_at_call 94; refine (CL _).mono ?_; rintro e9 w2 ⟨rfl, b9⟩; replace hS := hS.trans (b9.mono hS.size); clear b9) | (go_at_call 122; refine (CW _).mono ?_; rintro e9 w3 ⟨rfl, b9⟩; replace hS := hS.trans (b9.mono hS.size); clear b9))
              all_goals
                go_wp2_with fail
                go_meet
                exact ⟨rfl, hS⟩
            by_cases h4 : t.k = 4
            · have CL := fun W => leads_4 t h4 W
              have CW := fun W => kind2_any x y (by rw [← hy]; unfold Pm.leadB; rw [if_neg h12, if_neg h3, if_pos h4]) W
              obtain ⟨tk, ts, tn⟩ := t
              obtain ⟨xk, xs, xn⟩ := x
              unfold valS at *
              simp only [] at *
              clear hy h12 hi hj h3 h4
              go_region_held3 (fun w' => (w'.cell? ⟨lb, lo + i * 3, none⟩ = some (.int .i64 tk) ∧ w'.cell? ⟨lb, lo + i * 3 + 1, none⟩ = some (.string ts) ∧ w'.cell? ⟨lb, lo + i * 3 + 2, none⟩ = some (.int .i64 tn)) ∧ (w'.cell? ⟨ab, ao + j * 3, none⟩ = some (.int .i64 xk) ∧ w'.cell? ⟨ab, ao + j * 3 + 1, none⟩ = some (.string xs) ∧ w'.cell? ⟨ab, ao + j * 3 + 2, none⟩ = some (.int .i64 xn))) (exact punhide HC _ hS)
                (first | (go_at_call 94; refine (CL _).mono ?_; rintro e9 w2 ⟨rfl, b9⟩; replace hS := hS.trans (b9.mono hS.size); clear b9) | (go_at_call 123; refine (CW _).mono ?_; rintro e9 w3 ⟨rfl, b9⟩; replace hS := hS.trans (b9.mono hS.size); clear b9))
              all_goals
                go_wp2_with fail
                go_meet
                exact ⟨rfl, hS⟩
            obtain rfl : y = false := by rw [← hy]; unfold Pm.leadB; rw [if_neg h12, if_neg h3, if_neg h4]
            have CL := fun W => leads_0 t (fun h => h12 (.inl h)) (fun h => h12 (.inr h)) h3 h4 W
            have CW := fun W => none_any x W
            obtain ⟨tk, ts, tn⟩ := t
            obtain ⟨xk, xs, xn⟩ := x
            unfold valS at *
            simp only [] at *
            clear hy h12 hi hj h3 h4
            go_region_held3 (fun w' => (w'.cell? ⟨lb, lo + i * 3, none⟩ = some (.int .i64 tk) ∧ w'.cell? ⟨lb, lo + i * 3 + 1, none⟩ = some (.string ts) ∧ w'.cell? ⟨lb, lo + i * 3 + 2, none⟩ = some (.int .i64 tn)) ∧ (w'.cell? ⟨ab, ao + j * 3, none⟩ = some (.int .i64 xk) ∧ w'.cell? ⟨ab, ao + j * 3 + 1, none⟩ = some (.string xs) ∧ w'.cell? ⟨ab, ao + j * 3 + 2, none⟩ = some (.int .i64 xn))) (exact punhide HC _ hS)
              (first | (go_at_call 94; refine (CL _).mono ?_; rintro e9 w2 ⟨rfl, b9⟩; replace hS := hS.trans (b9.mono hS.size); clear b9) | (go_at_call 124; refine (CW _).mono ?_; rintro e9 w3 ⟨rfl, b9⟩; replace hS := hS.trans (b9.mono hS.size); clear b9))
            all_goals
              go_wp2_with fail
              go_meet
              exact ⟨rfl, hS⟩
          case rest =>
            replace hS := hcut.2
            obtain rfl := hcut.1
            clear HC c0 d5 hy hi' hj'
            cases y
            · have HN2 := phide (punhide HN rfl)
              clear HY HN hmy
              by_cases hd0 : d = 0
              · have HF := phide ((punhide HN2).1 hd0)
                subst hd0
                clear HN2
                go_wp2
                go_ret
                exact ⟨by rw [punhide HF]; rfl, hS⟩
              · have HF := phide ((punhide HN2).2 (by omega))
                have hd1 : decide (0 < (d : Int)) = true := decide_eq_true (by omega)
                clear HN2
                go_wp2
                go_roundw
                case rel => exact ⟨d, e + 1, d, e + 1, rfl, by go_num, rfl, by go_num, HF, hS⟩
                case measure => simp [intOf]; (first | exact hmn | (have e1 : ((e : Int) + 1).toNat = e + 1 := by omega; simpa [e1] using hmn))
            · have HY2 := phide (punhide HY rfl)
              clear HY HN hmn
              go_wp2
              go_roundw
              case rel => exact ⟨i + 1, j + 1, d, e, by go_num, by go_num, rfl, rfl, HY2, hS⟩
              case measure => simp [intOf]; (first | exact hmy | (have e1 : ((j : Int) + 1).toNat = j + 1 := by omega; simpa [e1] using hmy))
      · have HN2 : Hid ((d = 0 → q = false) ∧ (0 < d → Pm.Inv l a d (e + 1) d (e + 1))) := phide (by
          have := (punhide HI).no hja (Pm.R_no hja (by omega) (fun h => absurd h (by omega)))
          rwa [punhide HQ] at this)
        have di : decide ((i : Int) < (n : Int)) = false := decide_eq_false (by omega)
        have hmn := Pm.left_no (L := n) (N := m) (d := d) (e := e) (j := j) (show e < m by omega)
        have hS : ∀ k, Below w.heap.size w (wr.drewN k) := fun k => hB.trans ⟨rfl, rfl, rfl, Nat.le_refl _, fun _ _ => rfl⟩
        clear hn hm hja HL HA HQ HI
        by_cases hd0 : d = 0
        · have HF := phide ((punhide HN2).1 hd0)
          subst hd0
          clear HN2
          go_wp2_with fail
          go_quiet (fail)
          all_goals
            go_wp2
            go_ret
            exact ⟨by rw [punhide HF]; rfl, hS _⟩
        · have HF := phide ((punhide HN2).2 (by omega))
          have hd1 : decide (0 < (d : Int)) = true := decide_eq_true (by omega)
          clear HN2
          go_wp2_with fail
          go_quiet (fail)
          all_goals
            go_wp2
            go_roundw
            case rel => exact ⟨d, e + 1, d, e + 1, rfl, by go_num, rfl, by go_num, HF, hS _⟩
            case measure => simp [intOf]; (first | exact hmn | (have e1 : ((e : Int) + 1).toNat = e + 1 := by omega; simpa [e1] using hmn))
    · have hjm2 : j = m := by omega
      have HR : Hid (Pm.R l a i a.length = q) := phide (by
        have h := punhide HI
        rw [show j = a.length by omega] at h
        rw [← h.last]; exact punhide HQ)
      have dj : decide ((j : Int) < (m : Int)) = false := decide_eq_false (by omega)
      clear HA HQ HI hdi hej
      go_wp2
      go_loop [5] (fun vi => ∃ i : Nat, i ≤ n ∧ vi = .int .i64 (i : Int) ∧ Hid (Pm.R l a i a.length = q)) (fun vi => n - (intOf vi).toNat)
      case atStart => exact ⟨i, hil, rfl, HR⟩
      case round =>
        clear HR hil dj
        obtain ⟨k, hk, rfl, HR⟩ := hrel
        by_cases hlt : k < n
        · have hkl : k < l.length := by omega
          obtain rfl := (punhide hla).resolve_left (by omega)
          obtain ⟨c0, c1, c2⟩ := punhide HL _ hB k hkl
          by_cases h5 : (l[k]'hkl).k = 5
          · have HR2 := phide ((Pm.R_last hkl h5).symm.trans (punhide HR))
            rw [h5] at c0
            clear c1 c2 h5 HR hn hm
            go_wp2
            go_round
            case rel => exact ⟨k + 1, by omega, by go_num, HR2⟩
            case measure => simp [intOf]; omega
          · have HF := phide ((Pm.R_none (a := a) hkl h5).symm.trans (punhide HR))
            obtain ⟨z, hz⟩ : ∃ z, (l[k]'hkl).k = z := ⟨_, rfl⟩
            rw [hz] at c0 h5
            have d5 : (z == 5) = false := beq_eq_false_iff_ne.2 h5
            have dk : ((k : Int) == (n : Int)) = false := beq_eq_false_iff_ne.2 (by omega)
            clear c1 c2 h5 HR hn hm hz
            go_wp2
            go_ret
            exact ⟨by rw [← punhide HF]; rfl, hB⟩
        · have hkn : k = n := by omega
          have HF : Hid (true = q) := phide (by have h := punhide HR; rw [hkn, ← hn, Pm.R_end] at h; exact h)
          have dk : decide ((k : Int) < (n : Int)) = false := decide_eq_false (by omega)
          have dk2 : ((k : Int) == (n : Int)) = true := beq_iff_eq.2 (by omega)
          clear HR hn hm hkn HL
          go_wp2
          go_ret
          exact ⟨by rw [← punhide HF]; rfl, hB⟩

end Go.Proofs.YtnagecbepidfiaaGreatDoor.Pol
/- What is proved here: what MaskAt of package policy answers, walked; conditions: the policy and the place lie. -/
namespace Go.Proofs.YtnagecbepidfiaaGreatDoor.Pol
set_option maxRecDepth 100000
open Go.RowKit Go.Proofs.YtnagecbepidfiaaGreatDoor.Nc Go.Proofs.YtnagecbepidfiaaGreatDoor.Np Go.Proofs.YtnagecbepidfiaaGreatDoor.Nq
set_option linter.unusedVariables false
set_option linter.unusedSimpArgs false

/-- The masks of all marks that lead to a place, together. -/
def maskL (a : List Pm.St) : List Mk → Nat
  | [] => 0
  | k :: r => (if Pm.mt k.path a then k.mask else 0) ||| maskL a r
theorem maskL_app (a : List Pm.St) (k l : List Mk) : maskL a (k ++ l) = maskL a k ||| maskL a l := by
  induction k with
  | nil => simp [maskL]
  | cons x r ih => rw [List.cons_append, maskL, maskL, ih, Nat.or_assoc]
theorem maskL_lt {a : List Pm.St} {l : List Mk} (h : ∀ m ∈ l, m.mask < 18446744073709551616) : maskL a l < 18446744073709551616 := by
  induction l with
  | nil => show 0 < _; decide
  | cons x r ih =>
    refine Nat.or_lt_two_pow (n := 64) ?_ (ih (fun m hm => h m (by simp [hm])))
    split
    · exact h x (by simp)
    · decide
theorem maskL_next {a : List Pm.St} {l : List Mk} {k : Nat} (h : k < l.length) : maskL a (l.take (k + 1)) = maskL a (l.take k) ||| (if Pm.mt (l[k]'h).path a then (l[k]'h).mask else 0) := by
  rw [List.take_succ_eq_append_getElem h, maskL_app]
  simp [maskL]
theorem MarksIn.lt {w : World} {a : Option Addr} {n : Nat} {ms : List Mk} (h : MarksIn w a n ms) : ∀ m ∈ ms, m.mask < 18446744073709551616 := by
  intro m hm
  obtain ⟨i, hi, rfl⟩ := List.getElem_of_mem hm
  have h1 := h.1
  obtain ⟨g, o, _, _, r⟩ := h.2.resolve_left (by omega)
  exact (r i hi).1
set_option maxHeartbeats 4000000 in
theorem maskAt_any (v : Value) (p : Po) (aa : Option Addr) (ac m9 : Nat) (at9 : List Pm.St) (hm9 : m9 ≤ 1000) (hml : p.marks.length ≤ 1000) (hpl : ∀ m ∈ p.marks, m.path.length ≤ 1000) (q : Nat) (hq : maskL at9 p.marks = q) (w : World) (hI : PolIn w v p) (ha : Np.StepsIn w aa m9 at9) :
    Calls Tryz.prog 23 #[v, .slice aa m9 ac] w fun e w' => e = .returned (.int .u64 (q : Int)) ∧ Below w.heap.size w w' := by
  obtain ⟨a, n, c, b, m, d, tok, rfl, htok, hC, hM⟩ := hI
  obtain ⟨C, M, T, fu, qu⟩ := p
  simp only at *
  have hB1 : Below w.heap.size w (w.alloc (.cells #[.slice a n c, .slice b m d, .string tok, .int .i64 fu, .int .i64 qu] 25)) := (Below.refl _ _).alloc (Nat.le_refl _) _
  have hF := Five.new w (.slice a n c) (.slice b m d) (.string tok) (.int .i64 fu) (.int .i64 qu) 25
  have hM0 := hM.step hB1
  have ha0 := ha.step hB1
  have hMn := hM.1
  have HLT := phide hM.lt
  have HQ := phide hq
  have HPL := phide hpl
  clear hC hM ha htok hq hpl
  go_enter Tryz.func23, Tryz.ntmps23
  go_upto_region 2 with fail
  generalize w.alloc (.cells #[.slice a n c, .slice b m d, .string tok, .int .i64 fu, .int .i64 qu] 25) = w1 at *
  obtain ⟨-, x0, x1, x2, x3, x4, -⟩ := id hF
  have HM := phide hM0
  have HA := phide ha0
  clear hM0 ha0
  go_wp2_with fail
  go_loopw [5, 11] (fun v5 i wr => ∃ (k A : Nat), i = .int .i64 (k : Int) ∧ v5 = .int .u64 (A : Int) ∧ k ≤ m ∧ Hid (maskL at9 (M.take k) = A) ∧ Below w1.heap.size w1 wr) (fun _ i _ => m - (intOf i).toNat)
  case atStart => exact ⟨0, 0, rfl, rfl, Nat.zero_le _, phide rfl, Below.refl _ _⟩
  case round =>
    obtain ⟨k, A, rfl, rfl, hk, HK, hBr⟩ := hrel
    by_cases hlt : k < m
    case pos =>
      obtain ⟨g, o, rfl, hg, hrow⟩ := (punhide HM).2.resolve_left (by omega)
      obtain ⟨hmk, pa, pn, pc, c0, c1, hst⟩ := hrow k (by omega)
      have hnx := maskL_next (a := at9) (l := M) (k := k) (by omega)
      obtain ⟨mk, hmke⟩ : ∃ mk, M[k]'(by omega) = mk := ⟨_, rfl⟩
      rw [hmke] at hmk c1 hst hnx
      have hpn : pn ≤ 1000 := by rw [← hst.1, ← hmke]; exact punhide HPL _ (List.getElem_mem _)
      have f0 := (hBr.cell (p := ⟨g, o + k * 2, none⟩) hg).trans c0
      have f1 := (hBr.cell (p := ⟨g, o + k * 2 + 1, none⟩) hg).trans c1
      obtain ⟨y, hy⟩ : ∃ y, Pm.mt mk.path at9 = y := ⟨_, rfl⟩
      rw [hy, punhide HK] at hnx
      have CM := fun W h1 h2 => match_o pa pc aa ac pn m9 mk.path at9 hpn hm9 y hy W h1 h2
      have hAl : A < 18446744073709551616 := by rw [← punhide HK]; exact maskL_lt (fun x hx => punhide HLT x (List.mem_of_mem_take hx))
      have hBa := hBr.alloc hBr.size (.cells #[.slice pa pn pc, .int .u64 (mk.mask : Int)] 59)
      have t0 := Two.new wr (.slice pa pn pc) (.int .u64 (mk.mask : Int)) 59
      have hsa := hst.step hBa
      have haa := (punhide HA).step hBa
      have HBA := phide hBa
      have hza := hBa.size
      have HNX := phide hnx
      clear c0 c1 hst hrow hmke hBa hy hnx hBr
      go_wp2_with fail
      refine (CM _ hsa haa).mono ?_
      rintro e w3 ⟨rfl, b3⟩
      have hB3 := (punhide HBA).trans (b3.mono hza)
      obtain ⟨-, z0, z1, -, -, -⟩ := t0.step b3
      clear CM b3 hsa haa HBA hza t0
      cases y
      · have HK2 : Hid (maskL at9 (M.take (k + 1)) = A) := phide (by have := punhide HNX; simpa using this)
        go_wp2
        go_roundw
        case rel => exact ⟨k + 1, A, by go_num, rfl, hlt, HK2, hB3⟩
        case measure => simp [intOf]; omega
      · obtain ⟨A2, hA2⟩ : ∃ A2, A ||| mk.mask = A2 := ⟨_, rfl⟩
        have HK2 : Hid (maskL at9 (M.take (k + 1)) = A2) := phide (by have := punhide HNX; rw [← hA2]; simpa using this)
        have hor : bits BinOp.or IntKind.u64 (A : Int) (mk.mask : Int) = (A2 : Int) := by rw [← hA2]; exact u64_or_nat _ _ hAl hmk
        clear hA2
        go_wp2
        go_roundw
        case rel => exact ⟨k + 1, A2, by go_num, rfl, hlt, HK2, hB3⟩
        case measure => simp [intOf]; omega
    case neg =>
      have hA : A = q := by
        rw [← punhide HK, List.take_of_length_le (by omega)]
        exact punhide HQ
      subst hA
      go_wp2
      go_ret
      exact ⟨rfl, hB1.trans (hBr.mono hB1.size)⟩
end Go.Proofs.YtnagecbepidfiaaGreatDoor.Pol
