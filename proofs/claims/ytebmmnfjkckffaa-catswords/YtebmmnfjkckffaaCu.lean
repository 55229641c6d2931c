/- What is proved here: what the law CatsBack does with any row of texts and any three masks, walked; conditions: how the row lies. -/
import Derived.Test.YtebmmnfjkckffaaCl
namespace Go.Proofs.Ytebmmnfjkckffaa.Cm
theorem full_succ (k : Nat) : (2 ^ k - 1) ||| 2 ^ k = 2 ^ (k + 1) - 1 := by
  apply Nat.eq_of_testBit_eq
  intro i
  rw [Nat.testBit_or, Nat.testBit_two_pow_sub_one, Nat.testBit_two_pow_sub_one, Nat.testBit_two_pow, Bool.eq_iff_iff]
  simp only [Bool.or_eq_true, decide_eq_true_eq]
  omega
theorem full_lt {k : Nat} (h : k ≤ 64) : 2 ^ k - 1 < 18446744073709551616 := by
  have := Nat.pow_le_pow_right (n := 2) (by omega) h
  have e : 2 ^ 64 = 18446744073709551616 := by decide
  omega
theorem sub_self (a : Nat) : subB a a = true := by unfold subB; rw [Nat.and_self]; exact beq_self_eq_true a
theorem sub_nought (a : Nat) : subB 0 a = true := by unfold subB; rw [Nat.zero_and]; rfl
theorem sub_orl (a b : Nat) : subB a (a ||| b) = true := by
  unfold subB
  rw [beq_iff_eq]
  apply Nat.eq_of_testBit_eq
  intro i
  rw [Nat.testBit_and, Nat.testBit_or]
  cases a.testBit i <;> rfl
theorem sub_andl (a b : Nat) : subB (a &&& b) a = true := by
  unfold subB
  rw [beq_iff_eq]
  apply Nat.eq_of_testBit_eq
  intro i
  rw [Nat.testBit_and, Nat.testBit_and]
  cases a.testBit i <;> cases b.testBit i <;> rfl
theorem sub_both (a b c : Nat) : subB (a ||| b) c = (subB a c && subB b c) := by
  unfold subB
  rw [Bool.eq_iff_iff, Bool.and_eq_true, beq_iff_eq, beq_iff_eq, beq_iff_eq]
  constructor
  · intro h
    constructor
    all_goals
      apply Nat.eq_of_testBit_eq
      intro i
      have := congrArg (fun x => x.testBit i) h
      simp only [Nat.testBit_and, Nat.testBit_or] at this ⊢
      cases ha : a.testBit i <;> cases hb : b.testBit i <;> simp_all
  · rintro ⟨h1, h2⟩
    rw [Nat.and_or_distrib_right, h1, h2]
end Go.Proofs.Ytebmmnfjkckffaa.Cm
namespace Go.Proofs.Ytebmmnfjkckffaa
open Go.RowKit Go.Maps
set_option linter.unusedVariables false
set_option linter.unusedSimpArgs false

theorem StrsIn.step {a : Option Addr} {n : Nat} {ss : List ByteArray} {w W : World} (hs : StrsIn w a n ss) (hB : Below w.heap.size w W) : StrsIn W a n ss := ⟨hs.1, by
  rcases hs.2 with h | ⟨b, off, e, hb, hcell⟩
  · exact .inl h
  · exact .inr ⟨b, off, e, Nat.lt_of_lt_of_le hb hB.size, fun i hi => (hB.cell (p := ⟨b, off + i, none⟩) hb).trans (hcell i hi)⟩⟩

set_option maxRecDepth 1000000 in
set_option maxHeartbeats 4000000 in
theorem back_walk (a : Option Addr) (n c : Nat) (ss : List ByteArray) (x y z : Nat) (w : World) (hn2 : n ≤ 9223372036854775807) (hx : x < 18446744073709551616) (hy : y < 18446744073709551616) (hz : z < 18446744073709551616) (hs : StrsIn w a n ss) :
    Calls Try.prog 5 #[.slice a n c, .agg #[.int .u64 (x : Int), .int .u64 (y : Int), .int .u64 (z : Int)]] w fun e w' => e = .returned (.bool true) ∧ Below w.heap.size w w' := by
  have hsh := Lf_short ss
  have hl70 : (Lf ss).length ≤ 70 := by rw [Lf_len]; omega
  have CF := fun W (h : StrsIn W a n ss) => few_any a n c ss hn2 W h
  have hst : ∀ W, Below w.heap.size w W → StrsIn W a n ss := fun W h => hs.step h
  generalize Lf ss = L at *
  obtain ⟨nn, hnn⟩ : ∃ nn, L.length = nn := ⟨_, rfl⟩
  rw [hnn] at CF hl70
  obtain ⟨q, hq⟩ : ∃ q, Cm.mayE L = q := ⟨_, rfl⟩
  have hl : ∀ x ∈ L, x.length ≤ 1000 := fun x hx => by have := hsh x hx; omega
  have C13 : ∀ g cap W, RowAt W g L → Calls Try.prog 13 #[.slice (some ⟨g, 0, none⟩) nn cap] W fun e w' => e = .returned (.int .i64 (q : Int)) ∧ Below W.heap.size W w' := fun g cap W h => may_any g nn cap L hnn (by omega) hl q hq W h
  go_enter Try.func5, Try.ntmps5
  go_wp2_with fail
  refine (shown_any _).mono ?_
  rintro e W1 ⟨rfl, bA⟩
  have hB : Below w.heap.size w W1 := ((Below.refl _ _).alloc (Nat.le_refl _) _).trans (bA.mono (by simp))
  have box0 : W1.cell? ⟨w.heap.size, 0, none⟩ = some (.int .u64 (x : Int)) := (bA.cell (p := ⟨w.heap.size, 0, none⟩) (by simp)).trans (by go_simp)
  have box1 : W1.cell? ⟨w.heap.size, 1, none⟩ = some (.int .u64 (y : Int)) := (bA.cell (p := ⟨w.heap.size, 1, none⟩) (by simp)).trans (by go_simp)
  have box2 : W1.cell? ⟨w.heap.size, 2, none⟩ = some (.int .u64 (z : Int)) := (bA.cell (p := ⟨w.heap.size, 2, none⟩) (by simp)).trans (by go_simp)
  have hlB : w.heap.size < W1.heap.size := Nat.lt_of_lt_of_le (by simp) bA.size
  have HB := hide (show ∀ W, Below W1.heap.size W1 W → (W.cell? ⟨w.heap.size, 0, none⟩ = some (.int .u64 (x : Int)) ∧ W.cell? ⟨w.heap.size, 1, none⟩ = some (.int .u64 (y : Int)) ∧ W.cell? ⟨w.heap.size, 2, none⟩ = some (.int .u64 (z : Int))) ∧ Below w.heap.size w W from
    fun W h => ⟨⟨(h.cell (p := ⟨w.heap.size, 0, none⟩) hlB).trans box0, (h.cell (p := ⟨w.heap.size, 1, none⟩) hlB).trans box1, (h.cell (p := ⟨w.heap.size, 2, none⟩) hlB).trans box2⟩, hB.trans (h.mono (Nat.le_of_lt hlB))⟩)
  clear bA box0 box1 box2 hlB
  go_wp2_with fail
  refine (CF _ (hst _ hB)).mono ?_
  rintro e W4 ⟨hS, g, cap, rfl, hg, hr⟩
  clear CF hst hs hB
  go_wp2_with fail
  refine (C13 _ _ _ hr).mono ?_
  rintro e W5 ⟨rfl, b5⟩
  replace hr := hr.step b5
  replace hS := hS.trans (b5.mono hS.size)
  clear b5 C13 hn2
  by_cases hq0 : q = 0
  · subst hq0
    obtain ⟨h64, hd, hnm⟩ := may_zero hq
    rw [hnn] at h64
    obtain ⟨u, hu⟩ := bytes_of (Cm.joinB (Cm.selK L x nn))
    have hul : u.size ≤ 100000 := by
      have h1 := Cm.names_len (m := x) (k := nn) (by omega) hsh
      rw [hu, len_size] at h1
      have := Nat.mul_le_mul_right 101 h64
      omega
    have hwo : Cm.words u.data.toList = Cm.selK L x nn := by rw [← hu]; exact Cm.words_join (fun y hy => Cm.name_word (hnm _ (Cm.selK_mem (by omega) hy)))
    have hmk := Cm.maskF_sel hd x nn (by omega)
    rw [← hwo] at hmk
    have C19 : ∀ W, RowAt W g L → Calls Try.prog 19 #[.slice (some ⟨g, 0, none⟩) nn cap, .int .u64 (x : Int)] W fun e w' => e = .returned (.string u) ∧ Below W.heap.size W w' := fun W h => names_any g nn cap L hnn (by omega) hl x hx u hu W h
    have C17 : ∀ W, RowAt W g L → Calls Try.prog 17 #[.slice (some ⟨g, 0, none⟩) nn cap, .string u] W fun e w' => e = .returned (.tuple #[.int .u64 ((x % 2 ^ nn : Nat) : Int), .int .i64 ((0 : Nat) : Int)]) ∧ Below W.heap.size W w' := fun W h => mask_any g nn cap L hnn h64 hl hd u (by omega) _ _ hmk W h
    have hall : bits BinOp.and IntKind.u64 (x : Int) ((2 ^ nn - 1 : Nat) : Int) = ((x % 2 ^ nn : Nat) : Int) := by rw [u64_and_nat _ _ hx (Cm.full_lt h64), Nat.and_two_pow_sub_one_eq_mod]
    obtain ⟨xm, hxm⟩ : ∃ xm, x % 2 ^ nn = xm := ⟨_, rfl⟩
    rw [hxm] at C17 hall
    have hor : bits BinOp.or IntKind.u64 (x : Int) (y : Int) = ((x ||| y : Nat) : Int) := u64_or_nat _ _ hx hy
    have hand : bits BinOp.and IntKind.u64 (x : Int) (y : Int) = ((x &&& y : Nat) : Int) := u64_and_nat _ _ hx hy
    have horl : x ||| y < 18446744073709551616 := Nat.or_lt_two_pow (n := 64) hx hy
    have handl : x &&& y < 18446744073709551616 := Nat.lt_of_le_of_lt Nat.and_le_left hx
    obtain ⟨s1, hs1⟩ : ∃ s1, Cm.subB x z = s1 := ⟨_, rfl⟩
    obtain ⟨s2, hs2⟩ : ∃ s2, Cm.subB y z = s2 := ⟨_, rfl⟩
    have A1 : ∀ W, Calls Try.prog 15 #[.int .u64 (x : Int), .int .u64 (z : Int)] W fun e w' => e = .returned (.bool s1) ∧ w' = W := fun W => hs1 ▸ within_any x z hx hz W
    have A2 : ∀ W, Calls Try.prog 15 #[.int .u64 (y : Int), .int .u64 (z : Int)] W fun e w' => e = .returned (.bool s2) ∧ w' = W := fun W => hs2 ▸ within_any y z hy hz W
    have A3 : ∀ W, Calls Try.prog 15 #[.int .u64 (x : Int), .int .u64 (x : Int)] W fun e w' => e = .returned (.bool true) ∧ w' = W := fun W => (Cm.sub_self x) ▸ within_any x x hx hx W
    have A4 : ∀ W, Calls Try.prog 15 #[.int .u64 (x : Int), .int .u64 ((x ||| y : Nat) : Int)] W fun e w' => e = .returned (.bool true) ∧ w' = W := fun W => (Cm.sub_orl x y) ▸ within_any x (x ||| y) hx horl W
    have A5 : ∀ W, Calls Try.prog 15 #[.int .u64 ((x &&& y : Nat) : Int), .int .u64 (x : Int)] W fun e w' => e = .returned (.bool true) ∧ w' = W := fun W => (Cm.sub_andl x y) ▸ within_any (x &&& y) x handl hx W
    have A6 : ∀ W, Calls Try.prog 15 #[.int .u64 ((x ||| y : Nat) : Int), .int .u64 (z : Int)] W fun e w' => e = .returned (.bool (s1 && s2)) ∧ w' = W := fun W => by
      have := within_any (x ||| y) z horl hz W
      rwa [Cm.sub_both, hs1, hs2] at this
    have A7 : ∀ W, Calls Try.prog 15 #[.int .u64 0, .int .u64 (x : Int)] W fun e w' => e = .returned (.bool true) ∧ w' = W := fun W => (Cm.sub_nought x) ▸ within_any 0 x (by omega) hx W
    have HF := hide h64
    clear hq hnn hsh hl hl70 hd hnm hu hul hwo hmk hxm horl handl hs1 hs2 hx hy hz h64
    generalize x ||| y = xo at *
    generalize x &&& y = xa at *
    go_wp2_with fail
    go_loop [6, 7] (fun av iv => ∃ k : Nat, k ≤ nn ∧ iv = .int .i64 (k : Int) ∧ av = .int .u64 ((2 ^ k - 1 : Nat) : Int)) (fun _ iv => nn - (intOf iv).toNat)
    case atStart => exact ⟨0, by omega, rfl, rfl⟩
    case round =>
      obtain ⟨k, hk, rfl, rfl⟩ := hrel
      by_cases hlt : k < nn
      · have hk64 : k < 64 := by have := unhide HF; omega
        have hbw := bit_wrap k
        have hbn : Cm.bitN k = 2 ^ k := by unfold Cm.bitN; rw [if_pos hk64]
        have h1 : 2 ^ k < 18446744073709551616 := by rw [← hbn]; exact Cm.bitN_lt k
        rw [hbn] at hbw
        have hbw2 : IntKind.u64.wrap ((2 : Int) ^ k) = ((2 ^ k : Nat) : Int) := by have := hbw; rwa [Nat.min_eq_left (by omega)] at this
        have hor2 : bits BinOp.or IntKind.u64 ((2 ^ k - 1 : Nat) : Int) ((2 ^ k : Nat) : Int) = ((2 ^ (k + 1) - 1 : Nat) : Int) := by rw [u64_or_nat _ _ (by omega) h1, Cm.full_succ]
        generalize 2 ^ k - 1 = p1 at *
        generalize hp2 : 2 ^ (k + 1) - 1 = p2 at *
        have HP := hide hp2
        generalize hpk : 2 ^ k = pk at *
        clear hbn h1 hp2 hpk A1 A2 A3 A4 A5 A6 A7 C19 C17 hall hor hand
        go_wp2
        go_round
        case rel => exact ⟨k + 1, hlt, by go_num, by rw [unhide HP]⟩
        case measure => simp [intOf]; omega
      · have hkn : k = nn := by omega
        subst hkn
        generalize 2 ^ k - 1 = pa at *
        obtain ⟨⟨box0, box1, box2⟩, hE⟩ := unhide HB _ hS
        go_wp2_with fail
        refine (C19 _ hr).mono ?_
        rintro e W6 ⟨rfl, b6⟩
        replace hr := hr.step b6
        replace hS := hS.trans (b6.mono hS.size)
        clear b6 box0 box1 box2 hE
        go_wp2_with fail
        refine (C17 _ hr).mono ?_
        rintro e W7 ⟨rfl, b6⟩
        replace hS := hS.trans (b6.mono hS.size)
        obtain ⟨⟨box0, box1, box2⟩, hE⟩ := unhide HB _ hS
        clear b6 hr hS HB C17 C19
        go_wp2_with fail
        refine (A1 _).mono ?_
        rintro e W8 ⟨rfl, rfl⟩
        go_wp2_with fail
        refine (A2 _).mono ?_
        rintro e W8 ⟨rfl, rfl⟩
        go_wp2_with fail
        refine (A3 _).mono ?_
        rintro e W8 ⟨rfl, rfl⟩
        go_wp2_with fail
        refine (A4 _).mono ?_
        rintro e W8 ⟨rfl, rfl⟩
        go_wp2_with fail
        refine (A5 _).mono ?_
        rintro e W8 ⟨rfl, rfl⟩
        go_wp2_with fail
        refine (A6 _).mono ?_
        rintro e W8 ⟨rfl, rfl⟩
        cases s1
        all_goals
          go_wp2_with fail
          refine (A7 _).mono ?_
          rintro e W8 ⟨rfl, rfl⟩
          go_wp2
          go_ret
          exact ⟨rfl, hE⟩
  · have dq : ((q : Int) == 0) = false := beq_eq_false_iff_ne.2 (by omega)
    obtain ⟨_, hE⟩ := unhide HB _ hS
    clear hq hnn hsh hl hl70 hq0 HB hS hr
    go_wp2
    go_ret
    exact ⟨rfl, hE⟩
end Go.Proofs.Ytebmmnfjkckffaa
