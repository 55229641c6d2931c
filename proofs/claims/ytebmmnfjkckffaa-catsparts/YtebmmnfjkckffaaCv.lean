/- What is proved here: what the law CatsParts does with any row of texts and any two masks, walked; conditions: how the row lies. -/
import Derived.Test.YtebmmnfjkckffaaCu
import Derived.Deep.QuietTactic
import Derived.BigQuiet
namespace Go.Proofs.Ytebmmnfjkckffaa.Cm
theorem selK_prefix (L : List Tx) (m : Nat) {k : Nat} : ∀ n, k ≤ n → n ≤ L.length → ∃ r, selK L m n = selK L m k ++ r
  | 0, h, _ => ⟨[], by rw [show k = 0 by omega, List.append_nil]⟩
  | n + 1, h, hn => by
    by_cases e : k = n + 1
    · exact ⟨[], by rw [e, List.append_nil]⟩
    · obtain ⟨r, hr⟩ := selK_prefix L m (k := k) n (by omega) (by omega)
      cases hb : m.testBit n
      · exact ⟨r, by rw [selK_no hb, hr]⟩
      · exact ⟨r ++ [L[n]'(by omega)], by rw [selK_yes (by omega) hb, hr, List.append_assoc]⟩
theorem selK_at {L : List Tx} {m k n : Nat} (hk : k < n) (hn : n ≤ L.length) (hb : m.testBit k = true) :
    ∃ t, L[k]? = some t ∧ (selK L m n)[(selK L m k).length]? = some t ∧ selK L m (k + 1) = selK L m k ++ [t] := by
  obtain ⟨r, hr⟩ := selK_prefix L m (k := k + 1) n (by omega) hn
  have hy := selK_yes (L := L) (by omega) hb
  rw [hy] at hr
  refine ⟨L[k]'(by omega), List.getElem?_eq_getElem _, ?_, hy⟩
  rw [hr, List.append_assoc, List.getElem?_append_right (Nat.le_refl _)]
  simp
theorem selK_both (L : List Tx) {a b c : Nat} (hc : ∀ i, i < 64 → c.testBit i = (a.testBit i && !b.testBit i)) : ∀ k, k ≤ 64 → k ≤ L.length →
    (selK L (a ||| b) k).length = (selK L c k).length + (selK L b k).length
  | 0, _, _ => rfl
  | k + 1, h, hl => by
    have ih := selK_both L hc k (by omega) (by omega)
    have h1 := hc k (by omega)
    have h2 : (a ||| b).testBit k = (a.testBit k || b.testBit k) := Nat.testBit_or a b k
    cases ha : a.testBit k <;> cases hb : b.testBit k <;> simp only [ha, hb, Bool.not_true, Bool.not_false, Bool.and_true, Bool.and_false, Bool.true_or, Bool.false_or, Bool.or_self, Bool.and_self] at h1 h2
    · rw [selK_no h2, selK_no h1, selK_no hb, ih]
    · rw [selK_yes (by omega) h2, selK_no h1, selK_yes (by omega) hb, List.length_append, List.length_append, ih]; simp only [List.length_singleton]; omega
    · rw [selK_yes (by omega) h2, selK_yes (by omega) h1, selK_no hb, List.length_append, List.length_append, ih]; simp only [List.length_singleton]; omega
    · rw [selK_yes (by omega) h2, selK_no h1, selK_yes (by omega) hb, List.length_append, List.length_append, ih]; simp only [List.length_singleton]; omega
theorem andNot_bit {a b : Nat} (hb : b < 18446744073709551616) (i : Nat) (hi : i < 64) : (a &&& (18446744073709551615 - b)).testBit i = (a.testBit i && !b.testBit i) := by
  have h2 : (18446744073709551615 - b).testBit i = (decide (i < 64) && !b.testBit i) := by
    have := Nat.testBit_two_pow_sub_succ (n := 64) (x := b) hb i
    rw [← this]
    congr 1
    omega
  rw [Nat.testBit_and, h2, decide_eq_true hi, Bool.true_and]
end Go.Proofs.Ytebmmnfjkckffaa.Cm
namespace Go.Proofs.Ytebmmnfjkckffaa
open Go.RowKit Go.Maps
set_option linter.unusedVariables false
set_option linter.unusedSimpArgs false

set_option maxRecDepth 1000000 in
set_option maxHeartbeats 4000000 in
theorem parts_walk (a : Option Addr) (n c : Nat) (ss : List ByteArray) (x y : Nat) (w : World) (hn2 : n ≤ 9223372036854775807) (hx : x < 18446744073709551616) (hy : y < 18446744073709551616) (hs : StrsIn w a n ss) :
    Calls Try.prog 7 #[.slice a n c, .int .u64 (x : Int), .int .u64 (y : Int)] w fun e w' => e = .returned (.bool true) ∧ Below w.heap.size w w' := by
  have hsh := Lf_short ss
  have hl70 : (Lf ss).length ≤ 70 := by rw [Lf_len]; omega
  have CF := fun W (h : StrsIn W a n ss) => few_any a n c ss hn2 W h
  have hst : ∀ W, Below w.heap.size w W → StrsIn W a n ss := fun W h => hs.step h
  generalize Lf ss = L at *
  obtain ⟨nn, hnn⟩ : ∃ nn, L.length = nn := ⟨_, rfl⟩
  rw [hnn] at CF hl70
  obtain ⟨q, hq⟩ : ∃ q, Cm.mayE L = q := ⟨_, rfl⟩
  have hl : ∀ x ∈ L, x.length ≤ 1000 := fun x hx => by have := hsh x hx; omega
  have C13 : ∀ g cap W, RowAt W g L → Calls Try.prog 13 #[.slice (some ⟨g, 0, none⟩) nn cap] W fun e w' => e = .returned (.int .i64 (q : Int)) ∧ Below W.heap.size W w' := fun g cap W h => may_any g nn cap L hnn (by omega) hl q hq W h
  go_enter Try.func7, Try.ntmps7
  go_wp2_with fail
  refine (shown_any _).mono ?_
  rintro e W1 ⟨rfl, hB⟩
  go_wp2_with fail
  refine (CF _ (hst _ hB)).mono ?_
  rintro e W4 ⟨bA, g, cap, rfl, hg, hr⟩
  replace hB := hB.trans (bA.mono hB.size)
  clear CF hst hs bA hg
  go_wp2_with fail
  refine (C13 _ _ _ hr).mono ?_
  rintro e W5 ⟨rfl, b5⟩
  replace hr := hr.step b5
  replace hB := hB.trans (b5.mono hB.size)
  clear b5 C13 hn2
  by_cases hq0 : q = 0
  · subst hq0
    obtain ⟨h64, hd, hnm⟩ := may_zero hq
    rw [hnn] at h64
    have ex : ∀ m, m < 18446744073709551616 → ∃ (u : ByteArray) (k : Nat) (T : List Cm.Tx), T = Cm.selK L m nn ∧ T.length = k ∧ k ≤ 64 ∧
        (∀ W, RowAt W g L → Calls Try.prog 19 #[.slice (some ⟨g, 0, none⟩) nn cap, .int .u64 (m : Int)] W fun e w' => e = .returned (.string u) ∧ Below W.heap.size W w') ∧
        (∀ W, Calls Try.prog 21 #[.string u] W fun e w' => Below W.heap.size W w' ∧ ∃ g2 cap2, e = .returned (.slice (some ⟨g2, 0, none⟩) k cap2) ∧ W.heap.size ≤ g2 ∧ RowAt w' g2 T) := fun m hm => by
      obtain ⟨u, hu⟩ := bytes_of (Cm.joinB (Cm.selK L m nn))
      have hul : u.size ≤ 100000 := by
        have h1 := Cm.names_len (m := m) (k := nn) (by omega) hsh
        rw [hu, len_size] at h1
        have := Nat.mul_le_mul_right 101 h64
        omega
      have hwo : Cm.words u.data.toList = Cm.selK L m nn := by rw [← hu]; exact Cm.words_join (fun y hy => Cm.name_word (hnm _ (Cm.selK_mem (by omega) hy)))
      refine ⟨u, _, _, rfl, rfl, Nat.le_trans (Cm.selK_len L m nn) h64, fun W h => names_any g nn cap L hnn (by omega) hl m hm u hu W h, fun W => ?_⟩
      have := words_any u (by omega) W
      rwa [hwo] at this
    have hxy : x &&& (18446744073709551615 - y) < 18446744073709551616 := Nat.lt_of_le_of_lt Nat.and_le_left hx
    have hsum := Cm.selK_both L (fun i hi => Cm.andNot_bit (a := x) hy i hi) nn h64 (by omega)
    have hsel := fun k (hk : k < nn) (hb : (x ||| y).testBit k = true) => Cm.selK_at (L := L) (m := x ||| y) hk (by omega) hb
    have e1 : bits BinOp.andNot IntKind.u64 (x : Int) (y : Int) = ((x &&& (18446744073709551615 - y) : Nat) : Int) := u64_andNot_nat x y hx hy
    have e2 : bits BinOp.or IntKind.u64 (x : Int) (y : Int) = ((x ||| y : Nat) : Int) := u64_or_nat x y hx hy
    obtain ⟨u1, k1, T1, hT1, hk1, hb1, N1, V1⟩ := ex _ hxy
    obtain ⟨u2, k2, T2, hT2, hk2, hb2, N2, V2⟩ := ex _ hy
    obtain ⟨u3, k3, T3, hT3, hk3, hb3, N3, V3⟩ := ex (x ||| y) (Nat.or_lt_two_pow (n := 64) hx hy)
    rw [← hT1, ← hT2, ← hT3, hk1, hk2, hk3] at hsum
    have hbit := fun k => bit_tmod (x ||| y) k
    generalize hxo : x ||| y = xo at *
    generalize x &&& (18446744073709551615 - y) = xa at *
    have HS := hide hsel
    have HT := hide hT3
    have HK := hide hk3
    have HN := hide hnn
    have HBT := hide hbit
    have HSUM := hide hsum
    clear hsum ex hsel hT1 hT2 hT3 hk1 hk2 hk3 hnm hd hl hsh hq hl70 hxo hx hy hxy hnn hbit
    go_wp2_with fail
    refine (N1 _ hr).mono ?_
    rintro e W6 ⟨rfl, b6⟩
    replace hr := hr.step b6
    replace hB := hB.trans (b6.mono hB.size)
    clear b6 N1
    go_wp2_with fail
    refine (V1 _).mono ?_
    rintro e W7 ⟨b6, g1, cap1, rfl, _, _⟩
    replace hr := hr.step b6
    replace hB := hB.trans (b6.mono hB.size)
    clear b6 V1
    go_wp2_with fail
    refine (N2 _ hr).mono ?_
    rintro e W8 ⟨rfl, b6⟩
    replace hr := hr.step b6
    replace hB := hB.trans (b6.mono hB.size)
    clear b6 N2
    go_wp2_with fail
    refine (V2 _).mono ?_
    rintro e W9 ⟨b6, g2, cap2, rfl, _, _⟩
    replace hr := hr.step b6
    replace hB := hB.trans (b6.mono hB.size)
    clear b6 V2
    go_wp2_with fail
    refine (N3 _ hr).mono ?_
    rintro e W10 ⟨rfl, b6⟩
    replace hr := hr.step b6
    replace hB := hB.trans (b6.mono hB.size)
    clear b6 N3
    go_wp2_with fail
    refine (V3 _).mono ?_
    rintro e W11 ⟨b6, g3, cap3, rfl, _, hr3⟩
    replace hr := hr.step b6
    replace hB := hB.trans (b6.mono hB.size)
    clear b6 V3
    go_wp2_with fail
    go_loopw [11, 12] (fun av iv wr => ∃ k j : Nat, k ≤ nn ∧ iv = .int .i64 (k : Int) ∧ av = .int .i64 (j : Int) ∧ j = (Cm.selK L xo k).length ∧ j ≤ 64 ∧ Below w.heap.size w wr ∧ RowAt wr g L ∧ RowAt wr g3 T3) (fun _ iv _ => nn - (intOf iv).toNat)
    case atStart => exact ⟨0, 0, by omega, rfl, rfl, rfl, by omega, hB, hr, hr3⟩
    case round =>
      obtain ⟨k, j, hk, rfl, rfl, hj, hj64, hB, hr, hr3⟩ := hrel
      by_cases hlt : k < nn
      · have hbt := unhide HBT k
        cases hb : xo.testBit k
        · rw [hb] at hbt
          have HJ := hide (show j = (Cm.selK L xo (k + 1)).length by rw [Cm.selK_no hb]; exact hj)
          clear hb hj
          go_wp2
          go_roundw
          case rel => exact ⟨k + 1, j, hlt, by go_num, rfl, unhide HJ, hj64, hB, hr, hr3⟩
          case measure => simp [intOf]; omega
        · rw [hb] at hbt
          obtain ⟨tx, h1, h2, h3⟩ := unhide HS k hlt hb
          rw [← hj, ← unhide HT] at h2
          obtain ⟨g1, g2⟩ := List.getElem?_eq_some_iff.1 h1
          obtain ⟨g3, g4⟩ := List.getElem?_eq_some_iff.1 h2
          have hc1 := hr.2 k g1
          have hc3 := hr3.2 j g3
          rw [g2] at hc1
          rw [g4] at hc3
          have hjk : j < k3 := by have := unhide HK; omega
          obtain ⟨t, ht, _, _⟩ := txt tx
          rw [ht] at hc1 hc3
          have HJ := hide (show j + 1 = (Cm.selK L xo (k + 1)).length by rw [h3, List.length_append, ← hj]; rfl)
          have d1 : decide ((k3 : Int) ≤ (j : Int)) = false := decide_eq_false (by omega)
          have d3 : decide (k3 ≤ j) = false := decide_eq_false (by omega)
          have d4 : ¬ k3 ≤ j := by omega
          have c1 : (0 : Int) ≤ (j : Int) := by omega
          have c2 : (j : Int) < (k3 : Int) := by omega
          have c3 : (0 : Int) ≤ (k : Int) := by omega
          have c4 : (k : Int) < (nn : Int) := by omega
          have HJ64 := hide (show j + 1 ≤ 64 by have := unhide HK; omega)
          have hHR := hide hr
          have hHR3 := hide hr3
          clear hb hj h1 h2 h3 g1 g2 g3 g4 ht hr hr3
          go_wp2_with fail
          go_region_held3 (fun w' => w'.cell? ⟨g, k, none⟩ = some (.string t) ∧ w'.cell? ⟨g3, j, none⟩ = some (.string t)) (exact ⟨hc1, hc3⟩) (fail)
          have hB2 := below_drewN hB 1
          have hr2 : RowAt wr.drew g L := unhide hHR
          have hr32 : RowAt wr.drew g3 T3 := unhide hHR3
          rw [← World.drew_is_drewN] at hB2
          generalize wr.drew = w2 at *
          clear hB hHR hHR3 hc1 hc3
          go_wp2
          go_roundw
          case rel => exact ⟨k + 1, j + 1, hlt, by go_num, by go_num, unhide HJ, unhide HJ64, hB2, hr2, hr32⟩
          case measure => simp [intOf]; omega
      · have hkn : k = nn := by omega
        rw [hkn, ← unhide HT, unhide HK] at hj
        have d1 : ((j : Int) == (k3 : Int)) = true := beq_iff_eq.2 (by omega)
        have d2 : ((k3 : Int) == (k1 : Int) + (k2 : Int)) = true := beq_iff_eq.2 (by have := unhide HSUM; omega)
        clear hkn hj hr hr3 HS HT HK HN HBT HSUM
        go_wp2
        go_ret
        exact ⟨rfl, hB⟩
  · have dq : ((q : Int) == 0) = false := beq_eq_false_iff_ne.2 (by omega)
    clear hq hnn hsh hl hl70 hq0 hr
    go_wp2
    go_ret
    exact ⟨rfl, hB⟩
end Go.Proofs.Ytebmmnfjkckffaa
