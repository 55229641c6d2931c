/- What is proved here: what the law DecPrints does, walked; conditions: none. -/
import Derived.Test.YtpahiiffmkcelaaDoorWv
namespace Go.Proofs.YtpahiiffmkcelaaDoor
open Go.RowKit
set_option linter.unusedVariables false
set_option linter.unusedSimpArgs false
theorem byte_at (pl : List UInt8) (k : Nat) (z : Nat) (hz : z < 256) (h : k < (⟨pl.toArray⟩ : ByteArray).size) (b : Bool) (hb : ((((⟨pl.toArray⟩ : ByteArray)[k]).toNat : Int) == (z : Int)) = b) : pl.getD k 0 = UInt8.ofNat z ↔ b = true := by
  have h' : k < pl.length := by rw [← mk_size pl]; exact h
  have e : pl.getD k 0 = pl[k] := by simp [List.getD, h']
  have e2 : ((⟨pl.toArray⟩ : ByteArray)[k]) = pl[k] := rfl
  rw [e2] at hb
  rw [e, ← hb, beq_iff_eq]
  constructor
  · intro h; rw [h, UInt8.toNat_ofNat']; omega
  · intro h
    apply UInt8.toNat_inj.1
    rw [UInt8.toNat_ofNat']; omega
/-- What holds in each round of the multiplications. -/
def PrInv (w : World) (X Y k K sc : Nat) (g : Int) (r o : Option Dm.D) (wr : World) : Prop :=
  Below w.heap.size w wr ∧ Has3 X (.bool (rx r)) (.string (ry r)) (.int .i64 (rz r)) wr ∧ Own3 Y (.bool (rx o)) (.string (ry o)) (.int .i64 (rz o)) wr ∧
  (o = none → Dm.Rep (g * Dm.p10 K) sc none) ∧ (∀ d, o = some d → Dm.Rep (g * Dm.p10 k) sc (some d))
set_option maxRecDepth 100000 in
set_option maxHeartbeats 2000000 in
theorem prints_walk (ng : Bool) (s : ByteArray) (n : Int) (c : Nat) (w : World) (hs : s.size ≤ maxLen) (hc : c < 256) :
    Calls Tryd.prog 10 #[.agg #[.bool ng, .string s, .int .i64 n], .int .u8 (c : Int)] w fun e w' => e = .returned (.bool true) ∧ Below w.heap.size w w' := by
  have hx := Box3.start w (.bool ng) (.string s) (.int .i64 n) 23
  cases hm : Dm.mayB ng s.data.toList n with
  | false =>
    have HM := hide hm
    clear hm
    go_enter Tryd.func10, Tryd.ntmps10
    go_wp2_with fail
    refine (shown_any _).mono ?_
    rintro e w1 ⟨rfl, hb1⟩
    have hx1 := hx.next hb1
    obtain ⟨_, _, c0, c1, c2⟩ := id hx1
    clear hx hb1
    go_wp2_with fail
    refine (may_b ng s n false _ hs (unhide HM)).mono ?_
    rintro e w2 ⟨rfl, hb2⟩
    have hx2 := hx1.next hb2
    go_wp2
    go_ret
    exact ⟨rfl, hx2.1⟩
  | true =>
    have hmb := Dm.mayB_iff.1 hm
    obtain ⟨sc, rfl⟩ := Int.eq_ofNat_of_zero_le hmb.1
    obtain ⟨l, rfl⟩ : ∃ l : List UInt8, s = ⟨l.toArray⟩ := ⟨s.data.toList, by simp⟩
    rw [mk_list] at hm hmb
    have hmay : Dm.May ⟨ng, l, sc⟩ := by have := hmb.2; rwa [Int.toNat_natCast] at this
    obtain ⟨P, hA, hB0, hB1, hC, hN⟩ := Dm.print_facts hmay
    simp only at hB0 hB1 hN
    obtain ⟨pl, hple⟩ : ∃ pl, Dm.printL ⟨ng, l, sc⟩ = pl := ⟨_, rfl⟩
    have hpl : pl.length ≤ 200 := by rw [← hple]; exact printL_len hmay
    rw [hple] at hA hB0 hB1 hC hN
    have HPL := hide hple
    have HM := hide hm
    have HA := hide hA
    have HB0 := hide hB0
    have HB1 := hide hB1
    have HN := hide hN
    clear hple hm hmb hA hB0 hB1 hN
    go_enter Tryd.func10, Tryd.ntmps10
    go_wp2_with fail
    refine (shown_any _).mono ?_
    rintro e w1 ⟨rfl, hb1⟩
    have hx1 := hx.next hb1
    obtain ⟨_, _, c0, c1, c2⟩ := id hx1
    clear hx hb1
    go_wp2_with fail
    refine (may_b ng ⟨l.toArray⟩ (sc : Int) true _ hs (unhide HM)).mono ?_
    rintro e w2 ⟨rfl, hb2⟩
    have hx2 := hx1.next hb2
    clear hx1 hb2 c0 c1 c2
    obtain ⟨_, _, c0, c1, c2⟩ := id hx2
    go_wp2_with fail
    refine (print_b ng l sc pl _ hmay (unhide HPL)).mono ?_
    rintro e w3 ⟨rfl, hb3⟩
    have hx3 := hx2.next hb3
    clear hx2 hb3 c0 c1 c2
    obtain ⟨_, _, c0, c1, c2⟩ := id hx3
    have hsz : (⟨pl.toArray⟩ : ByteArray).size = pl.length := mk_size pl
    go_wp2_with fail
    go_loop [8, 7] (fun i p => ∃ k : Nat, k ≤ pl.length ∧ i = .int .i64 k ∧ p = .int .i64 (if P < k then (P : Int) else -1)) (fun i _ => pl.length - (intOf i).toNat)
    case atStart => exact ⟨0, Nat.zero_le _, rfl, by simp⟩
    case round =>
      obtain ⟨k, hk, rfl, rfl⟩ := hrel
      by_cases hlt : k < pl.length
      · have hlt' : k < (⟨pl.toArray⟩ : ByteArray).size := by rw [hsz]; exact hlt
        go_wp2
        · rename_i hq
          have hkP := ((unhide HA) k hlt).1 ((byte_at pl k 46 (by decide) hlt' true hq).2 rfl)
          go_round
          case rel => exact ⟨k + 1, by omega, by go_num, by rw [if_pos (by omega), hkP]⟩
          case measure => simp [intOf]; omega
        · rename_i hq
          have hkP : k ≠ P := fun e => by
            have := (byte_at pl k 46 (by decide) hlt' false hq).1 (((unhide HA) k hlt).2 e)
            cases this
          go_round
          case rel =>
            refine ⟨k + 1, by omega, by go_num, ?_⟩
            by_cases g : P < k
            · rw [if_pos g, if_pos (by omega)]
            · rw [if_neg g, if_neg (by omega)]
          case measure => simp [intOf]; omega
      · have hk' : k = pl.length := by omega
        subst hk'
        clear hlt hk
        have hpos : 0 < (⟨pl.toArray⟩ : ByteArray).size := by rw [hsz]; exact hC
        have h0 : ((((⟨pl.toArray⟩ : ByteArray)[0]).toNat : Int) == 45) = ng := by
          have := byte_at pl 0 45 (by decide) hpos _ rfl
          have h2 := (unhide HN)
          have h3 := this.symm.trans h2
          revert h3
          cases ((((⟨pl.toArray⟩ : ByteArray)[0]).toNat : Int) == 45) <;> cases ng <;> simp
        have hne : ((pl.length : Int) == 0) = false := by rw [beq_eq_false_iff_ne]; omega
        have hnn : (ng != ng) = false := by simp
        obtain ⟨K, hK⟩ : ∃ K : Nat, c % 10 = K := ⟨_, rfl⟩
        have hKi : (c : Int) % 10 = (K : Int) := by omega
        have hK9 : K ≤ 9 := by omega
        obtain ⟨x, hxe⟩ : ∃ x : UInt8, UInt8.ofNat (48 + K) = x := ⟨_, rfl⟩
        have hxn : x.toNat = 48 + K := by rw [← hxe, UInt8.toNat_ofNat']; omega
        have hxd : Dm.isD x = true := Dm.isD_iff.2 (by omega)
        have hxv : Dm.dv x = K := by unfold Dm.dv; omega
        have hxi : (x.toNat : Int) = 48 + (K : Int) := by rw [hxn]; omega
        obtain ⟨r, hr1, hr2⟩ := Dm.parse_print_e hmay hxd
        rw [hxv] at hr2
        rw [unhide HPL] at hr1
        have HR1 := hide hr1
        have HR2 := hide hr2
        clear hr1 hr2 hxe hxn hxd hxv hK
        by_cases hsc : sc = 0
        · subst hsc
          have hP := (unhide HB0) rfl
          rw [if_neg (by omega)]
          clear hP
          go_wp2_with fail
          go_quiet (fail)
          have hx4 := hx3.next (below_drewN (Below.refl _ _) nq)
          generalize w3.drewN nq = w4 at hx4 ⊢
          clear hx3 c0 c1 c2
          obtain ⟨_, _, c0, c1, c2⟩ := id hx4
          have cv := conv_one x w4
          rw [hxi] at cv
          go_wp2_with fail
          rw [join_e]
          refine (parse_r _ r _ (by rw [mk_size]; simp; omega) (by rw [mk_list]; exact unhide HR1)).mono ?_
          rintro e w5 ⟨rfl, hb5⟩
          have hx5 := (hx4.alloc _).next hb5
          have hww5 : w.heap.size ≤ w5.heap.size := hx5.1.size
          have hX := Has3.start w5 (.bool (rx r)) (.string (ry r)) (.int .i64 (rz r)) 23
          clear hx4 c0 c1 c2 cv hb5
          have hx6 := hx5.alloc (.cells #[.bool (rx r), .string (ry r), .int .i64 (rz r)] 23)
          obtain ⟨_, _, c0, c1, c2⟩ := id hx6
          go_wp2_with fail
          have hY := Own3.start (w5.alloc (.cells #[.bool (rx r), .string (ry r), .int .i64 (rz r)] 23)) (.bool ng) (.string ⟨l.toArray⟩) (.int .i64 ((0 : Nat) : Int)) 23
          have hX2 := hX.next ((Below.refl _ _).alloc (Nat.le_refl _) (.cells #[.bool ng, .string ⟨l.toArray⟩, .int .i64 ((0 : Nat) : Int)] 23))
          have hB2 := hx6.1.alloc (by have := hx6.2.1; omega) (.cells #[.bool ng, .string ⟨l.toArray⟩, .int .i64 ((0 : Nat) : Int)] 23)
          clear hX hx5 hx6 c0 c1 c2
          have hsz5 : (w5.alloc (.cells #[.bool (rx r), .string (ry r), .int .i64 (rz r)] 23)).heap.size = w5.heap.size + 1 := by simp
          rw [hsz5] at hY
          clear hsz5
          go_loopw [14, 13] (fun i g wr => ∃ (k : Nat) (o : Option Dm.D), k ≤ K ∧ i = .int .i64 k ∧ g = .int .i64 (re o) ∧ PrInv w w5.heap.size (w5.heap.size + 1) k K 0 (Dm.sg ⟨ng, l, 0⟩) r o wr) (fun i _ _ => K - (intOf i).toNat)
          case atStart => exact ⟨0, some ⟨ng, l, 0⟩, Nat.zero_le _, rfl, rfl, hB2, hX2, hY, (fun h => by cases h), (fun d h => by injection h with h; subst h; rw [Dm.p10_zero, Int.mul_one]; exact Dm.Rep.of_may hmay)⟩
          case round =>
            obtain ⟨k, o, hk, rfl, rfl, iB, iX, iY, iN, iS⟩ := hrel
            clear hX2 hY hB2
            cases o with
            | none =>
              obtain rfl : r = none := (unhide HR2).uniq (iN rfl)
              clear iN iS HR1 HR2
              simp only [rx, ry, rz, re] at *
              by_cases hlt : k < K
              · go_wp2
                go_ret
                exact ⟨rfl, iB⟩
              · go_wp2
                go_ret
                exact ⟨rfl, iB⟩
            | some d =>
              obtain ⟨y1, y2, y3⟩ := d
              have hS := iS _ rfl
              clear iN iS
              by_cases hlt : k < K
              · generalize rx r = q0
                generalize ry r = q1
                generalize rz r = q2
                generalize re r = q3
                simp only [rx, ry, rz, re] at iY ⊢
                have iX' := hide iX
                clear iX
                obtain ⟨⟨_, p0, p1, p2⟩, f0, f1, f2⟩ := id iY
                go_wp2_with fail
                refine (mul_ten y1 y2 y3 _ _ _ hS).mono ?_
                rintro e w6 ⟨r2, rfl, hr2, hb6⟩
                have iX2 := hide ((unhide iX').next hb6)
                have iY2 := iY.next hb6
                have iB2 := iB.trans (hb6.mono iB.size)
                clear p0 p1 p2 f0 f1 f2 iX' iY iB hb6
                generalize hz0 : rx r2 = b0
                generalize hz1 : ry r2 = b1
                generalize hz2 : rz r2 = b2
                generalize hz3 : re r2 = b3
                have Z0 := hide hz0
                have Z1 := hide hz1
                have Z2 := hide hz2
                have Z3 := hide hz3
                clear hz0 hz1 hz2 hz3
                obtain ⟨⟨_, p0, p1, p2⟩, f0, f1, f2⟩ := id iY2
                go_wp2
                go_round
                case rel =>
                  obtain rfl := unhide Z0
                  obtain rfl := unhide Z1
                  obtain rfl := unhide Z2
                  obtain rfl := unhide Z3
                  refine ⟨k + 1, r2, by omega, by go_num, ?_, set3_below iB2 (by omega) _ _ _, (unhide iX2).store (by omega) _ _ _, iY2.store _ _ _, ?_, ?_⟩
                  · cases r2 <;> rfl
                  · intro h; subst h; exact Dm.next_none hS hr2 hlt
                  · intro d h; subst h; exact Dm.next_some hS hr2
                case measure => simp [intOf]; omega
              · have hkK : k = K := by omega
                subst hkK
                clear hlt
                obtain rfl : r = some ⟨y1, y2, y3⟩ := (unhide HR2).uniq hS
                clear HR1 HR2 hS
                simp only [rx, ry, rz, re] at *
                obtain ⟨⟨_, p0, p1, p2⟩, _⟩ := id iY
                obtain ⟨_, q0, q1, q2⟩ := id iX
                go_wp2
                go_ret
                exact ⟨rfl, iB⟩
        · have hP := (unhide HB1) (by omega)
          rw [if_pos (by omega)]
          have g1 : ((sc : Int) == 0) = false := by rw [beq_eq_false_iff_ne]; omega
          have g2 : IntKind.i64.wrap ((pl.length : Int) - (P : Int)) = (pl.length : Int) - (P : Int) := wrap_id (by omega) (by omega)
          have g3 : IntKind.i64.wrap ((pl.length : Int) - (P : Int) - 1) = (sc : Int) := by rw [wrap_id (by omega) (by omega)]; omega
          have g4 : ((sc : Int) != (sc : Int)) = false := by simp
          have g5 : decide ((P : Int) < 0) = false := by rw [decide_eq_false_iff_not]; omega
          have g6 : decide (0 ≤ (P : Int)) = true := by rw [decide_eq_true_eq]; omega
          clear hP
          go_wp2_with fail
          go_quiet (fail)
          have hx4 := hx3.next (below_drewN (Below.refl _ _) nq)
          generalize w3.drewN nq = w4 at hx4 ⊢
          clear hx3 c0 c1 c2
          obtain ⟨_, _, c0, c1, c2⟩ := id hx4
          have cv := conv_one x w4
          rw [hxi] at cv
          go_wp2_with fail
          rw [join_e]
          refine (parse_r _ r _ (by rw [mk_size]; simp; omega) (by rw [mk_list]; exact unhide HR1)).mono ?_
          rintro e w5 ⟨rfl, hb5⟩
          have hx5 := (hx4.alloc _).next hb5
          have hww5 : w.heap.size ≤ w5.heap.size := hx5.1.size
          have hX := Has3.start w5 (.bool (rx r)) (.string (ry r)) (.int .i64 (rz r)) 23
          clear hx4 c0 c1 c2 cv hb5
          have hx6 := hx5.alloc (.cells #[.bool (rx r), .string (ry r), .int .i64 (rz r)] 23)
          obtain ⟨_, _, c0, c1, c2⟩ := id hx6
          go_wp2_with fail
          have hY := Own3.start (w5.alloc (.cells #[.bool (rx r), .string (ry r), .int .i64 (rz r)] 23)) (.bool ng) (.string ⟨l.toArray⟩) (.int .i64 (sc : Int)) 23
          have hX2 := hX.next ((Below.refl _ _).alloc (Nat.le_refl _) (.cells #[.bool ng, .string ⟨l.toArray⟩, .int .i64 (sc : Int)] 23))
          have hB2 := hx6.1.alloc (by have := hx6.2.1; omega) (.cells #[.bool ng, .string ⟨l.toArray⟩, .int .i64 (sc : Int)] 23)
          clear hX hx5 hx6 c0 c1 c2
          have hsz5 : (w5.alloc (.cells #[.bool (rx r), .string (ry r), .int .i64 (rz r)] 23)).heap.size = w5.heap.size + 1 := by simp
          rw [hsz5] at hY
          clear hsz5
          go_loopw [14, 13] (fun i g wr => ∃ (k : Nat) (o : Option Dm.D), k ≤ K ∧ i = .int .i64 k ∧ g = .int .i64 (re o) ∧ PrInv w w5.heap.size (w5.heap.size + 1) k K sc (Dm.sg ⟨ng, l, sc⟩) r o wr) (fun i _ _ => K - (intOf i).toNat)
          case atStart => exact ⟨0, some ⟨ng, l, sc⟩, Nat.zero_le _, rfl, rfl, hB2, hX2, hY, (fun h => by cases h), (fun d h => by injection h with h; subst h; rw [Dm.p10_zero, Int.mul_one]; exact Dm.Rep.of_may hmay)⟩
          case round =>
            obtain ⟨k, o, hk, rfl, rfl, iB, iX, iY, iN, iS⟩ := hrel
            clear hX2 hY hB2
            cases o with
            | none =>
              obtain rfl : r = none := (unhide HR2).uniq (iN rfl)
              clear iN iS HR1 HR2
              simp only [rx, ry, rz, re] at *
              by_cases hlt : k < K
              · go_wp2
                go_ret
                exact ⟨rfl, iB⟩
              · go_wp2
                go_ret
                exact ⟨rfl, iB⟩
            | some d =>
              obtain ⟨y1, y2, y3⟩ := d
              have hS := iS _ rfl
              clear iN iS
              by_cases hlt : k < K
              · generalize rx r = q0
                generalize ry r = q1
                generalize rz r = q2
                generalize re r = q3
                simp only [rx, ry, rz, re] at iY ⊢
                have iX' := hide iX
                clear iX
                obtain ⟨⟨_, p0, p1, p2⟩, f0, f1, f2⟩ := id iY
                go_wp2_with fail
                refine (mul_ten y1 y2 y3 _ _ _ hS).mono ?_
                rintro e w6 ⟨r2, rfl, hr2, hb6⟩
                have iX2 := hide ((unhide iX').next hb6)
                have iY2 := iY.next hb6
                have iB2 := iB.trans (hb6.mono iB.size)
                clear p0 p1 p2 f0 f1 f2 iX' iY iB hb6
                generalize hz0 : rx r2 = b0
                generalize hz1 : ry r2 = b1
                generalize hz2 : rz r2 = b2
                generalize hz3 : re r2 = b3
                have Z0 := hide hz0
                have Z1 := hide hz1
                have Z2 := hide hz2
                have Z3 := hide hz3
                clear hz0 hz1 hz2 hz3
                obtain ⟨⟨_, p0, p1, p2⟩, f0, f1, f2⟩ := id iY2
                go_wp2
                go_round
                case rel =>
                  obtain rfl := unhide Z0
                  obtain rfl := unhide Z1
                  obtain rfl := unhide Z2
                  obtain rfl := unhide Z3
                  refine ⟨k + 1, r2, by omega, by go_num, ?_, set3_below iB2 (by omega) _ _ _, (unhide iX2).store (by omega) _ _ _, iY2.store _ _ _, ?_, ?_⟩
                  · cases r2 <;> rfl
                  · intro h; subst h; exact Dm.next_none hS hr2 hlt
                  · intro d h; subst h; exact Dm.next_some hS hr2
                case measure => simp [intOf]; omega
              · have hkK : k = K := by omega
                subst hkK
                clear hlt
                obtain rfl : r = some ⟨y1, y2, y3⟩ := (unhide HR2).uniq hS
                clear HR1 HR2 hS
                simp only [rx, ry, rz, re] at *
                obtain ⟨⟨_, p0, p1, p2⟩, _⟩ := id iY
                obtain ⟨_, q0, q1, q2⟩ := id iX
                go_wp2
                go_ret
                exact ⟨rfl, iB⟩
end Go.Proofs.YtpahiiffmkcelaaDoor
