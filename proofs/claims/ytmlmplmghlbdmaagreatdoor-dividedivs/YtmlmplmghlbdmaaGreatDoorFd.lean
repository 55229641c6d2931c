/- What is proved here: what the document's own long division comes to, walked; conditions: digits, not too many. What is proved here: what long and Mod of the document's own answers come to, walked; conditions: digits, not too many; decimals that may be. What is proved here: what Div of the document's own answers comes to, walked; conditions: decimals that may be, the second is not 0. What is proved here: what the law DivideDivs does with any two decimals, walked; condition: the table of powers of ten lies in the world. -/
import Derived.Test.YtmlmplmghlbdmaaGreatDoorEc
import Derived.Deep.LoopGhost
import Derived.Test.YtmlmplmghlbdmaaGreatDoorMt
namespace Go.Proofs.YtmlmplmghlbdmaaGreatDoor
open Go.RowKit
set_option linter.unusedVariables false
set_option linter.unusedSimpArgs false

namespace Dm
theorem tl_zeros_append (k : Nat) (m : List UInt8) : tl (List.replicate k 48 ++ m) = tl m := by
  induction k with
  | zero => rfl
  | succ k ih => rw [List.replicate_succ, List.cons_append, tl_step rfl, ih]
theorem tl_at {l : List UInt8} {k : Nat} (h : l.take k = List.replicate k 48) (hk : k < l.length) (hc : l[k]'hk ≠ 48) : tl l = l.drop k := by
  have e := List.take_append_drop k l
  rw [h] at e
  rw [← e, tl_zeros_append]
  have hl : (List.replicate k (48 : UInt8)).length = k := List.length_replicate
  have e2 : (List.replicate k (48 : UInt8) ++ l.drop k).drop k = l.drop k := by
    rw [List.drop_append_of_le_length (by rw [hl]; exact Nat.le_refl _), List.drop_of_length_le (by rw [hl]; exact Nat.le_refl _), List.nil_append]
  rw [e2]
  apply tl_stop
  right
  exact ⟨l[k]'hk, l.drop (k + 1), List.drop_eq_getElem_cons hk, hc⟩
theorem take_48 {l : List UInt8} {k : Nat} (h : l.take k = List.replicate k 48) (hk : k < l.length) (hc : l[k]'hk = 48) : l.take (k + 1) = List.replicate (k + 1) 48 := by
  rw [List.take_succ_eq_append_getElem hk, h, hc, ← List.replicate_succ']
theorem div_step {X B d : Nat} (hB : 0 < B) : (10 * X + d) / B = 10 * (X / B) + (10 * (X % B) + d) / B ∧ (10 * X + d) % B = (10 * (X % B) + d) % B := by
  have e : 10 * X + d = B * (10 * (X / B)) + (10 * (X % B) + d) := by
    have h := Nat.div_add_mod X B
    generalize X / B = q at *
    generalize X % B = r at *
    have h1 : B * (10 * q) = 10 * (B * q) := Nat.mul_left_comm B 10 q
    omega
  rw [e, Nat.mul_add_div hB, Nat.mul_add_mod]
  exact ⟨rfl, rfl⟩
end Dm
theorem lt_rows (S E : List UInt8) (hS : Dm.allD S) (hE : Dm.allD E) (h : S.length = E.length) : Op.bytesLess S E = decide (Dm.num S < Dm.num E) := by
  rw [bl_eq]
  exact decide_eq_decide.2 (Dm.num_lex S E hS hE h).symm
set_option maxRecDepth 100000 in
set_option maxHeartbeats 1000000 in
theorem nought_b (l : List UInt8) (b : Bool) (w : World) (hl : l.length ≤ 400) (hd : Dm.allD l) (hb : Hid (decide (Dm.num l = 0) = b)) :
    Calls Tryz.prog 37 #[.string ⟨l.toArray⟩] w fun e w' => e = .returned (.bool b) ∧ w' = w := by
  go_enter Tryz.func37, Tryz.ntmps37
  go_wp2
  go_loop [3] (fun i => ∃ k : Nat, k ≤ l.length ∧ i = .int .i64 k ∧ l.take k = List.replicate k 48) (fun i => l.length - (intOf i).toNat)
  case atStart => exact ⟨0, Nat.zero_le _, rfl, rfl⟩
  case round =>
    obtain ⟨k, hk, rfl, hz⟩ := hrel
    have HZ := hide hz
    clear hz
    by_cases hlt : k < l.length
    · have hc0 : ((⟨l.toArray⟩ : ByteArray)[k]'(by rw [mk_size]; exact hlt)) = l[k]'hlt := rfl
      by_cases hc : l[k]'hlt = 48
      · have hz2 := Dm.take_48 (unhide HZ) hlt hc
        have HZ2 := hide hz2
        have hcb : ((((l[k]'hlt).toNat : Nat) : Int) != 48) = false := by rw [hc]; rfl
        clear hz2
        go_wp2
        go_round
        case rel => exact ⟨k + 1, by omega, by go_num, unhide HZ2⟩
        case measure => simp [intOf]; omega
      · have hcb : ((((l[k]'hlt).toNat : Nat) : Int) != 48) = true := by
          rw [bne_iff_ne]
          exact fun e => hc (UInt8.toNat_inj.1 (by simpa using (by omega : (l[k]'hlt).toNat = 48)))
        have hbf : b = false := by
          rw [← unhide hb]
          refine decide_eq_false (fun e => ?_)
          have h1 := tl_nil_of hd e
          rw [Dm.tl_at (unhide HZ) hlt hc] at h1
          have := congrArg List.length h1
          rw [List.length_drop, List.length_nil] at this
          omega
        subst hbf
        go_wp2
        go_ret
        exact ⟨rfl, rfl⟩
    · have e : k = l.length := by omega
      have hbt : b = true := by
        rw [← unhide hb]
        refine decide_eq_true ?_
        have h1 := unhide HZ
        rw [e, List.take_length] at h1
        rw [h1, Dm.num_zeros]
      subst hbt
      go_wp2
      go_ret
      exact ⟨rfl, rfl⟩
set_option maxRecDepth 100000 in
set_option maxHeartbeats 1000000 in
theorem first_b (l : List UInt8) (m : Nat) (w : World) (hl : l.length ≤ 400) (hm : Hid (m + (Dm.tl l).length = l.length)) :
    Calls Tryz.prog 38 #[.string ⟨l.toArray⟩] w fun e w' => e = .returned (.int .i64 (m : Int)) ∧ w' = w := by
  go_enter Tryz.func38, Tryz.ntmps38
  go_wp2
  go_loop [3] (fun i => ∃ k : Nat, k ≤ l.length ∧ i = .int .i64 k ∧ l.take k = List.replicate k 48) (fun i => l.length - (intOf i).toNat)
  case atStart => exact ⟨0, Nat.zero_le _, rfl, rfl⟩
  case round =>
    obtain ⟨k, hk, rfl, hz⟩ := hrel
    have HZ := hide hz
    clear hz
    by_cases hlt : k < l.length
    · have hc0 : ((⟨l.toArray⟩ : ByteArray)[k]'(by rw [mk_size]; exact hlt)) = l[k]'hlt := rfl
      by_cases hc : l[k]'hlt = 48
      · have hz2 := Dm.take_48 (unhide HZ) hlt hc
        have HZ2 := hide hz2
        have hcb : ((((l[k]'hlt).toNat : Nat) : Int) != 48) = false := by rw [hc]; rfl
        clear hz2
        go_wp2
        go_round
        case rel => exact ⟨k + 1, by omega, by go_num, unhide HZ2⟩
        case measure => simp [intOf]; omega
      · have hcb : ((((l[k]'hlt).toNat : Nat) : Int) != 48) = true := by
          rw [bne_iff_ne]
          exact fun e => hc (UInt8.toNat_inj.1 (by simpa using (by omega : (l[k]'hlt).toNat = 48)))
        have hkm : k = m := by
          have h1 := unhide hm
          rw [Dm.tl_at (unhide HZ) hlt hc, List.length_drop] at h1
          omega
        subst hkm
        go_wp2
        go_ret
        exact ⟨rfl, rfl⟩
    · have e : k = l.length := by omega
      have hkm : l.length = m := by
        have h1 := unhide HZ
        rw [e, List.take_length] at h1
        have h2 := unhide hm
        have h3 : Dm.tl l = [] := by
          rw [h1]
          have := Dm.tl_zeros_append l.length []
          rw [List.append_nil] at this
          rw [this]; rfl
        rw [h3, List.length_nil] at h2
        omega
      have HM := hide hkm
      go_wp2
      go_ret
      exact ⟨ret_i (by first | rfl | rw [unhide HM]), rfl⟩
/-- A row of digits with c behind it, and what is left of it by D in so many takings off. -/
def QStep (X : Nat) (D S : List UInt8) (n q : Nat) : Prop := S.length = n + 1 ∧ Dm.allD S ∧ Dm.num S + q * Dm.num D = X ∧ q ≤ 9
theorem one_join (t : List UInt8) (c : UInt8) : (⟨t.toArray⟩ ++ ⟨#[c]⟩ : ByteArray) = ⟨(t ++ [c]).toArray⟩ := mk_join t [c]
theorem drop_str (T : List UInt8) (k : Nat) : (⟨T.toArray⟩ : ByteArray).extract k T.length = ⟨(T.drop k).toArray⟩ := by
  apply str_ext
  rw [Go.Lib.extract_data, mk_list, List.take_of_length_le (by rw [List.length_drop]; omega)]
theorem take_str (T : List UInt8) (k : Nat) : (⟨T.toArray⟩ : ByteArray).extract 0 k = ⟨(T.take k).toArray⟩ := by
  apply str_ext
  rw [Go.Lib.extract_data, mk_list, List.drop_zero, Nat.sub_zero]
set_option maxRecDepth 100000 in
set_option maxHeartbeats 2000000 in
theorem qstep (R D : List UInt8) (c : UInt8) (n : Nat) (w : World) (hD : D.length = n) (hn : n ≤ 150) (dR : Dm.allD R) (dD : Dm.allD D) (dc : Dm.isD c = true) (hR : R.length ≤ n + 1) (hlt : Dm.num R < Dm.num D) :
    Calls Tryz.prog 39 #[.string ⟨R.toArray⟩, .int .u8 (c.toNat : Int), .string ⟨D.toArray⟩] w fun e w' => ∃ (q : UInt8) (S : List UInt8), e = .returned (.tuple #[.int .u8 (q.toNat : Int), .string ⟨S.toArray⟩]) ∧ Hid (Dm.isD q = true ∧ Dm.dv q = (10 * Dm.num R + Dm.dv c) / Dm.num D ∧ S.length = n + 1 ∧ Dm.allD S ∧ Dm.num S = (10 * Dm.num R + Dm.dv c) % Dm.num D) ∧ Below w.heap.size w w' := by
  have cv := conv_v (c.toNat : Int) c rfl w
  have hDpos : 0 < Dm.num D := by omega
  obtain ⟨X, hX⟩ : ∃ X, 10 * Dm.num R + Dm.dv c = X := ⟨_, rfl⟩
  obtain ⟨R0, hR0⟩ : ∃ R0, R ++ [c] = R0 := ⟨_, rfl⟩
  have r1 : R0.length = R.length + 1 := by rw [← hR0, List.length_append]; rfl
  have r2 : Dm.allD R0 := by rw [← hR0]; exact Dm.allD_append.2 ⟨dR, fun x hx => by simp at hx; rw [hx]; exact dc⟩
  have r3 : Dm.num R0 = X := by rw [← hR0, Dm.num_snoc, hX]
  obtain ⟨N1, hN1⟩ : ∃ N1, n + 1 = N1 := ⟨_, rfl⟩
  have r4 : N1 < R0.length → R0.length = N1 + 1 ∧ ∃ u, R0 = 48 :: u := by
    intro h
    have hl : R.length = n + 1 := by omega
    have h9 := Dm.num_lt dD
    rw [hD] at h9
    obtain ⟨u, hu⟩ := Dm.lead0 dR hl (by omega)
    exact ⟨by omega, u ++ [c], by rw [← hR0, hu]; rfl⟩
  have hX10 : X < 10 * Dm.num D := by
    have := Dm.dv_le dc
    omega
  have r5 : R0.length + 1 ≤ N1 + 2 := by omega
  have R4 := hide r4
  have R3 := hide r3
  have R5 := hide r5
  have HX := hide hX
  have HR0 := hide hR0
  have HX10 := hide hX10
  have HD := hide hD
  have hDn : (D.length : Int) ≤ 150 := by omega
  have hRl : R.length ≤ 200 := by omega
  have hn1 : (D.length : Int) + 1 = (N1 : Int) := by omega
  have HN1 := hide hn1
  have HNN := hide hN1
  have hN200 : N1 ≤ 200 := by omega
  clear hX hR0 r1 r3 r4 r5 hX10 hD hn1 hN1
  go_enter Tryz.func39, Tryz.ntmps39
  go_upto_region 3 with fail
  have e0 : (⟨R.toArray⟩ ++ ⟨#[c]⟩ : ByteArray) = ⟨R0.toArray⟩ := by rw [one_join, unhide HR0]
  simp only [e0, unhide HN1]
  clear cv e0
  have hB0 : Below w.heap.size w (w.alloc (.cells #[.int .u8 (c.toNat : Int)] 5)) := (Below.refl _ _).alloc (Nat.le_refl _) _
  generalize w.alloc (.cells #[.int .u8 (c.toNat : Int)] 5) = v at *
  go_loopg [0] 2 (fun g t wx => wx = v ∧ ∃ T : List UInt8, t = .string ⟨T.toArray⟩ ∧ Dm.allD T ∧ Hid (Dm.num T = X) ∧ T.length + 1 ≤ N1 + g ∧ T.length ≤ 300 ∧ Hid (N1 < T.length → T.length = N1 + 1 ∧ ∃ u, T = 48 :: u))
  case atStart => exact ⟨rfl, R0, rfl, r2, R3, unhide R5, by have := unhide R5; omega, R4⟩
  case round =>
    obtain ⟨rfl, T, rfl, t1, t2, t3, t4, t5⟩ := hrel
    by_cases hlen : N1 < T.length
    · obtain ⟨u1, u, hu⟩ := unhide t5 hlen
      have hg : (N1 : Int) < (T.length : Int) := by omega
      have hg2 : (1 : Int) ≤ (T.length : Int) := by omega
      have d1 : Dm.allD (T.drop 1) := fun x hx => t1 x (List.mem_of_mem_drop hx)
      have d2 : Dm.num (T.drop 1) = X := by
        have := unhide t2
        rw [hu, Dm.num_48] at this
        rw [hu]; exact this
      have d3 : (T.drop 1).length = T.length - 1 := List.length_drop
      have D2 := hide d2
      have ds := drop_str T 1
      have ht1 : T.length = N1 + 1 := u1
      rw [ht1] at ds
      clear t2 t5 hu d2
      go_wp2
      go_roundg (gk - 1)
      case measure => omega
      case rel => exact ⟨rfl, T.drop 1, by first | exact congrArg Value.string ds | simp, d1, D2, by omega, by omega, hide (fun h => by omega)⟩
    · have hg : ¬ (N1 : Int) < (T.length : Int) := by omega
      have t3' : T.length ≤ N1 := by omega
      clear t5
      obtain ⟨k, hk⟩ : ∃ k, N1 = T.length + k := ⟨N1 - T.length, by omega⟩
      obtain ⟨S0, hS0⟩ : ∃ S0, List.replicate k 48 ++ T = S0 := ⟨_, rfl⟩
      obtain ⟨E, hE⟩ : ∃ E, List.replicate 1 48 ++ D = E := ⟨_, rfl⟩
      have s1 : S0.length = N1 := by rw [← hS0, List.length_append, List.length_replicate]; omega
      have s2 : Dm.allD S0 := by rw [← hS0]; exact Dm.allD_append.2 ⟨Dm.allD_zeros _, t1⟩
      have s3 : Dm.num S0 = X := by rw [← hS0, Dm.num_zeros_append]; exact unhide t2
      have q1 : E.length = N1 := by
        have := unhide HD
        have := unhide HNN
        rw [← hE, List.length_append, List.length_replicate]; omega
      have q2 : Dm.allD E := by rw [← hE]; exact Dm.allD_append.2 ⟨Dm.allD_zeros _, dD⟩
      have q3 : Dm.num E = Dm.num D := by rw [← hE, Dm.num_zeros_append]
      have hk2 : N1 = D.length + 1 := by have := unhide HD; have := unhide HNN; omega
      have HK := hide hk
      have HK2 := hide hk2
      have HS0 := hide hS0
      have HE := hide hE
      have Q1 := hide q1
      have Q3 := hide q3
      have S1 := hide s1
      have S3 := hide s3
      clear hk hk2 hS0 hE q1 q3 s1 s3 t2 t3
      go_wp2_with fail
      refine (wide_b T S0 N1 k _ (unhide HK) (by omega) HS0).mono ?_
      rintro e w1 ⟨rfl, rfl⟩
      go_wp2_with fail
      refine (wide_b D E N1 1 _ (unhide HK2) (by omega) HE).mono ?_
      rintro e w1 ⟨rfl, rfl⟩
      go_wp2_with fail
      go_loopg [0, 9] 9 (fun g t q wx => ∃ (S : List UInt8) (k : Nat), t = .string ⟨S.toArray⟩ ∧ q = .int .u8 (48 + (k : Int)) ∧ k + g = 9 ∧ S.length = N1 ∧ Dm.allD S ∧ Hid (Dm.num S + k * Dm.num D = X) ∧ Below w.heap.size w wx)
      case atStart => exact ⟨S0, 0, rfl, rfl, rfl, unhide S1, s2, hide (by rw [unhide S3]; simp), hB0⟩
      case round =>
        obtain ⟨S, k, rfl, rfl, hkg, l1, l2, l3, hBr⟩ := hrel
        have hcmp := lt_rows S E l2 q2 (by rw [l1, unhide Q1])
        rw [unhide Q3] at hcmp
        by_cases hle : Dm.num D ≤ Dm.num S
        · have hk9 : k < 9 := by
            rcases Nat.lt_or_ge k 9 with g | g
            · exact g
            · exfalso
              have h1 := unhide l3
              have h2 := unhide HX10
              have h3 : 9 * Dm.num D ≤ k * Dm.num D := Nat.mul_le_mul_right _ g
              omega
          rw [decide_eq_false (by omega)] at hcmp
          have hm := minus_any ⟨S.toArray⟩ ⟨E.toArray⟩ N1 wr (by rw [mk_size]; exact l1) (by rw [mk_size]; exact unhide Q1) (by omega) l2 q2 (by rw [mk_list, mk_list, unhide Q3]; exact hle)
          have HM := hide hm
          clear hm hle
          go_wp2_with fail
          refine (unhide HM).mono ?_
          rintro e w3 ⟨L, rfl, g1, g2, g3, g4⟩
          rw [unhide Q3] at g3
          have G3 := hide g3
          clear g3
          go_wp2_with fail
          go_roundg (gk - 1)
          case measure => omega
          case rel =>
            refine ⟨L, k + 1, rfl, by go_num, by omega, g2, g1, hide ?_, hBr.trans (g4.mono hBr.size)⟩
            have h1 := unhide l3
            have h2 := unhide G3
            rw [Nat.add_mul, Nat.one_mul]
            omega
        · rw [decide_eq_true (by omega)] at hcmp
          obtain ⟨qb, hqb⟩ : ∃ qb : UInt8, qb.toNat = 48 + k := ⟨_, byte_of (by omega)⟩
          have hqi : (48 + (k : Int)) = (qb.toNat : Int) := by omega
          have HQI := hide hqi
          have hfin : Dm.isD qb = true ∧ Dm.dv qb = (10 * Dm.num R + Dm.dv c) / Dm.num D ∧ S.length = n + 1 ∧ Dm.allD S ∧ Dm.num S = (10 * Dm.num R + Dm.dv c) % Dm.num D := by
            have h1 := unhide l3
            have e : 10 * Dm.num R + Dm.dv c = Dm.num D * k + Dm.num S := by rw [unhide HX, ← h1, Nat.mul_comm k]; omega
            refine ⟨Dm.isD_iff.2 (by omega), ?_, by rw [l1]; exact (unhide HNN).symm, l2, ?_⟩
            · rw [e, Nat.mul_add_div hDpos, Nat.div_eq_of_lt (by omega), Nat.add_zero]
              unfold Dm.dv; omega
            · rw [e, Nat.mul_add_mod, Nat.mod_eq_of_lt (by omega)]
          have HFIN := hide hfin
          clear hfin hqi hqb hle
          go_wp2_with fail
          exact bodyPost_ret (v := .tuple #[.int .u8 (qb.toNat : Int), .string ⟨S.toArray⟩]) (by simp [results, Tryz.results39, go_sem, unhide HQI]) rfl ⟨qb, S, rfl, HFIN, hBr⟩
end Go.Proofs.YtmlmplmghlbdmaaGreatDoor

namespace Go.Proofs.YtmlmplmghlbdmaaGreatDoor
open Go.RowKit
set_option linter.unusedVariables false
set_option linter.unusedSimpArgs false

set_option maxRecDepth 100000 in
set_option maxHeartbeats 2000000 in
theorem qlong (N D : List UInt8) (p n : Nat) (w : World) (hN : N.length = p) (hp : p ≤ 200) (hD : D.length = n) (hn : n ≤ 150) (dN : Dm.allD N) (dD : Dm.allD D) (hpos : 0 < Dm.num D) :
    Calls Tryz.prog 36 #[.string ⟨N.toArray⟩, .string ⟨D.toArray⟩] w fun e w' => ∃ (Q R : List UInt8), e = .returned (.tuple #[.string ⟨Q.toArray⟩, .string ⟨R.toArray⟩]) ∧ Q.length = p ∧ Dm.allD Q ∧ Dm.allD R ∧ R.length ≤ n + 1 ∧ Hid (Dm.num Q = Dm.num N / Dm.num D ∧ Dm.num R = Dm.num N % Dm.num D) ∧ Below w.heap.size w w' := by
  have HN := hide hN
  have HD := hide hD
  have hNi : (N.length : Int) = (p : Int) := by omega
  clear hN hD
  go_enter Tryz.func36, Tryz.ntmps36
  go_wp2_with fail
  go_loopg [8, 6, 7] p (fun g i o r wx => ∃ (k : Nat) (Q R : List UInt8), k + g = p ∧ i = .int .i64 (k : Int) ∧ o = .string ⟨Q.toArray⟩ ∧ r = .string ⟨R.toArray⟩ ∧ Q.length = k ∧ Dm.allD Q ∧ Dm.allD R ∧ R.length ≤ n + 1 ∧ Hid (Dm.num Q = Dm.num (N.take k) / Dm.num D ∧ Dm.num R = Dm.num (N.take k) % Dm.num D) ∧ Below w.heap.size w wx)
  case atStart => exact ⟨0, [], [48], by omega, rfl, rfl, rfl, rfl, Dm.allD_nil, fun c hc => by simp at hc; rw [hc]; rfl, by simp, hide ⟨by rw [List.take_zero, Dm.num_nil, Nat.zero_div], by rw [List.take_zero, Dm.num_nil, Nat.zero_mod]; rfl⟩, Below.refl _ _⟩
  case round =>
    obtain ⟨k, Q, R, hkg, rfl, rfl, rfl, hQl, hQd, hRd, hRl, hQR, hB⟩ := hrel
    have hQ2 : Q.length ≤ 300 := by omega
    by_cases hlt : k < p
    · have hkN : k < N.length := by rw [unhide HN]; exact hlt
      have hkS : k < (⟨N.toArray⟩ : ByteArray).size := by rw [mk_size]; exact hkN
      have hki : (k : Int) < (N.length : Int) := by omega
      have hcd : Dm.isD (N[k]'hkN) = true := dN _ (List.getElem_mem hkN)
      obtain ⟨c, hc⟩ : ∃ c, N[k]'hkN = c := ⟨_, rfl⟩
      have hcS : (⟨N.toArray⟩ : ByteArray)[k]'hkS = c := hc
      have hRlt : Dm.num R < Dm.num D := by rw [(unhide hQR).2]; exact Nat.mod_lt _ hpos
      have hst := qstep R D c n wr (unhide HD) hn hRd dD (by rw [← hc]; exact hcd) hRl hRlt
      have HST := hide hst
      have htk : N.take (k + 1) = N.take k ++ [c] := by rw [List.take_succ_eq_append_getElem hkN, hc]
      have HTK := hide htk
      clear hst htk hRlt hcd
      go_wp2_with fail
      first
      | refine (unhide HST).mono ?_
      | (simp only [hc]; refine (unhide HST).mono ?_)
      rintro e w3 ⟨q, S, rfl, hqs, hb3⟩
      have cv := conv_v (q.toNat : Int) q rfl w3
      have ej := one_join Q q
      go_wp2_with fail
      go_roundg (gk - 1)
      case measure => omega
      case rel =>
        obtain ⟨s1, s2, s3, s4, s5⟩ := unhide hqs
        obtain ⟨m1, m2⟩ := unhide hQR
        have hds := Dm.div_step (X := Dm.num (N.take k)) (d := Dm.dv c) hpos
        refine ⟨k + 1, Q ++ [q], S, by omega, by go_num, by first | exact congrArg Value.string ej | rfl, rfl, by rw [List.length_append, hQl]; rfl, Dm.allD_append.2 ⟨hQd, fun x hx => by simp at hx; rw [hx]; exact s1⟩, s4, by omega, hide ⟨?_, ?_⟩, (hB.trans (hb3.mono hB.size)).alloc (by have := hB.size; have := hb3.size; omega) _⟩
        · rw [unhide HTK, Dm.num_snoc, Dm.num_snoc, hds.1, s2, m1, m2]
        · rw [unhide HTK, Dm.num_snoc, hds.2, s5, m2]
    · have hk : k = p := by omega
      subst hk
      have hki : ¬ (k : Int) < (N.length : Int) := by omega
      have hfin := unhide hQR
      rw [List.take_of_length_le (by rw [unhide HN]; exact Nat.le_refl _)] at hfin
      have HF := hide hfin
      clear hfin
      go_wp2_with fail
      exact bodyPost_ret (v := .tuple #[.string ⟨Q.toArray⟩, .string ⟨R.toArray⟩]) (by simp [results, Tryz.results36, go_sem]) rfl ⟨Q, R, rfl, hQl, hQd, hRd, hRl, HF, hB⟩
theorem tl_drop {l : List UInt8} {m : Nat} (h : m + (Dm.tl l).length = l.length) : l.drop m = Dm.tl l := by
  obtain ⟨j, hj⟩ := Dm.tl_spec l
  have hl := congrArg List.length hj
  rw [List.length_append, List.length_replicate] at hl
  have e : m = j := by omega
  subst e
  have hr : (List.replicate m (48 : UInt8)).length = m := List.length_replicate
  have e2 : (List.replicate m (48 : UInt8) ++ Dm.tl l).drop m = Dm.tl l := by
    rw [List.drop_append_of_le_length (by rw [hr]; exact Nat.le_refl _), List.drop_of_length_le (by rw [hr]; exact Nat.le_refl _), List.nil_append]
  rw [← hj] at e2
  exact e2
theorem align_b (na nb : Bool) (a b : List UInt8) (ja jb S n p q : Nat) (X Y : List UInt8) (w : World) (ha : a.length ≤ 60) (hb : b.length ≤ 60) (hp : ja + p = S) (hq : jb + q = S) (hS60 : S ≤ 60) (hS : p = 0 ∨ q = 0) (hn1 : a.length + p ≤ n) (hn2 : b.length + q ≤ n) (hn : n = a.length + p ∨ n = b.length + q) (hX : Hid (alignL a p n = X)) (hY : Hid (alignL b q n = Y)) :
    Calls Tryz.prog 45 #[.agg #[.bool na, .string ⟨a.toArray⟩, .int .i64 (ja : Int)], .agg #[.bool nb, .string ⟨b.toArray⟩, .int .i64 (jb : Int)]] w fun e w' => e = .returned (.tuple #[.string ⟨X.toArray⟩, .string ⟨Y.toArray⟩, .int .i64 (S : Int)]) ∧ Below w.heap.size w w' := by
  have := align_any na nb a b ja jb S n p q w ha hb hp hq hS60 hS hn1 hn2 hn
  rw [unhide hX, unhide hY] at this
  exact this
set_option maxRecDepth 100000 in
set_option maxHeartbeats 2000000 in
theorem qmod_r (x : Bool) (y : List UInt8) (z : Nat) (x2 : Bool) (y2 : List UInt8) (z2 n : Nat) (w : World) (h : Dm.May ⟨x, y, z⟩) (h2 : Dm.May ⟨x2, y2, z2⟩) (hne : y2 ≠ [48]) (hn : max (z : Int) (z2 : Int) = (n : Int)) :
    Calls Tryz.prog 15 #[.agg #[.bool x, .string ⟨y.toArray⟩, .int .i64 (z : Int)], .agg #[.bool x2, .string ⟨y2.toArray⟩, .int .i64 (z2 : Int)]] w fun e w' => ∃ r, e = .returned (.tuple #[.agg #[.bool (rx r), .string (ry r), .int .i64 (rz r)], .int .i64 (re r)]) ∧ Hid (Dm.Rep (Dm.sgn x ((Dm.num y * 10 ^ (n - z)) % (Dm.num y2 * 10 ^ (n - z2)))) n r) ∧ Below w.heap.size w w' := by
  have ht := Tri.start w (.bool x) (.string ⟨y.toArray⟩) (.int .i64 (z : Int)) (.bool x2) (.string ⟨y2.toArray⟩) (.int .i64 (z2 : Int)) 23
  obtain ⟨l1, l2, l3⟩ := may_len h
  obtain ⟨m1, m2, m3⟩ := may_len h2
  have hpos := (Dm.lead_of h2 hne).2
  simp only at l1 l2 l3 m1 m2 m3 hpos
  have q0 : (y2 == [48]) = false := beq_eq_false_iff_ne.2 hne
  have hn60 : n ≤ 60 := by omega
  obtain ⟨L, hL⟩ : ∃ L, L = max (y.length + (n - z)) (y2.length + (n - z2)) := ⟨_, rfl⟩
  have hL120 : L ≤ 120 := by omega
  obtain ⟨X, hX⟩ : ∃ X, alignL y (n - z) L = X := ⟨_, rfl⟩
  obtain ⟨Y, hY⟩ : ∃ Y, alignL y2 (n - z2) L = Y := ⟨_, rfl⟩
  have x1 : X.length = L := by rw [← hX]; exact align_len (by omega)
  have x2' : Dm.allD X := by rw [← hX]; exact align_allD _ _ h.1
  have x3 : Dm.num X = Dm.num y * 10 ^ (n - z) := by rw [← hX]; exact align_num _ _ _
  have y1 : Y.length = L := by rw [← hY]; exact align_len (by omega)
  have y2' : Dm.allD Y := by rw [← hY]; exact align_allD _ _ h2.1
  have y3 : Dm.num Y = Dm.num y2 * 10 ^ (n - z2) := by rw [← hY]; exact align_num _ _ _
  obtain ⟨T, hT⟩ : ∃ T, Dm.tl Y = T := ⟨_, rfl⟩
  have t1 : Dm.allD T := by rw [← hT]; exact Dm.tl_allD y2'
  have t2 : Dm.num T = Dm.num y2 * 10 ^ (n - z2) := by rw [← hT, Dm.tl_num, y3]
  have t3 : T.length ≤ L := by
    obtain ⟨j, hj⟩ := Dm.tl_spec Y
    have := congrArg List.length hj
    rw [List.length_append, List.length_replicate, hT] at this
    omega
  obtain ⟨m, hm⟩ : ∃ m, m + (Dm.tl Y).length = Y.length := ⟨Y.length - T.length, by rw [hT]; omega⟩
  have ed : (⟨Y.toArray⟩ : ByteArray).extract m Y.length = ⟨T.toArray⟩ := by rw [drop_str, tl_drop hm, hT]
  have mi0 : (0 : Int) ≤ (m : Int) := by omega
  have mi1 : (m : Int) ≤ (Y.length : Int) := by omega
  have hTpos : 0 < Dm.num T := by rw [t2]; exact Nat.mul_pos hpos (Nat.pow_pos (by decide))
  have HAL := hide (fun W => align_b x x2 y y2 z z2 n L (n - z) (n - z2) X Y W l2 m2 (by omega) (by omega) hn60 (by omega) (by omega) (by omega) (by omega) (hide hX) (hide hY))
  have HLO := hide (fun W => qlong X T L T.length W x1 (by omega) rfl (by omega) x2' t1 hTpos)
  have HFI := hide (fun W => first_b Y m W (by omega) (hide hm))
  have HED := hide ed
  have hYl : Y.length ≤ 200 := by omega
  have X3 := hide x3
  have T2 := hide t2
  clear hX hY x1 x2' x3 y1 y2' y3 hT t1 t2 hm ed hL hTpos
  obtain ⟨⟨c0, c1, c2⟩, ⟨d0, d1, d2⟩⟩ := ht.cells
  go_enter Tryz.func15, Tryz.ntmps15
  go_wp2_with fail
  clear c0 c1 c2 d0 d1 d2
  refine (unhide HAL _).mono ?_
  rintro e w1 ⟨rfl, hb1⟩
  replace ht := ht.next hb1
  go_wp2_with fail
  refine (unhide HFI _).mono ?_
  rintro e w2 ⟨rfl, rfl⟩
  go_wp2_with fail
  simp only [unhide HED]
  refine (unhide HLO _).mono ?_
  rintro e w3 ⟨Q, R, rfl, hQl, hQd, hRd, hRl, hQR, hb3⟩
  replace ht := ht.next hb3
  obtain ⟨⟨c0, c1, c2⟩, ⟨d0, d1, d2⟩⟩ := ht.cells
  go_wp2_with fail
  clear c0 c1 c2 d0 d1 d2
  refine (norm_r x R n _ _ (by omega) (by omega) hRd rfl).mono ?_
  rintro e w4 ⟨r, rfl, hr, hb4⟩
  replace ht := ht.next hb4
  rw [(unhide hQR).2, unhide X3, unhide T2] at hr
  have HR := hide hr
  clear hr
  obtain ⟨⟨k0, k1, k2⟩, ⟨f0, f1, f2⟩⟩ := ht.out
  go_wp2_with fail
  exact bodyPost_ret (v := tV r) (by simp [results, Tryz.results15, go_sem, k0, k1, k2, tV]) rfl ⟨r, rfl, HR, ht.end _ _ _⟩
end Go.Proofs.YtmlmplmghlbdmaaGreatDoor

namespace Go.Proofs.YtmlmplmghlbdmaaGreatDoor
open Go.RowKit
set_option linter.unusedVariables false
set_option linter.unusedSimpArgs false

/-- The quotient and the rest behind j noughts. -/
def QD (y y2 : List UInt8) (j : Nat) (Q R : List UInt8) : Prop := Q.length = y.length + j ∧ Dm.allD Q ∧ Dm.allD R ∧ R.length ≤ y2.length + 1 ∧ Dm.num Q = Dm.num y * 10 ^ j / Dm.num y2 ∧ Dm.num R = Dm.num y * 10 ^ j % Dm.num y2
theorem QD.next {y y2 Q R S : List UInt8} {j : Nat} {q : UInt8} (hpos : 0 < Dm.num y2) (h : QD y y2 j Q R) (hs : Dm.isD q = true ∧ Dm.dv q = (10 * Dm.num R + Dm.dv 48) / Dm.num y2 ∧ S.length = y2.length + 1 ∧ Dm.allD S ∧ Dm.num S = (10 * Dm.num R + Dm.dv 48) % Dm.num y2) : QD y y2 (j + 1) (Q ++ [q]) S := by
  obtain ⟨h1, h2, h3, h4, h5, h6⟩ := h
  obtain ⟨s1, s2, s3, s4, s5⟩ := hs
  have hds := Dm.div_step (X := Dm.num y * 10 ^ j) (d := Dm.dv 48) hpos
  have e : Dm.num y * 10 ^ (j + 1) = 10 * (Dm.num y * 10 ^ j) + Dm.dv 48 := by
    rw [Nat.pow_succ, ← Nat.mul_assoc, Nat.mul_comm _ 10]; rfl
  refine ⟨by rw [List.length_append, h1]; rfl, Dm.allD_append.2 ⟨h2, fun x hx => by simp at hx; rw [hx]; exact s1⟩, s4, by omega, ?_, ?_⟩
  · rw [e, Dm.num_snoc, hds.1, s2, h5, h6]
  · rw [e, hds.2, s5, h6]
theorem tl_len_le (l : List UInt8) : (Dm.tl l).length ≤ l.length := by
  obtain ⟨j, hj⟩ := Dm.tl_spec l
  have := congrArg List.length hj
  rw [List.length_append, List.length_replicate] at this
  omega
theorem tl_lt (l : List UInt8) (h : Dm.allD l) : Dm.num l < 10 ^ (Dm.tl l).length := by
  have := Dm.num_lt (Dm.tl_allD h)
  rwa [Dm.tl_num] at this
theorem tl_ge (l : List UInt8) (h : Dm.allD l) (hk : 0 < (Dm.tl l).length) : 10 ^ ((Dm.tl l).length - 1) ≤ Dm.num l := by
  have hne : Dm.tl l ≠ [] := by intro e; rw [e] at hk; simp at hk
  obtain ⟨c, t, e, hc⟩ := Dm.tl_lead l hne
  have hd := Dm.tl_allD h
  have hn := Dm.tl_num l
  rw [e] at hd hn ⊢
  have := Dm.num_ge (l := t) (Dm.allD_cons.1 hd).1 hc
  rw [List.length_cons, Nat.add_sub_cancel, ← hn]
  exact this
namespace Dm
theorem up_lo {t W R : Nat} (h : W % 10 ^ t < 5 * 10 ^ (t - 1)) : upL t W R = false := by
  unfold upL
  rw [decide_eq_false (by omega), decide_eq_false (by omega)]; rfl
theorem up_hi {t W R : Nat} (h : 5 * 10 ^ (t - 1) < W % 10 ^ t) : upL t W R = true := by
  unfold upL
  rw [decide_eq_true h]; rfl
theorem up_half {t W R : Nat} (h : W % 10 ^ t = 5 * 10 ^ (t - 1)) : upL t W R = (decide (0 < R) || decide (W / 10 ^ t % 2 = 1)) := by
  unfold upL
  rw [decide_eq_false (by omega), decide_eq_true h]; rfl
end Dm
theorem drop_ex2 {W : Nat} (h : 10 ^ 34 ≤ W) : ∃ t, Dm.DropT W t := by
  obtain ⟨l, hl, e⟩ := Dm.digits_exist W
  have h1 := tl_lt l hl
  rw [e] at h1
  have h3 : 34 < (Dm.tl l).length := by
    rcases Nat.lt_or_ge 34 (Dm.tl l).length with g | g
    · exact g
    · have := Nat.pow_le_pow_right (n := 10) (by omega) g
      omega
  have h2 := tl_ge l hl (by omega)
  rw [e] at h2
  refine ⟨(Dm.tl l).length - 34, .inr ⟨by omega, ?_, ?_⟩⟩
  · rw [show (Dm.tl l).length - 34 + 33 = (Dm.tl l).length - 1 from by omega]; exact h2
  · rw [show (Dm.tl l).length - 34 + 34 = (Dm.tl l).length from by omega]; exact h1
theorem odd_u8 : ∀ c : Fin 256, 48 ≤ c.val → c.val ≤ 57 → (((c.val : Int) - 48) % 2 == 1) = decide (c.val % 2 = 1) := by decide +kernel
theorem qd_long {s : Bool} {y y2 Q R O : List UInt8} {z z2 j t tn n : Nat} {ub : Bool} (hn : (n : Int) = max 0 (35 + (y2.length : Int) - (y.length : Int))) (hB : 0 < Dm.num y2) (hd2 : Dm.allD y2) (hbig : Dm.num y = 0 ∨ 10 ^ 34 ≤ Dm.num y * 10 ^ n / Dm.num y2) (hdr : Dm.DropT (Dm.num y * 10 ^ n / Dm.num y2) tn)
    (hQD : QD y y2 j Q R) (hL : (Dm.tl Q).length = 34 + t) (ht : 1 ≤ t) (hub : Dm.upL t (Dm.num Q) (Dm.num R) = ub) (hO : Dm.num O = Dm.num Q / 10 ^ t + ub.toNat) :
    ∀ r, Dm.Rep (Dm.sgn s (Dm.num O) * Dm.p10 (-((z : Int) - z2 + j - t)).toNat) ((z : Int) - z2 + j - t).toNat r → Dm.DivRep s y z y2 z2 r := by
  intro r hr
  obtain ⟨b1, b2, b3, b4, b5, b6⟩ := hQD
  have w1 := tl_ge Q b2 (by omega)
  have w2 := tl_lt Q b2
  rw [hL] at w1 w2
  rw [show 34 + t - 1 = t + 33 from by omega] at w1
  rw [show 34 + t = t + 34 from by omega] at w2
  rw [hO, ← hub] at hr
  rw [b5] at w1 w2
  rw [b5, b6] at hr
  have hb : 10 ^ 34 ≤ Dm.num y * 10 ^ n / Dm.num y2 := by
    rcases hbig with g | g
    · rw [g, Nat.zero_mul, Nat.zero_div] at w1
      have := Dm.pow_pos' (t + 33)
      omega
    · exact g
  exact Dm.div_long hn hB hd2 ht w1 w2 hdr hb hr
theorem qd_short {s : Bool} {y y2 Q R : List UInt8} {z z2 j tn n : Nat} (hn : (n : Int) = max 0 (35 + (y2.length : Int) - (y.length : Int))) (hB : 0 < Dm.num y2) (hbig : Dm.num y = 0 ∨ 10 ^ 34 ≤ Dm.num y * 10 ^ n / Dm.num y2) (hdr : Dm.DropT (Dm.num y * 10 ^ n / Dm.num y2) tn)
    (hQD : QD y y2 j Q R) (hL : (Dm.tl Q).length ≤ 34) (hR : Dm.num R = 0) :
    ∀ r, Dm.Rep (Dm.sgn s (Dm.num Q) * Dm.p10 (-((z : Int) - z2 + j)).toNat) ((z : Int) - z2 + j).toNat r → Dm.DivRep s y z y2 z2 r := by
  intro r hr
  obtain ⟨b1, b2, b3, b4, b5, b6⟩ := hQD
  have w2 := tl_lt Q b2
  have w3 := Nat.pow_le_pow_right (n := 10) (by omega) hL
  rw [b5] at w2 hr
  rw [hR] at b6
  exact Dm.div_short hn hB b6.symm (by omega) hdr hbig hr
/-- Which way it is rounded: by the first digit that is dropped, and the others. -/
theorem qd_up {t W Rn : Nat} {c : UInt8} {u : List UInt8} (hu : u.length + 1 = t) (hd : Dm.isD c = true) (hud : Dm.allD u) (h : Dm.num (c :: u) = W % 10 ^ t) :
    (c.toNat < 53 → Dm.upL t W Rn = false) ∧ (53 < c.toNat → Dm.upL t W Rn = true) ∧ (c.toNat = 53 → ¬ Dm.num u = 0 → Dm.upL t W Rn = true) ∧ (c.toNat = 53 → Dm.num u = 0 → ¬ Rn = 0 → Dm.upL t W Rn = true) ∧ (c.toNat = 53 → Dm.num u = 0 → Rn = 0 → Dm.upL t W Rn = decide (W / 10 ^ t % 2 = 1)) := by
  have hlt := Dm.num_lt hud
  rw [Dm.num_cons, show u.length = t - 1 from by omega] at h
  rw [show u.length = t - 1 from by omega] at hlt
  have hc := Dm.isD_iff.1 hd
  have hdv : Dm.dv c = c.toNat - 48 := rfl
  refine ⟨fun g => Dm.up_lo ?_, fun g => Dm.up_hi ?_, fun g g2 => Dm.up_hi ?_, fun g g2 g3 => ?_, fun g g2 g3 => ?_⟩
  · have : Dm.dv c * 10 ^ (t - 1) ≤ 4 * 10 ^ (t - 1) := Nat.mul_le_mul_right _ (by omega)
    omega
  · have : 6 * 10 ^ (t - 1) ≤ Dm.dv c * 10 ^ (t - 1) := Nat.mul_le_mul_right _ (by omega)
    have := Dm.pow_pos' (t - 1)
    omega
  · have h5 : Dm.dv c = 5 := by omega
    rw [h5] at h
    omega
  · have h5 : Dm.dv c = 5 := by omega
    rw [h5, g2, Nat.add_zero] at h
    rw [Dm.up_half h.symm, decide_eq_true (by omega)]
    rfl
  · have h5 : Dm.dv c = 5 := by omega
    rw [h5, g2, Nat.add_zero] at h
    rw [Dm.up_half h.symm, decide_eq_false (by omega)]
    rfl
theorem norm_zs (x x2 : Bool) (O zs : List UInt8) (w : World) (hl : O.length ≤ 400) (hz : zs.length ≤ 500) (hd : Dm.allD O) (hzd : Dm.allD zs) :
    Calls Tryz.prog 43 #[.bool (!(x == x2)), .string (⟨O.toArray⟩ ++ ⟨zs.toArray⟩), .int .i64 0] w fun e w' => ∃ r, e = .returned (.tuple #[.agg #[.bool (rx r), .string (ry r), .int .i64 (rz r)], .int .i64 (re r)]) ∧ Hid (Dm.Rep (Dm.sgn (x != x2) (Dm.num (O ++ zs))) 0 r) ∧ Below w.heap.size w w' := by
  rw [mk_join O zs]
  refine (norm_r (!(x == x2)) (O ++ zs) 0 _ w (by rw [List.length_append]; omega) (by decide) (Dm.allD_append.2 ⟨hd, hzd⟩) rfl).mono ?_
  rintro e w' ⟨r, rfl, hr, hB⟩
  exact ⟨r, rfl, hide hr, hB⟩
theorem norm_d (x : Bool) (O : List UInt8) (S : Nat) (w : World) (hl : O.length ≤ 1000) (hS : S ≤ 1000) (hd : Dm.allD O) :
    Calls Tryz.prog 43 #[.bool x, .string ⟨O.toArray⟩, .int .i64 (S : Int)] w fun e w' => ∃ r, e = .returned (.tuple #[.agg #[.bool (rx r), .string (ry r), .int .i64 (rz r)], .int .i64 (re r)]) ∧ Hid (Dm.Rep (Dm.sgn x (Dm.num O)) S r) ∧ Below w.heap.size w w' := by
  refine (norm_r x O S _ w hl hS hd rfl).mono ?_
  rintro e w' ⟨r, rfl, hr, hB⟩
  exact ⟨r, rfl, hide hr, hB⟩

set_option maxRecDepth 100000 in
set_option maxHeartbeats 4000000 in
theorem qdiv_r (x : Bool) (y : List UInt8) (z : Nat) (x2 : Bool) (y2 : List UInt8) (z2 n : Nat) (w : World) (h : Dm.May ⟨x, y, z⟩) (h2 : Dm.May ⟨x2, y2, z2⟩) (hne : y2 ≠ [48]) (hn : (n : Int) = max 0 (35 + (y2.length : Int) - (y.length : Int))) :
    Calls Tryz.prog 13 #[.agg #[.bool x, .string ⟨y.toArray⟩, .int .i64 (z : Int)], .agg #[.bool x2, .string ⟨y2.toArray⟩, .int .i64 (z2 : Int)]] w fun e w' => ∃ r, e = .returned (.tuple #[.agg #[.bool (rx r), .string (ry r), .int .i64 (rz r)], .int .i64 (re r)]) ∧ Hid (Dm.DivRep (x != x2) y z y2 z2 r) ∧ Below w.heap.size w w' := by
  have ht := Tri.start w (.bool x) (.string ⟨y.toArray⟩) (.int .i64 (z : Int)) (.bool x2) (.string ⟨y2.toArray⟩) (.int .i64 (z2 : Int)) 23
  obtain ⟨l1, l2, l3⟩ := may_len h
  obtain ⟨m1, m2, m3⟩ := may_len h2
  have hpos := (Dm.lead_of h2 hne).2
  simp only at l1 l2 l3 m1 m2 m3 hpos
  have q0 : (y2 == [48]) = false := beq_eq_false_iff_ne.2 hne
  have hn95 : n ≤ 95 := by omega
  have hd1 : Dm.allD y := h.1
  have hd2 : Dm.allD y2 := h2.1
  have hbig : Dm.num y = 0 ∨ 10 ^ 34 ≤ Dm.num y * 10 ^ n / Dm.num y2 := by
    by_cases e : y = [48]
    · left; rw [e]; rfl
    · exact .inr (Dm.big_quot h.1 (Dm.lead_of h e).1 h2.1 hn hpos)
  obtain ⟨tn, htn⟩ : ∃ tn, Dm.DropT (Dm.num y * 10 ^ n / Dm.num y2) tn := by
    rcases hbig with g | g
    · exact ⟨0, .inl ⟨by rw [g, Nat.zero_mul, Nat.zero_div], rfl⟩⟩
    · exact drop_ex2 g
  have HBIG := hide hbig
  have HDR := hide htn
  have HN := hide hn
  have HLO := hide (fun W => qlong y y2 y.length y2.length W rfl (by omega) rfl (by omega) hd1 hd2 hpos)
  have hw0 : IntKind.i64.wrap ((z : Int) - (z2 : Int)) = (z : Int) - (z2 : Int) := wrap_id (by omega) (by omega)
  clear hn hbig htn
  obtain ⟨⟨c0, c1, c2⟩, ⟨d0, d1, d2⟩⟩ := ht.cells
  go_enter Tryz.func13, Tryz.ntmps13
  go_wp2_with fail
  clear c0 c1 c2 d0 d1 d2
  refine (unhide HLO _).mono ?_
  rintro e w1 ⟨Q0, R0, rfl, a1, a2, a3, a4, a5, hb1⟩
  replace ht := ht.next hb1
  have hQD0 : QD y y2 0 Q0 R0 := ⟨by omega, a2, a3, a4, by rw [(unhide a5).1, Nat.pow_zero, Nat.mul_one], by rw [(unhide a5).2, Nat.pow_zero, Nat.mul_one]⟩
  have HQ0 := hide hQD0
  clear hb1 a1 a2 a3 a4 a5 hQD0
  obtain ⟨⟨c0, c1, c2⟩, ⟨d0, d1, d2⟩⟩ := ht.cells
  go_wp2_with fail
  clear c0 c1 c2 d0 d1 d2
  go_loopg [6, 7, 8] n (fun g v6 v7 v8 wx => ∃ (j : Nat) (Q R : List UInt8), v6 = .string ⟨Q.toArray⟩ ∧ v7 = .string ⟨R.toArray⟩ ∧ v8 = .int .i64 ((z : Int) - z2 + j) ∧ j + g = n ∧ Hid (QD y y2 j Q R) ∧ Tri w (.bool x) (.string ⟨y.toArray⟩) (.int .i64 (z : Int)) (.bool x2) (.string ⟨y2.toArray⟩) (.int .i64 (z2 : Int)) wx)
  case atStart => exact ⟨0, Q0, R0, rfl, rfl, by go_num, by omega, HQ0, ht⟩
  case round =>
    clear ht
    obtain ⟨j, Q, R, rfl, rfl, rfl, hjg, hQD, ht⟩ := hrel
    obtain ⟨b1, b2, b3, b4, b5, b6⟩ := unhide hQD
    have hQl : Q.length ≤ 160 := by omega
    have hRl : R.length ≤ 61 := by omega
    obtain ⟨nb, hnb⟩ : ∃ nb, decide (Dm.num R = 0) = nb := ⟨_, rfl⟩
    have HNO := hide (fun W => nought_b R nb W (by omega) b3 (hide hnb))
    have HNB := hide hnb
    clear b1 b5 hnb
    obtain ⟨m, hm⟩ : ∃ m, m + (Dm.tl Q).length = Q.length := ⟨Q.length - (Dm.tl Q).length, by have := tl_len_le Q; omega⟩
    obtain ⟨L, hL⟩ : ∃ L, (Dm.tl Q).length = L := ⟨_, rfl⟩
    have hmi : (Q.length : Int) - (m : Int) = (L : Int) := by omega
    have hml : m ≤ 160 := by omega
    have hwm : IntKind.i64.wrap ((Q.length : Int) - (m : Int)) = (L : Int) := by rw [hmi]; exact wrap_id (by omega) (by omega)
    have hmL : m + L = Q.length := by omega
    have HFI := hide (fun W => first_b Q m W (by omega) (hide hm))
    have HL := hide hL
    clear hm hL
    obtain ⟨⟨c0, c1, c2⟩, ⟨d0, d1, d2⟩⟩ := ht.cells
    go_upto_region 5 with fail
    go_cut [43] from 33 to 42 (fun v wx => wx = wr ∧ ∃ b : Bool, v = .bool b ∧ Hid (b = true → L < 35 ∧ ¬ Dm.num R = 0) ∧ Hid (b = false → (Dm.num R = 0 ∨ 35 ≤ L)))
    case first =>
      go_wp2_with fail
      refine (unhide HNO _).mono ?_
      rintro e w2 ⟨rfl, rfl⟩
      cases nb with
      | true =>
        have hR0 := of_decide_eq_true (unhide HNB)
        go_wp2_with fail
        go_meet
        case rel => exact ⟨rfl, false, rfl, hide (fun h => by cases h), hide (fun _ => .inl hR0)⟩
      | false =>
        have hR0 : ¬ Dm.num R = 0 := of_decide_eq_false (unhide HNB)
        go_wp2_with fail
        refine (unhide HFI _).mono ?_
        rintro e w3 ⟨rfl, rfl⟩
        by_cases hlt : L < 35
        · have hli : (L : Int) < 35 := by omega
          go_wp2_with fail
          go_meet
          case rel => exact ⟨rfl, true, by first | rfl | exact congrArg Value.bool (decide_eq_true (by omega)), hide (fun _ => ⟨hlt, hR0⟩), hide (fun h => by cases h)⟩
        · have hli : ¬ (L : Int) < 35 := by omega
          go_wp2_with fail
          go_meet
          case rel => exact ⟨rfl, false, by first | rfl | exact congrArg Value.bool (decide_eq_false (by omega)), hide (fun h => by cases h), hide (fun _ => .inr (by omega))⟩
    case rest =>
    obtain ⟨rfl, bb, rfl, hyes, hno⟩ := hcut
    clear HNO HNB hwm hmi
    cases bb with
    | true =>
      obtain ⟨hlt, hR0⟩ := unhide hyes rfl
      have hgk : 1 ≤ gk := by
        rcases Nat.eq_zero_or_pos gk with g0 | g0
        · exfalso
          have hjn : j = n := by omega
          subst hjn
          have hq := unhide hQD
          rcases unhide HBIG with g1 | g1
          · have := hq.2.2.2.2.2
            rw [g1, Nat.zero_mul, Nat.zero_mod] at this
            exact hR0 this
          · have h5 := hq.2.2.2.2.1
            have h6 := tl_lt Q hq.2.1
            rw [unhide HL, h5] at h6
            have h7 := Nat.pow_le_pow_right (n := 10) (by omega) (show L ≤ 34 from by omega)
            omega
        · exact g0
      have hRlt : Dm.num R < Dm.num y2 := by rw [b6]; exact Nat.mod_lt _ hpos
      have HST := hide (fun W => qstep R y2 48 y2.length W rfl (by omega) b3 hd2 rfl (by omega) hRlt)
      clear hRlt b6 b2 HFI hyes hno
      go_wp2_with fail
      clear c0 c1 c2 d0 d1 d2
      refine (unhide HST _).mono ?_
      rintro e w4 ⟨q, S, rfl, hqs, hb4⟩
      have hQN := QD.next hpos (unhide hQD) (unhide hqs)
      have HQN := hide hQN
      clear hQN
      have cv := conv_v (q.toNat : Int) q rfl w4
      have ej := one_join Q q
      have hwj : IntKind.i64.wrap ((z : Int) - z2 + j + 1) = (z : Int) - z2 + j + 1 := wrap_id (by omega) (by omega)
      replace ht := ht.next hb4
      replace ht := ht.next ((Below.refl _ _).alloc (Nat.le_refl _) (.cells #[.int .u8 (q.toNat : Int)] 5))
      go_wp2_with fail
      go_roundg (gk - 1)
      case measure => omega
      case rel => exact ⟨j + 1, Q ++ [q], S, by first | exact congrArg Value.string ej | rfl, rfl, by go_num, by omega, HQN, ht⟩
    | false =>
      have hst := unhide hno rfl
      rw [← unhide HL] at hst
      have hstop := hide hst
      have hjn : j ≤ n := by omega
      have HFI2 := HFI
      clear hst hyes hno HLO HQ0 hjg b6
      obtain ⟨A34, hA⟩ : ∃ A34, m + 34 = A34 := ⟨_, rfl⟩
      have hAi : (m : Int) + 34 = (A34 : Int) := by omega
      have HA := hide hA
      have HAI := hide hAi
      have hA200 : A34 ≤ 200 := by omega
      clear hA hAi
      go_wp2_with fail
      refine (unhide HFI _).mono ?_
      rintro e w5 ⟨rfl, rfl⟩
      go_upto_region 11 with fail
      simp only [unhide HAI]
      go_upto_if 65 with fail
      go_cut [6, 8, 12, 13, 14, 15] from 16 to 112 (fun v6 v8 v12 v13 v14 v15 wx => ∃ (O : List UInt8) (sc : Int), v6 = .string ⟨O.toArray⟩ ∧ v8 = .int .i64 sc ∧ Dm.allD O ∧ O.length ≤ 300 ∧ -400 ≤ sc ∧ sc ≤ 400 ∧ Hid (∀ r, Dm.Rep (Dm.sgn (x != x2) (Dm.num O) * Dm.p10 (-sc).toNat) sc.toNat r → Dm.DivRep (x != x2) y z y2 z2 r) ∧ Tri w (.bool x) (.string ⟨y.toArray⟩) (.int .i64 (z : Int)) (.bool x2) (.string ⟨y2.toArray⟩) (.int .i64 (z2 : Int)) wx)
      case first =>
        as_aux_lemma =>
          by_cases h34 : L ≤ 34
          · have hli : ¬ (A34 : Int) < (Q.length : Int) := by have := unhide HA; omega
            have hR0 : Dm.num R = 0 := by
              rcases unhide hstop with g | g
              · exact g
              · rw [unhide HL] at g; omega
            go_wp2_with fail
            go_meet
            case rel => exact ⟨Q, _, rfl, rfl, b2, by omega, by omega, by omega, hide (qd_short (unhide HN) hpos (unhide HBIG) (unhide HDR) (unhide hQD) (by rw [unhide HL]; exact h34) hR0), ht⟩
          · have hli : (A34 : Int) < (Q.length : Int) := by have := unhide HA; omega
            obtain ⟨t, hLt⟩ : ∃ t, L = 34 + t := ⟨L - 34, by omega⟩
            have ht1 : 1 ≤ t := by omega
            have hLT : (Dm.tl Q).length = 34 + t := by rw [unhide HL, hLt]
            have HLT := hide hLT
            have hAt : A34 + t = Q.length := by have := unhide HA; omega
            obtain ⟨s1, s2⟩ := Dm.split_num b2 A34 (by omega)
            rw [show Q.length - A34 = t from by omega] at s1 s2
            obtain ⟨Hd, hHd0⟩ : ∃ Hd, Q.take A34 = Hd := ⟨_, rfl⟩
            have hHd : Dm.allD Hd := by rw [← hHd0]; exact fun c hc => b2 c (List.mem_of_mem_take hc)
            have hHl : Hd.length = A34 := by rw [← hHd0, List.length_take]; omega
            have hTd : Dm.allD (Q.drop A34) := fun c hc => b2 c (List.mem_of_mem_drop hc)
            obtain ⟨c, u, hcu⟩ : ∃ c u, Q.drop A34 = c :: u := by
              cases hq : Q.drop A34 with
              | nil =>
                have := congrArg List.length hq
                rw [List.length_drop, List.length_nil] at this
                omega
              | cons c u => exact ⟨c, u, rfl⟩
            rw [hcu] at hTd s2
            have hul : u.length + 1 = t := by
              have := congrArg List.length hcu
              rw [List.length_drop, List.length_cons] at this
              omega
            have hcd : Dm.isD c = true := (Dm.allD_cons.1 hTd).1
            have hud : Dm.allD u := (Dm.allD_cons.1 hTd).2
            have e12 : (⟨Q.toArray⟩ : ByteArray).extract A34 Q.length = ⟨(c :: u).toArray⟩ := by rw [drop_str, hcu]
            have e13 : (⟨Q.toArray⟩ : ByteArray).extract 0 A34 = ⟨Hd.toArray⟩ := by rw [take_str, hHd0]
            have e77 : (⟨(c :: u).toArray⟩ : ByteArray).extract 1 (u.length + 1) = ⟨u.toArray⟩ := by
              have := drop_str (c :: u) 1
              rw [List.length_cons] at this
              rw [this]; rfl
            rw [hHd0] at s1
            obtain ⟨U1, U2, U3, U4, U5⟩ := qd_up (Rn := Dm.num R) hul hcd hud s2
            have hu300 : u.length ≤ 300 := by omega
            have hui : (u.length : Int) + 1 = (t : Int) := by omega
            have ai0 : (0 : Int) ≤ (A34 : Int) := by omega
            have ai1 : (A34 : Int) ≤ (Q.length : Int) := by omega
            have hsc : (z : Int) - z2 + j - ((u.length : Int) + 1) = (z : Int) - z2 + j - t := by omega
            have HSC := hide hsc
            have HHN := hide s1
            have HE12 := hide e12
            have HE13 := hide e13
            have HE77 := hide e77
            have HCV := hide (Dm.isD_iff.1 hcd)
            obtain ⟨X1, hX1⟩ : ∃ X1 : List UInt8, List.replicate (m + 33) 48 ++ [49] = X1 := ⟨_, rfl⟩
            have hX1n : Dm.num X1 = 1 := by rw [← hX1, Dm.num_zeros_append]; rfl
            have hX1d : Dm.allD X1 := by rw [← hX1]; exact Dm.allD_append.2 ⟨Dm.allD_zeros _, fun c hc => by simp at hc; rw [hc]; rfl⟩
            have hX1l : X1.length = A34 := by have := unhide HA; rw [← hX1, List.length_append, List.length_replicate]; simp; omega
            have HX1 := hide hX1
            have HX1N := hide hX1n
            have HPL := hide (fun W => plus_any ⟨Hd.toArray⟩ ⟨X1.toArray⟩ A34 W (by rw [mk_size]; exact hHl) (by rw [mk_size]; exact hX1l) (by omega) hHd hX1d)
            have hHli : (Hd.length : Int) = (A34 : Int) := by omega
            clear s1 s2 e12 e13 e77 hcu hHd0 hTd hX1 hX1n hX1d hX1l hul hsc hLT
            go_upto_region 13 with fail
            simp only [unhide HE12]
            go_upto_region 14 with fail
            simp only [unhide HE13]
            have hpf : 0 < (⟨(c :: u).toArray⟩ : ByteArray).size := by rw [mk_size]; simp
            have hidx : (⟨(c :: u).toArray⟩ : ByteArray)[0]'hpf = c := rfl
            rcases Nat.lt_trichotomy c.toNat 53 with g | g | g
            · have HUB := hide (U1 g)
              have n1 : ((((⟨(c :: u).toArray⟩ : ByteArray)[0]'hpf).toNat : Int) == 53) = false := by rw [hidx]; exact beq_eq_false_iff_ne.2 (by omega)
              have n2 : ¬ (53 : Int) ≤ (((⟨(c :: u).toArray⟩ : ByteArray)[0]'hpf).toNat : Int) := by rw [hidx]; omega
              clear U1 U2 U3 U4 U5 hidx
              go_wp2_with fail
              go_meet
              case rel => exact ⟨Hd, _, rfl, rfl, hHd, by omega, by omega, by omega, hide (fun r hr => qd_long (ub := false) (unhide HN) hpos hd2 (unhide HBIG) (unhide HDR) (unhide hQD) (unhide HLT) ht1 (unhide HUB) (by rw [unhide HHN]; rfl) r (by have hsc := unhide HSC; first | exact hr | (rw [hsc] at hr; exact hr))), ht⟩
            · have n1 : ((((⟨(c :: u).toArray⟩ : ByteArray)[0]'hpf).toNat : Int) == 53) = true := by rw [hidx, g]; rfl
              have n2 : (53 : Int) ≤ (((⟨(c :: u).toArray⟩ : ByteArray)[0]'hpf).toNat : Int) := by rw [hidx]; omega
              obtain ⟨nu, hnu⟩ : ∃ nu, decide (Dm.num u = 0) = nu := ⟨_, rfl⟩
              have HNU := hide hnu
              have UU3 := hide U3
              have UU4 := hide U4
              have UU5 := hide U5
              clear U1 U2 U3 U4 U5 hidx hnu
              go_wp2_with fail
              simp only [unhide HE77]
              refine (nought_b u nu _ (by omega) hud HNU).mono ?_
              rintro e w6 ⟨rfl, rfl⟩
              cases nu with
              | false =>
                have HUB := hide (unhide UU3 g (of_decide_eq_false (unhide HNU)))
                go_wp2_with fail
                refine (wide_b [49] X1 A34 (m + 33) _ (by have := unhide HA; simp; omega) (by omega) HX1).mono ?_
                rintro e w9 ⟨rfl, rfl⟩
                go_wp2_with fail
                refine (unhide HPL _).mono ?_
                rintro e w10 ⟨Lp, rfl, p1, p2, p3, p4⟩
                have HP3 := hide p3
                replace ht := ht.next p4
                clear p3
                go_wp2_with fail
                go_meet
                case rel => exact ⟨Lp, _, rfl, rfl, p1, by omega, by omega, by omega, hide (fun r hr => qd_long (ub := true) (unhide HN) hpos hd2 (unhide HBIG) (unhide HDR) (unhide hQD) (unhide HLT) ht1 (unhide HUB) (by have e3 : Dm.num Lp = Dm.num Hd + Dm.num X1 := unhide HP3; rw [e3, unhide HHN, unhide HX1N]; rfl) r (by have hsc := unhide HSC; first | exact hr | (rw [hsc] at hr; exact hr))), ht⟩
              | true =>
                have hu0 := of_decide_eq_true (unhide HNU)
                obtain ⟨nr, hnr⟩ : ∃ nr, decide (Dm.num R = 0) = nr := ⟨_, rfl⟩
                have HNR := hide hnr
                clear hnr
                go_wp2_with fail
                refine (nought_b R nr _ (by omega) b3 HNR).mono ?_
                rintro e w7 ⟨rfl, rfl⟩
                cases nr with
                | false =>
                  have HUB := hide (unhide UU4 g hu0 (of_decide_eq_false (unhide HNR)))
                  go_wp2_with fail
                  refine (wide_b [49] X1 A34 (m + 33) _ (by have := unhide HA; simp; omega) (by omega) HX1).mono ?_
                  rintro e w9 ⟨rfl, rfl⟩
                  go_wp2_with fail
                  refine (unhide HPL _).mono ?_
                  rintro e w10 ⟨Lp, rfl, p1, p2, p3, p4⟩
                  have HP3 := hide p3
                  replace ht := ht.next p4
                  clear p3
                  go_wp2_with fail
                  go_meet
                  case rel => exact ⟨Lp, _, rfl, rfl, p1, by omega, by omega, by omega, hide (fun r hr => qd_long (ub := true) (unhide HN) hpos hd2 (unhide HBIG) (unhide HDR) (unhide hQD) (unhide HLT) ht1 (unhide HUB) (by have e3 : Dm.num Lp = Dm.num Hd + Dm.num X1 := unhide HP3; rw [e3, unhide HHN, unhide HX1N]; rfl) r (by have hsc := unhide HSC; first | exact hr | (rw [hsc] at hr; exact hr))), ht⟩
                | true =>
                  have hr0 := of_decide_eq_true (unhide HNR)
                  have hub5 := unhide UU5 g hu0 hr0
                  obtain ⟨A33, hA33⟩ : ∃ A33, m + 33 = A33 := ⟨_, rfl⟩
                  have hA1 : (A34 : Int) - 1 = (A33 : Int) := by have := unhide HA; omega
                  have h33 : A33 < Hd.length := by have := unhide HA; omega
                  have h33i : (A33 : Int) < (Hd.length : Int) := by omega
                  have hpf2 : A33 < (⟨Hd.toArray⟩ : ByteArray).size := by rw [mk_size]; exact h33
                  obtain ⟨d, hd0⟩ : ∃ d, Hd[A33]'h33 = d := ⟨_, rfl⟩
                  have hdd : Dm.isD d = true := by rw [← hd0]; exact hHd _ (List.getElem_mem h33)
                  have hdb := Dm.isD_iff.1 hdd
                  have hdi : (48 : Int) ≤ (d.toNat : Int) := by omega
                  have hdi2 : (d.toNat : Int) ≤ 57 := by omega
                  have hodd : decide (Dm.num Hd % 2 = 1) = decide (d.toNat % 2 = 1) := by
                    refine Dm.last_odd (a := Hd.take A33) hHd ?_
                    have e1 := (List.take_append_drop A33 Hd).symm
                    have e2 : Hd.drop A33 = [d] := by
                      rw [List.drop_eq_getElem_cons h33, hd0]
                      have : Hd.drop (A33 + 1) = [] := List.drop_eq_nil_of_le (by have := unhide HA; omega)
                      rw [this]
                    rw [e2] at e1
                    exact e1
                  have hd1 : (⟨Hd.toArray⟩ : ByteArray)[A33]'hpf2 = d := hd0
                  rw [← unhide HHN, hodd] at hub5
                  have h8 := odd_u8 ⟨d.toNat, d.toNat_lt⟩ hdb.1 hdb.2
                  simp only at h8
                  by_cases ho : d.toNat % 2 = 1
                  · rw [decide_eq_true ho] at hub5 h8
                    have HUB := hide hub5
                    clear hub5 hodd UU3 UU4 UU5
                    go_wp2_with fail
                    refine (wide_b [49] X1 A34 (m + 33) _ (by have := unhide HA; simp; omega) (by omega) HX1).mono ?_
                    rintro e w9 ⟨rfl, rfl⟩
                    go_wp2_with fail
                    refine (unhide HPL _).mono ?_
                    rintro e w10 ⟨Lp, rfl, p1, p2, p3, p4⟩
                    have HP3 := hide p3
                    replace ht := ht.next p4
                    clear p3
                    go_wp2_with fail
                    go_meet
                    case rel => exact ⟨Lp, _, rfl, rfl, p1, by omega, by omega, by omega, hide (fun r hr => qd_long (ub := true) (unhide HN) hpos hd2 (unhide HBIG) (unhide HDR) (unhide hQD) (unhide HLT) ht1 (unhide HUB) (by have e3 : Dm.num Lp = Dm.num Hd + Dm.num X1 := unhide HP3; rw [e3, unhide HHN, unhide HX1N]; rfl) r (by have hsc := unhide HSC; first | exact hr | (rw [hsc] at hr; exact hr))), ht⟩
                  · rw [decide_eq_false ho] at hub5 h8
                    have HUB := hide hub5
                    clear hub5 hodd UU3 UU4 UU5
                    go_wp2_with fail
                    go_meet
                    case rel => exact ⟨Hd, _, rfl, rfl, hHd, by omega, by omega, by omega, hide (fun r hr => qd_long (ub := false) (unhide HN) hpos hd2 (unhide HBIG) (unhide HDR) (unhide hQD) (unhide HLT) ht1 (unhide HUB) (by rw [unhide HHN]; rfl) r (by have hsc := unhide HSC; first | exact hr | (rw [hsc] at hr; exact hr))), ht⟩
            · have HUB := hide (U2 g)
              have n1 : ((((⟨(c :: u).toArray⟩ : ByteArray)[0]'hpf).toNat : Int) == 53) = false := by rw [hidx]; exact beq_eq_false_iff_ne.2 (by omega)
              have n2 : (53 : Int) ≤ (((⟨(c :: u).toArray⟩ : ByteArray)[0]'hpf).toNat : Int) := by rw [hidx]; omega
              clear U1 U2 U3 U4 U5 hidx
              go_wp2_with fail
              refine (wide_b [49] X1 A34 (m + 33) _ (by have := unhide HA; simp; omega) (by omega) HX1).mono ?_
              rintro e w9 ⟨rfl, rfl⟩
              go_wp2_with fail
              refine (unhide HPL _).mono ?_
              rintro e w10 ⟨Lp, rfl, p1, p2, p3, p4⟩
              have HP3 := hide p3
              replace ht := ht.next p4
              clear p3
              go_wp2_with fail
              go_meet
              case rel => exact ⟨Lp, _, rfl, rfl, p1, by omega, by omega, by omega, hide (fun r hr => qd_long (ub := true) (unhide HN) hpos hd2 (unhide HBIG) (unhide HDR) (unhide hQD) (unhide HLT) ht1 (unhide HUB) (by have e3 : Dm.num Lp = Dm.num Hd + Dm.num X1 := unhide HP3; rw [e3, unhide HHN, unhide HX1N]; rfl) r (by have hsc := unhide HSC; first | exact hr | (rw [hsc] at hr; exact hr))), ht⟩
      case rest =>
        as_aux_lemma =>
          clear ht
          obtain ⟨O, sc, rfl, rfl, o1, o2, o3, o4, HO, ht⟩ := hcut
          obtain ⟨⟨c0, c1, c2⟩, ⟨d0, d1, d2⟩⟩ := ht.cells
          by_cases hs : sc < 0
          · obtain ⟨k, hk⟩ : ∃ k : Nat, -sc = (k : Int) := ⟨(-sc).toNat, by omega⟩
            obtain ⟨zs, hz⟩ : ∃ zs : List UInt8, zs = List.replicate k 48 := ⟨_, rfl⟩
            have hzl : zs.length ≤ 500 := by rw [hz, List.length_replicate]; omega
            have hzd : Dm.allD zs := by rw [hz]; exact Dm.allD_zeros _
            have hk5 : k ≤ 500 := by omega
            have hnum : Dm.num (O ++ zs) = Dm.num O * 10 ^ k := by rw [hz, Dm.num_append_zeros]
            have HNUM := hide hnum
            have HZ := hide hz
            have HK := hide hk
            clear hz hnum
            go_wp2_with fail
            refine (qzeros_o ((k : Nat) : Int) k zs _ rfl (by omega) HZ).mono ?_
            rintro e w6 ⟨rfl, rfl⟩
            go_wp2_with fail
            clear c0 c1 c2 d0 d1 d2
            refine (norm_zs x x2 O zs _ (by omega) hzl o1 hzd).mono ?_
            rintro e w7 ⟨r, rfl, hr, hb7⟩
            replace ht := ht.next hb7
            have hfin : Dm.DivRep (x != x2) y z y2 z2 r := by
              apply unhide HO
              have := unhide hr
              rw [unhide HNUM, Dm.sgn_mul] at this
              have e1 : (-sc).toNat = k := by have := unhide HK; omega
              have e2 : sc.toNat = 0 := by omega
              rw [e1, e2]
              exact this
            have HFIN := hide hfin
            obtain ⟨⟨k0, k1, k2⟩, ⟨f0, f1, f2⟩⟩ := ht.out
            clear hfin hr
            go_wp2_with fail
            exact bodyPost_ret (v := tV r) (by simp [results, Tryz.results13, go_sem, k0, k1, k2, tV]) rfl ⟨r, rfl, HFIN, ht.end _ _ _⟩
          · obtain ⟨k, rfl⟩ := Int.eq_ofNat_of_zero_le (show 0 ≤ sc by omega)
            have hs2 : ¬ (k : Int) < 0 := by omega
            go_wp2_with fail
            clear c0 c1 c2 d0 d1 d2
            refine (norm_d (!(x == x2)) O k _ (by omega) (by omega) o1).mono ?_
            rintro e w7 ⟨r, rfl, hr, hb7⟩
            replace ht := ht.next hb7
            have hfin : Dm.DivRep (x != x2) y z y2 z2 r := by
              apply unhide HO
              have e1 : (-((k : Nat) : Int)).toNat = 0 := by omega
              rw [e1, Int.toNat_natCast, Dm.p10_zero, Int.mul_one]
              exact unhide hr
            have HFIN := hide hfin
            obtain ⟨⟨k0, k1, k2⟩, ⟨f0, f1, f2⟩⟩ := ht.out
            clear hfin hr
            go_wp2_with fail
            exact bodyPost_ret (v := tV r) (by simp [results, Tryz.results13, go_sem, k0, k1, k2, tV]) rfl ⟨r, rfl, HFIN, ht.end _ _ _⟩
end Go.Proofs.YtmlmplmghlbdmaaGreatDoor

namespace Go.Proofs.YtmlmplmghlbdmaaGreatDoor
open Go.RowKit
set_option linter.unusedVariables false
set_option linter.unusedSimpArgs false

theorem may_two_d (x : Bool) (y : ByteArray) (z : Int) (x2 : Bool) (y2 : ByteArray) (z2 : Int) (m : Bool) (w : World) (hs : y.size ≤ maxLen) (hs2 : y2.size ≤ maxLen) (hm : Hid ((Dm.mayB x y.data.toList z && Dm.mayB x2 y2.data.toList z2) = m)) :
    Calls Tryz.prog 11 #[.agg #[.bool x, .string y, .int .i64 z], .agg #[.bool x2, .string y2, .int .i64 z2]] w fun e w' => e = .returned (.bool m) ∧ Below w.heap.size w w' := by
  have := may_two x y z x2 y2 z2 _ _ w hs hs2 (hide rfl) (hide rfl)
  rw [unhide hm] at this
  exact this
theorem may_dd (x : Bool) (y : List UInt8) (z : Nat) (x2 : Bool) (y2 : List UInt8) (z2 : Nat) (w : World) (h : Dm.May ⟨x, y, z⟩) (h2 : Dm.May ⟨x2, y2, z2⟩) :
    Calls Tryz.prog 11 #[.agg #[.bool x, .string ⟨y.toArray⟩, .int .i64 (z : Int)], .agg #[.bool x2, .string ⟨y2.toArray⟩, .int .i64 (z2 : Int)]] w fun e w' => e = .returned (.bool true) ∧ Below w.heap.size w w' := by
  have l1 := (may_len h).2.1
  have l2 := (may_len h2).2.1
  simp only at l1 l2
  have := may_two x ⟨y.toArray⟩ z x2 ⟨y2.toArray⟩ z2 true true w (by rw [mk_size]; unfold maxLen; omega) (by rw [mk_size]; unfold maxLen; omega) (hide (dV_may h)) (hide (dV_may h2))
  exact this
theorem div_h (x : Bool) (y : List UInt8) (z : Nat) (x2 : Bool) (y2 : List UInt8) (z2 n : Nat) (w : World) (h : Dm.May ⟨x, y, z⟩) (h2 : Dm.May ⟨x2, y2, z2⟩) (hne : y2 ≠ [48]) (hn : max 0 (35 + (y2.length : Int) - (y.length : Int)) = (n : Int)) (htab : Pow w) :
    Calls Tryz.prog 12 #[.agg #[.bool x, .string ⟨y.toArray⟩, .int .i64 (z : Int)], .agg #[.bool x2, .string ⟨y2.toArray⟩, .int .i64 (z2 : Int)]] w fun e w' => ∃ r, e = .returned (.tuple #[.agg #[.bool (rx r), .string (ry r), .int .i64 (rz r)], .int .i64 (re r)]) ∧ Hid (Dm.DivRep (x != x2) y z y2 z2 r) ∧ Below w.heap.size w w' := by
  refine (div_r x y z x2 y2 z2 n w h h2 hne hn htab).mono ?_
  rintro e w' ⟨r, rfl, hr, hB⟩
  exact ⟨r, rfl, hide hr, hB⟩
theorem mod_h (x : Bool) (y : List UInt8) (z : Nat) (x2 : Bool) (y2 : List UInt8) (z2 n : Nat) (w : World) (h : Dm.May ⟨x, y, z⟩) (h2 : Dm.May ⟨x2, y2, z2⟩) (hne : y2 ≠ [48]) (hn : max (z : Int) (z2 : Int) = (n : Int)) (htab : Pow w) :
    Calls Tryz.prog 14 #[.agg #[.bool x, .string ⟨y.toArray⟩, .int .i64 (z : Int)], .agg #[.bool x2, .string ⟨y2.toArray⟩, .int .i64 (z2 : Int)]] w fun e w' => ∃ r, e = .returned (.tuple #[.agg #[.bool (rx r), .string (ry r), .int .i64 (rz r)], .int .i64 (re r)]) ∧ Hid (Dm.Rep (Dm.sgn x ((Dm.num y * 10 ^ (n - z)) % (Dm.num y2 * 10 ^ (n - z2)))) n r) ∧ Below w.heap.size w w' := by
  refine (mod_r x y z x2 y2 z2 n w h h2 hne hn htab).mono ?_
  rintro e w' ⟨r, rfl, hr, hB⟩
  exact ⟨r, rfl, hide hr, hB⟩
set_option maxRecDepth 100000 in
set_option maxHeartbeats 1000000 in
theorem qmod_none (x : Bool) (y : ByteArray) (z : Int) (x2 : Bool) (z2 : Int) (w : World) :
    Calls Tryz.prog 15 #[.agg #[.bool x, .string y, .int .i64 z], .agg #[.bool x2, .string ⟨#[48]⟩, .int .i64 z2]] w fun e w' => e = .returned (.tuple #[.agg #[.bool false, .string ⟨#[]⟩, .int .i64 0], .int .i64 5]) ∧ Below w.heap.size w w' := by
  have ht := Tri.start w (.bool x) (.string y) (.int .i64 z) (.bool x2) (.string ⟨#[48]⟩) (.int .i64 z2) 23
  go_enter Tryz.func15, Tryz.ntmps15
  go_upto_region 1 with fail
  generalize ((w.alloc (.cells #[.bool x, .string y, .int .i64 z] 23)).alloc (.cells #[.bool x2, .string ⟨#[48]⟩, .int .i64 z2] 23)).alloc (.cells #[.bool false, .string ⟨#[]⟩, .int .i64 0] 23) = v at *
  obtain ⟨⟨c0, c1, c2⟩, ⟨d0, d1, d2⟩⟩ := ht.cells
  obtain ⟨⟨k0, k1, k2⟩, ⟨f0, f1, f2⟩⟩ := ht.out
  go_wp2
  exact bodyPost_ret (v := .tuple #[.agg #[.bool false, .string ⟨#[]⟩, .int .i64 0], .int .i64 5]) (by simp [results, Tryz.results15, go_sem, k0, k1, k2]) rfl ⟨rfl, ht.end _ _ _⟩
set_option maxRecDepth 100000 in
set_option maxHeartbeats 1000000 in
theorem qdiv_none (x : Bool) (y : ByteArray) (z : Int) (x2 : Bool) (z2 : Int) (w : World) :
    Calls Tryz.prog 13 #[.agg #[.bool x, .string y, .int .i64 z], .agg #[.bool x2, .string ⟨#[48]⟩, .int .i64 z2]] w fun e w' => e = .returned (.tuple #[.agg #[.bool false, .string ⟨#[]⟩, .int .i64 0], .int .i64 5]) ∧ Below w.heap.size w w' := by
  have ht := Tri.start w (.bool x) (.string y) (.int .i64 z) (.bool x2) (.string ⟨#[48]⟩) (.int .i64 z2) 23
  go_enter Tryz.func13, Tryz.ntmps13
  go_upto_region 1 with fail
  generalize ((w.alloc (.cells #[.bool x, .string y, .int .i64 z] 23)).alloc (.cells #[.bool x2, .string ⟨#[48]⟩, .int .i64 z2] 23)).alloc (.cells #[.bool false, .string ⟨#[]⟩, .int .i64 0] 23) = v at *
  obtain ⟨⟨c0, c1, c2⟩, ⟨d0, d1, d2⟩⟩ := ht.cells
  obtain ⟨⟨k0, k1, k2⟩, ⟨f0, f1, f2⟩⟩ := ht.out
  go_wp2
  exact bodyPost_ret (v := .tuple #[.agg #[.bool false, .string ⟨#[]⟩, .int .i64 0], .int .i64 5]) (by simp [results, Tryz.results13, go_sem, k0, k1, k2]) rfl ⟨rfl, ht.end _ _ _⟩

set_option maxRecDepth 100000 in
set_option maxHeartbeats 2000000 in
theorem divs_no (x1 : Bool) (s1 : ByteArray) (n1 : Int) (x2 : Bool) (s2 : ByteArray) (n2 : Int) (w : World) (hs1 : s1.size ≤ maxLen) (hs2 : s2.size ≤ maxLen) (hm : (Dm.mayB x1 s1.data.toList n1 && Dm.mayB x2 s2.data.toList n2) = false) (htab : Pow w) :
    Calls Tryz.prog 3 #[.agg #[.bool x1, .string s1, .int .i64 n1], .agg #[.bool x2, .string s2, .int .i64 n2]] w fun e w' => e = .returned (.bool true) ∧ Below w.heap.size w w' := by
  have hS := Two.start w (.bool x1) (.string s1) (.int .i64 n1) (.bool x2) (.string s2) (.int .i64 n2) 23
  have HM := hide hm
  clear hm
  go_enter Tryz.func3, Tryz.ntmps3
  obtain ⟨_, _, ⟨a0, a01, a02⟩, ⟨b0, b01, b02⟩⟩ := id hS
  go_wp2_with fail
  clear a0 a01 a02 b0 b01 b02
  refine (shown2 _ (htab.next hS.1)).mono ?_
  rintro e w1 ⟨rfl, hb1⟩
  replace hS := hS.next hb1
  clear hb1
  obtain ⟨_, _, ⟨a0, a01, a02⟩, ⟨b0, b01, b02⟩⟩ := id hS
  go_wp2_with fail
  clear a0 a01 a02 b0 b01 b02
  refine (may_two_d x1 s1 n1 x2 s2 n2 false _ hs1 hs2 HM).mono ?_
  rintro e w2 ⟨rfl, hb2⟩
  replace hS := hS.next hb2
  clear hb2
  obtain ⟨_, _, ⟨a0, a01, a02⟩, ⟨b0, b01, b02⟩⟩ := id hS
  go_wp2
  go_ret
  exact ⟨rfl, hS.1⟩
set_option maxRecDepth 100000 in
set_option maxHeartbeats 4000000 in
theorem divs_zero (a1 : Bool) (a2 : List UInt8) (a3 : Nat) (w : World) (ha : Dm.May ⟨a1, a2, a3⟩) (htab : Pow w) :
    Calls Tryz.prog 3 #[.agg #[.bool a1, .string ⟨a2.toArray⟩, .int .i64 (a3 : Int)], .agg #[.bool false, .string ⟨#[48]⟩, .int .i64 0]] w fun e w' => e = .returned (.bool true) ∧ Below w.heap.size w w' := by
  have hS := Two.start w (.bool a1) (.string ⟨a2.toArray⟩) (.int .i64 (a3 : Int)) (.bool false) (.string ⟨#[48]⟩) (.int .i64 0) 23
  go_enter Tryz.func3, Tryz.ntmps3
  obtain ⟨_, _, ⟨a0, a01, a02⟩, ⟨b0, b01, b02⟩⟩ := id hS
  go_wp2_with fail
  clear a0 a01 a02 b0 b01 b02
  refine (shown2 _ (htab.next hS.1)).mono ?_
  rintro e w1 ⟨rfl, hb1⟩
  replace hS := hS.next hb1
  clear hb1
  obtain ⟨_, _, ⟨a0, a01, a02⟩, ⟨b0, b01, b02⟩⟩ := id hS
  go_wp2_with fail
  clear a0 a01 a02 b0 b01 b02
  refine (may_dd a1 a2 a3 false [48] 0 _ ha Dm.zero_may).mono ?_
  rintro e w2 ⟨rfl, hb2⟩
  replace hS := hS.next hb2
  clear hb2
  obtain ⟨_, _, ⟨a0, a01, a02⟩, ⟨b0, b01, b02⟩⟩ := id hS
  go_wp2_with fail
  clear a0 a01 a02 b0 b01 b02
  refine (div_none a1 ⟨a2.toArray⟩ (a3 : Int) false 0 _).mono ?_
  rintro e w3 ⟨rfl, hb3⟩
  replace hS := hS.next hb3
  clear hb3
  replace hS := hS.next ((Below.refl _ _).alloc (Nat.le_refl _) (.cells #[.bool false, .string ⟨#[]⟩, .int .i64 0] 23))
  have X := Has3.start w3 (.bool false) (.string ⟨#[]⟩) (.int .i64 0) 23
  obtain ⟨_, _, ⟨a0, a01, a02⟩, ⟨b0, b01, b02⟩⟩ := id hS
  obtain ⟨_, X0, X1, X2⟩ := id X
  go_wp2_with fail
  clear a0 a01 a02 b0 b01 b02
  clear X0 X1 X2
  refine (qdiv_none a1 ⟨a2.toArray⟩ (a3 : Int) false 0 _).mono ?_
  rintro e w4 ⟨rfl, hb4⟩
  replace hS := hS.next hb4
  replace X := X.next hb4
  clear hb4
  replace hS := hS.next ((Below.refl _ _).alloc (Nat.le_refl _) (.cells #[.bool false, .string ⟨#[]⟩, .int .i64 0] 23))
  replace X := X.next ((Below.refl _ _).alloc (Nat.le_refl _) (.cells #[.bool false, .string ⟨#[]⟩, .int .i64 0] 23))
  have Y := Has3.start w4 (.bool false) (.string ⟨#[]⟩) (.int .i64 0) 23
  obtain ⟨_, _, ⟨a0, a01, a02⟩, ⟨b0, b01, b02⟩⟩ := id hS
  obtain ⟨_, X0, X1, X2⟩ := id X
  obtain ⟨_, Y0, Y1, Y2⟩ := id Y
  go_wp2_with fail
  clear a0 a01 a02 b0 b01 b02
  clear X0 X1 X2
  clear Y0 Y1 Y2
  refine (mod_none a1 ⟨a2.toArray⟩ (a3 : Int) false 0 _).mono ?_
  rintro e w5 ⟨rfl, hb5⟩
  replace hS := hS.next hb5
  replace X := X.next hb5
  replace Y := Y.next hb5
  clear hb5
  replace hS := hS.next ((Below.refl _ _).alloc (Nat.le_refl _) (.cells #[.bool false, .string ⟨#[]⟩, .int .i64 0] 23))
  replace X := X.next ((Below.refl _ _).alloc (Nat.le_refl _) (.cells #[.bool false, .string ⟨#[]⟩, .int .i64 0] 23))
  replace Y := Y.next ((Below.refl _ _).alloc (Nat.le_refl _) (.cells #[.bool false, .string ⟨#[]⟩, .int .i64 0] 23))
  have Z := Has3.start w5 (.bool false) (.string ⟨#[]⟩) (.int .i64 0) 23
  obtain ⟨_, _, ⟨a0, a01, a02⟩, ⟨b0, b01, b02⟩⟩ := id hS
  obtain ⟨_, X0, X1, X2⟩ := id X
  obtain ⟨_, Y0, Y1, Y2⟩ := id Y
  obtain ⟨_, Z0, Z1, Z2⟩ := id Z
  go_wp2_with fail
  clear a0 a01 a02 b0 b01 b02
  clear X0 X1 X2
  clear Y0 Y1 Y2
  clear Z0 Z1 Z2
  refine (qmod_none a1 ⟨a2.toArray⟩ (a3 : Int) false 0 _).mono ?_
  rintro e w6 ⟨rfl, hb6⟩
  replace hS := hS.next hb6
  replace X := X.next hb6
  replace Y := Y.next hb6
  replace Z := Z.next hb6
  clear hb6
  replace hS := hS.next ((Below.refl _ _).alloc (Nat.le_refl _) (.cells #[.bool false, .string ⟨#[]⟩, .int .i64 0] 23))
  replace X := X.next ((Below.refl _ _).alloc (Nat.le_refl _) (.cells #[.bool false, .string ⟨#[]⟩, .int .i64 0] 23))
  replace Y := Y.next ((Below.refl _ _).alloc (Nat.le_refl _) (.cells #[.bool false, .string ⟨#[]⟩, .int .i64 0] 23))
  replace Z := Z.next ((Below.refl _ _).alloc (Nat.le_refl _) (.cells #[.bool false, .string ⟨#[]⟩, .int .i64 0] 23))
  have U := Has3.start w6 (.bool false) (.string ⟨#[]⟩) (.int .i64 0) 23
  obtain ⟨_, _, ⟨a0, a01, a02⟩, ⟨b0, b01, b02⟩⟩ := id hS
  obtain ⟨_, X0, X1, X2⟩ := id X
  obtain ⟨_, Y0, Y1, Y2⟩ := id Y
  obtain ⟨_, Z0, Z1, Z2⟩ := id Z
  obtain ⟨_, U0, U1, U2⟩ := id U
  go_wp2
  go_ret
  exact ⟨rfl, hS.1⟩
set_option maxRecDepth 100000 in
set_option maxHeartbeats 8000000 in
theorem divs_pos (a1 : Bool) (a2 : List UInt8) (a3 : Nat) (b1 : Bool) (b2 : List UInt8) (b3 : Nat) (w : World) (ha : Dm.May ⟨a1, a2, a3⟩) (hb : Dm.May ⟨b1, b2, b3⟩) (hb0 : b2 ≠ [48]) (htab : Pow w) :
    Calls Tryz.prog 3 #[.agg #[.bool a1, .string ⟨a2.toArray⟩, .int .i64 (a3 : Int)], .agg #[.bool b1, .string ⟨b2.toArray⟩, .int .i64 (b3 : Int)]] w fun e w' => e = .returned (.bool true) ∧ Below w.heap.size w w' := by
  have hS := Two.start w (.bool a1) (.string ⟨a2.toArray⟩) (.int .i64 (a3 : Int)) (.bool b1) (.string ⟨b2.toArray⟩) (.int .i64 (b3 : Int)) 23
  obtain ⟨n, hn⟩ : ∃ n : Nat, max (a3 : Int) (b3 : Int) = (n : Int) := ⟨max a3 b3, by omega⟩
  obtain ⟨m, hm⟩ : ∃ m : Nat, max 0 (35 + (b2.length : Int) - (a2.length : Int)) = (m : Int) := ⟨(max 0 (35 + (b2.length : Int) - (a2.length : Int))).toNat, by omega⟩
  have HN := hide hn
  have HM := hide hm
  clear hn hm
  go_enter Tryz.func3, Tryz.ntmps3
  obtain ⟨_, _, ⟨a0, a01, a02⟩, ⟨b0, b01, b02⟩⟩ := id hS
  go_wp2_with fail
  clear a0 a01 a02 b0 b01 b02
  refine (shown2 _ (htab.next hS.1)).mono ?_
  rintro e w1 ⟨rfl, hb1⟩
  replace hS := hS.next hb1
  clear hb1
  obtain ⟨_, _, ⟨a0, a01, a02⟩, ⟨b0, b01, b02⟩⟩ := id hS
  go_wp2_with fail
  clear a0 a01 a02 b0 b01 b02
  refine (may_dd a1 a2 a3 b1 b2 b3 _ ha hb).mono ?_
  rintro e w2 ⟨rfl, hb2⟩
  replace hS := hS.next hb2
  clear hb2
  obtain ⟨_, _, ⟨a0, a01, a02⟩, ⟨b0, b01, b02⟩⟩ := id hS
  go_wp2_with fail
  clear a0 a01 a02 b0 b01 b02
  refine (div_h a1 a2 a3 b1 b2 b3 m _ ha hb hb0 (unhide HM) (htab.next hS.1)).mono ?_
  rintro e w3 ⟨r, rfl, HR, hb3⟩
  replace hS := hS.next hb3
  clear hb3
  generalize hz0 : rx r = r_0
  have rZ0 := hide hz0
  clear hz0
  generalize hz1 : ry r = r_1
  have rZ1 := hide hz1
  clear hz1
  generalize hz2 : rz r = r_2
  have rZ2 := hide hz2
  clear hz2
  generalize hz3 : re r = r_3
  have rZ3 := hide hz3
  clear hz3
  replace hS := hS.next ((Below.refl _ _).alloc (Nat.le_refl _) (.cells #[.bool r_0, .string r_1, .int .i64 r_2] 23))
  have X := Has3.start w3 (.bool r_0) (.string r_1) (.int .i64 r_2) 23
  obtain ⟨_, _, ⟨a0, a01, a02⟩, ⟨b0, b01, b02⟩⟩ := id hS
  obtain ⟨_, X0, X1, X2⟩ := id X
  go_wp2_with fail
  clear a0 a01 a02 b0 b01 b02
  clear X0 X1 X2
  refine (qdiv_r a1 a2 a3 b1 b2 b3 m _ ha hb hb0 (unhide HM).symm).mono ?_
  rintro e w4 ⟨q, rfl, HQ, hb4⟩
  replace hS := hS.next hb4
  replace X := X.next hb4
  clear hb4
  obtain rfl : q = r := (unhide HQ).uniq (unhide HR)
  rw [unhide rZ0, unhide rZ1, unhide rZ2, unhide rZ3]
  replace hS := hS.next ((Below.refl _ _).alloc (Nat.le_refl _) (.cells #[.bool r_0, .string r_1, .int .i64 r_2] 23))
  replace X := X.next ((Below.refl _ _).alloc (Nat.le_refl _) (.cells #[.bool r_0, .string r_1, .int .i64 r_2] 23))
  have Y := Has3.start w4 (.bool r_0) (.string r_1) (.int .i64 r_2) 23
  obtain ⟨_, _, ⟨a0, a01, a02⟩, ⟨b0, b01, b02⟩⟩ := id hS
  obtain ⟨_, X0, X1, X2⟩ := id X
  obtain ⟨_, Y0, Y1, Y2⟩ := id Y
  go_wp2_with fail
  clear a0 a01 a02 b0 b01 b02
  clear X0 X1 X2
  clear Y0 Y1 Y2
  refine (mod_h a1 a2 a3 b1 b2 b3 n _ ha hb hb0 (unhide HN) (htab.next hS.1)).mono ?_
  rintro e w5 ⟨t, rfl, HT, hb5⟩
  replace hS := hS.next hb5
  replace X := X.next hb5
  replace Y := Y.next hb5
  clear hb5
  generalize hz0 : rx t = t_0
  have tZ0 := hide hz0
  clear hz0
  generalize hz1 : ry t = t_1
  have tZ1 := hide hz1
  clear hz1
  generalize hz2 : rz t = t_2
  have tZ2 := hide hz2
  clear hz2
  generalize hz3 : re t = t_3
  have tZ3 := hide hz3
  clear hz3
  replace hS := hS.next ((Below.refl _ _).alloc (Nat.le_refl _) (.cells #[.bool t_0, .string t_1, .int .i64 t_2] 23))
  replace X := X.next ((Below.refl _ _).alloc (Nat.le_refl _) (.cells #[.bool t_0, .string t_1, .int .i64 t_2] 23))
  replace Y := Y.next ((Below.refl _ _).alloc (Nat.le_refl _) (.cells #[.bool t_0, .string t_1, .int .i64 t_2] 23))
  have Z := Has3.start w5 (.bool t_0) (.string t_1) (.int .i64 t_2) 23
  obtain ⟨_, _, ⟨a0, a01, a02⟩, ⟨b0, b01, b02⟩⟩ := id hS
  obtain ⟨_, X0, X1, X2⟩ := id X
  obtain ⟨_, Y0, Y1, Y2⟩ := id Y
  obtain ⟨_, Z0, Z1, Z2⟩ := id Z
  go_wp2_with fail
  clear a0 a01 a02 b0 b01 b02
  clear X0 X1 X2
  clear Y0 Y1 Y2
  clear Z0 Z1 Z2
  refine (qmod_r a1 a2 a3 b1 b2 b3 n _ ha hb hb0 (unhide HN)).mono ?_
  rintro e w6 ⟨p, rfl, HP, hb6⟩
  replace hS := hS.next hb6
  replace X := X.next hb6
  replace Y := Y.next hb6
  replace Z := Z.next hb6
  clear hb6
  obtain rfl : p = t := (unhide HP).uniq (unhide HT)
  rw [unhide tZ0, unhide tZ1, unhide tZ2, unhide tZ3]
  replace hS := hS.next ((Below.refl _ _).alloc (Nat.le_refl _) (.cells #[.bool t_0, .string t_1, .int .i64 t_2] 23))
  replace X := X.next ((Below.refl _ _).alloc (Nat.le_refl _) (.cells #[.bool t_0, .string t_1, .int .i64 t_2] 23))
  replace Y := Y.next ((Below.refl _ _).alloc (Nat.le_refl _) (.cells #[.bool t_0, .string t_1, .int .i64 t_2] 23))
  replace Z := Z.next ((Below.refl _ _).alloc (Nat.le_refl _) (.cells #[.bool t_0, .string t_1, .int .i64 t_2] 23))
  have U := Has3.start w6 (.bool t_0) (.string t_1) (.int .i64 t_2) 23
  obtain ⟨_, _, ⟨a0, a01, a02⟩, ⟨b0, b01, b02⟩⟩ := id hS
  obtain ⟨_, X0, X1, X2⟩ := id X
  obtain ⟨_, Y0, Y1, Y2⟩ := id Y
  obtain ⟨_, Z0, Z1, Z2⟩ := id Z
  obtain ⟨_, U0, U1, U2⟩ := id U
  go_wp2
  go_ret
  exact ⟨rfl, hS.1⟩
theorem divs_walk (x1 : Bool) (s1 : ByteArray) (n1 : Int) (x2 : Bool) (s2 : ByteArray) (n2 : Int) (w : World) (hs1 : s1.size ≤ maxLen) (hs2 : s2.size ≤ maxLen) (htab : Pow w) :
    Calls Tryz.prog 3 #[.agg #[.bool x1, .string s1, .int .i64 n1], .agg #[.bool x2, .string s2, .int .i64 n2]] w fun e w' => e = .returned (.bool true) ∧ Below w.heap.size w w' := by
  cases hm : (Dm.mayB x1 s1.data.toList n1 && Dm.mayB x2 s2.data.toList n2) with
  | false => exact divs_no x1 s1 n1 x2 s2 n2 w hs1 hs2 hm htab
  | true =>
    rw [Bool.and_eq_true] at hm
    obtain ⟨l1, j1, rfl, rfl, h1⟩ := may_split5 hm.1
    obtain ⟨l2, j2, rfl, rfl, h2⟩ := may_split5 hm.2
    by_cases h0 : l2 = [48]
    · have e := Dm.zero_of h2 h0
      injection e with e1 e2 e3
      subst e1 e2 e3
      exact divs_zero x1 l1 j1 w h1 htab
    · exact divs_pos x1 l1 j1 x2 l2 j2 w h1 h2 h0 htab
end Go.Proofs.YtmlmplmghlbdmaaGreatDoor
