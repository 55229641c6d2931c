/- What is proved here: what the law DecRules does with decimals that may be, walked; conditions: all three may be. -/
import Derived.Test.YtijelgmmmceflaaDoorXh
namespace Go.Proofs.YtijelgmmmceflaaDoor
open Go.RowKit
set_option linter.unusedVariables false
set_option linter.unusedSimpArgs false

set_option maxRecDepth 100000 in
set_option maxHeartbeats 4000000 in
theorem rules_true (a1 : Bool) (a2 : List UInt8) (a3 : Nat) (b1 : Bool) (b2 : List UInt8) (b3 : Nat) (c1 : Bool) (c2 : List UInt8) (c3 : Nat) (w : World) (ha : Dm.May ⟨a1, a2, a3⟩) (hb : Dm.May ⟨b1, b2, b3⟩) (hc : Dm.May ⟨c1, c2, c3⟩) :
    Calls Tryd.prog 6 #[.agg #[.bool a1, .string ⟨a2.toArray⟩, .int .i64 (a3 : Int)], .agg #[.bool b1, .string ⟨b2.toArray⟩, .int .i64 (b3 : Int)], .agg #[.bool c1, .string ⟨c2.toArray⟩, .int .i64 (c3 : Int)]] w fun e w' => e = .returned (.bool true) ∧ Below w.heap.size w w' := by
  have hS := Abc.start w a1 a2 a3 b1 b2 b3 c1 c2 c3
  have la : (⟨a2.toArray⟩ : ByteArray).size ≤ maxLen := by rw [mk_size]; have := (may_len ha).2.1; simp only at this; unfold maxLen; omega
  have lb : (⟨b2.toArray⟩ : ByteArray).size ≤ maxLen := by rw [mk_size]; have := (may_len hb).2.1; simp only at this; unfold maxLen; omega
  have lc : (⟨c2.toArray⟩ : ByteArray).size ≤ maxLen := by rw [mk_size]; have := (may_len hc).2.1; simp only at this; unfold maxLen; omega
  have MA := hide (dV_may ha)
  have MB := hide (dV_may hb)
  have MC := hide (dV_may hc)
  go_enter Tryd.func6, Tryd.ntmps6
  obtain ⟨_, ⟨_, a0, a01, a02⟩, ⟨_, b0, b01, b02⟩, ⟨_, c0, c01, c02⟩⟩ := id hS
  go_wp2_with fail
  clear a0 a01 a02 b0 b01 b02 c0 c01 c02
  refine (shown_any _).mono ?_
  rintro e w1 ⟨rfl, hb1⟩
  replace hS := hS.next hb1
  clear hb1
  obtain ⟨_, ⟨_, a0, a01, a02⟩, ⟨_, b0, b01, b02⟩, ⟨_, c0, c01, c02⟩⟩ := id hS
  go_wp2_with fail
  clear a0 a01 a02 b0 b01 b02 c0 c01 c02
  refine (may_b a1 ⟨a2.toArray⟩ (a3 : Int) true _ la (unhide MA)).mono ?_
  rintro e w2 ⟨rfl, hb2⟩
  replace hS := hS.next hb2
  clear hb2
  obtain ⟨_, ⟨_, a0, a01, a02⟩, ⟨_, b0, b01, b02⟩, ⟨_, c0, c01, c02⟩⟩ := id hS
  go_wp2_with fail
  clear a0 a01 a02 b0 b01 b02 c0 c01 c02
  refine (may_b b1 ⟨b2.toArray⟩ (b3 : Int) true _ lb (unhide MB)).mono ?_
  rintro e w3 ⟨rfl, hb3⟩
  replace hS := hS.next hb3
  clear hb3
  obtain ⟨_, ⟨_, a0, a01, a02⟩, ⟨_, b0, b01, b02⟩, ⟨_, c0, c01, c02⟩⟩ := id hS
  go_wp2_with fail
  clear a0 a01 a02 b0 b01 b02 c0 c01 c02
  refine (may_b c1 ⟨c2.toArray⟩ (c3 : Int) true _ lc (unhide MC)).mono ?_
  rintro e w4 ⟨rfl, hb4⟩
  replace hS := hS.next hb4
  clear hb4
  obtain ⟨_, ⟨_, a0, a01, a02⟩, ⟨_, b0, b01, b02⟩, ⟨_, c0, c01, c02⟩⟩ := id hS
  go_wp2_with fail
  clear a0 a01 a02 b0 b01 b02 c0 c01 c02
  refine (add_r a1 a2 a3 b1 b2 b3 _ ha hb).mono ?_
  rintro e w5 ⟨r, rfl, hr, hbx⟩
  replace hS := hS.next hbx
  clear hbx
  have Hr := hide hr
  clear hr
  generalize hz0 : rx r = r_0
  have rZ0 := hide hz0
  clear hz0
  generalize hz1 : ry r = r_1
  have rZ1 := hide hz1
  clear hz1
  generalize hz2 : rz r = r_2
  have rZ2 := hide hz2
  clear hz2
  generalize hz3 : re r = r_3
  have rZ3 := hide hz3
  clear hz3
  replace hS := hS.next ((Below.refl _ _).alloc (Nat.le_refl _) (.cells #[.bool r_0, .string r_1, .int .i64 r_2] 23))
  have X := Has3.start w5 (.bool r_0) (.string r_1) (.int .i64 r_2) 23
  obtain ⟨_, ⟨_, a0, a01, a02⟩, ⟨_, b0, b01, b02⟩, ⟨_, c0, c01, c02⟩⟩ := id hS
  obtain ⟨_, X0, X1, X2⟩ := id X
  go_wp2_with fail
  clear a0 a01 a02 b0 b01 b02 c0 c01 c02
  clear X0 X1 X2
  refine (add_r b1 b2 b3 a1 a2 a3 _ hb ha).mono ?_
  rintro e w6 ⟨r', rfl, hr', hbx⟩
  replace hS := hS.next hbx
  replace X := X.next hbx
  clear hbx
  obtain rfl : r' = r := sum_comm (a := ⟨a1, a2, a3⟩) (b := ⟨b1, b2, b3⟩) (unhide Hr) hr'
  clear hr'
  rw [unhide rZ0, unhide rZ1, unhide rZ2, unhide rZ3]
  replace hS := hS.next ((Below.refl _ _).alloc (Nat.le_refl _) (.cells #[.bool r_0, .string r_1, .int .i64 r_2] 23))
  replace X := X.next ((Below.refl _ _).alloc (Nat.le_refl _) (.cells #[.bool r_0, .string r_1, .int .i64 r_2] 23))
  have Y := Has3.start w6 (.bool r_0) (.string r_1) (.int .i64 r_2) 23
  have hr3 : r_3 = 0 ∨ r_3 = 3 := by rw [← unhide rZ3]; cases r'; exact .inr rfl; exact .inl rfl
  obtain ⟨_, ⟨_, a0, a01, a02⟩, ⟨_, b0, b01, b02⟩, ⟨_, c0, c01, c02⟩⟩ := id hS
  obtain ⟨_, X0, X1, X2⟩ := id X
  obtain ⟨_, Y0, Y1, Y2⟩ := id Y
  go_wp2_with fail
  clear a0 a01 a02 b0 b01 b02 c0 c01 c02
  clear X0 X1 X2
  clear Y0 Y1 Y2
  refine (mul_r ⟨a1, a2, a3⟩ ⟨b1, b2, b3⟩ _ ha hb).mono ?_
  rintro e w7 ⟨p, rfl, hp, hbx⟩
  replace hS := hS.next hbx
  replace X := X.next hbx
  replace Y := Y.next hbx
  clear hbx
  have Hp := hide hp
  clear hp
  generalize hz0 : rx p = p_0
  have pZ0 := hide hz0
  clear hz0
  generalize hz1 : ry p = p_1
  have pZ1 := hide hz1
  clear hz1
  generalize hz2 : rz p = p_2
  have pZ2 := hide hz2
  clear hz2
  generalize hz3 : re p = p_3
  have pZ3 := hide hz3
  clear hz3
  replace hS := hS.next ((Below.refl _ _).alloc (Nat.le_refl _) (.cells #[.bool p_0, .string p_1, .int .i64 p_2] 23))
  replace X := X.next ((Below.refl _ _).alloc (Nat.le_refl _) (.cells #[.bool p_0, .string p_1, .int .i64 p_2] 23))
  replace Y := Y.next ((Below.refl _ _).alloc (Nat.le_refl _) (.cells #[.bool p_0, .string p_1, .int .i64 p_2] 23))
  have P := Has3.start w7 (.bool p_0) (.string p_1) (.int .i64 p_2) 23
  obtain ⟨_, ⟨_, a0, a01, a02⟩, ⟨_, b0, b01, b02⟩, ⟨_, c0, c01, c02⟩⟩ := id hS
  obtain ⟨_, X0, X1, X2⟩ := id X
  obtain ⟨_, Y0, Y1, Y2⟩ := id Y
  obtain ⟨_, P0, P1, P2⟩ := id P
  go_wp2_with fail
  clear a0 a01 a02 b0 b01 b02 c0 c01 c02
  clear X0 X1 X2
  clear Y0 Y1 Y2
  clear P0 P1 P2
  refine (mul_r ⟨b1, b2, b3⟩ ⟨a1, a2, a3⟩ _ hb ha).mono ?_
  rintro e w8 ⟨p', rfl, hp', hbx⟩
  replace hS := hS.next hbx
  replace X := X.next hbx
  replace Y := Y.next hbx
  replace P := P.next hbx
  clear hbx
  obtain rfl : p' = p := prod_comm (a := ⟨a1, a2, a3⟩) (b := ⟨b1, b2, b3⟩) (unhide Hp) hp'
  clear hp'
  rw [unhide pZ0, unhide pZ1, unhide pZ2, unhide pZ3]
  replace hS := hS.next ((Below.refl _ _).alloc (Nat.le_refl _) (.cells #[.bool p_0, .string p_1, .int .i64 p_2] 23))
  replace X := X.next ((Below.refl _ _).alloc (Nat.le_refl _) (.cells #[.bool p_0, .string p_1, .int .i64 p_2] 23))
  replace Y := Y.next ((Below.refl _ _).alloc (Nat.le_refl _) (.cells #[.bool p_0, .string p_1, .int .i64 p_2] 23))
  replace P := P.next ((Below.refl _ _).alloc (Nat.le_refl _) (.cells #[.bool p_0, .string p_1, .int .i64 p_2] 23))
  have Q := Has3.start w8 (.bool p_0) (.string p_1) (.int .i64 p_2) 23
  have hp3 : p_3 = 0 ∨ p_3 = 3 := by rw [← unhide pZ3]; cases p'; exact .inr rfl; exact .inl rfl
  obtain ⟨_, ⟨_, a0, a01, a02⟩, ⟨_, b0, b01, b02⟩, ⟨_, c0, c01, c02⟩⟩ := id hS
  obtain ⟨_, X0, X1, X2⟩ := id X
  obtain ⟨_, Y0, Y1, Y2⟩ := id Y
  obtain ⟨_, P0, P1, P2⟩ := id P
  obtain ⟨_, Q0, Q1, Q2⟩ := id Q
  go_upto_region 8 with fail
  clear a0 a01 a02 b0 b01 b02 c0 c01 c02
  clear X0 X1 X2
  clear Y0 Y1 Y2
  clear P0 P1 P2
  clear Q0 Q1 Q2
  go_cut [102] from 30 (fun c wx => c = .bool false ∧ Abc w a1 a2 a3 b1 b2 b3 c1 c2 c3 wx ∧ Has3 w5.heap.size (.bool r_0) (.string r_1) (.int .i64 r_2) wx)
  case first =>
    as_aux_lemma =>
      clear rZ0 rZ1 rZ2 rZ3 pZ0 pZ1 pZ2 pZ3 Hr Hp
      obtain ⟨_, ⟨_, a0, a01, a02⟩, ⟨_, b0, b01, b02⟩, ⟨_, c0, c01, c02⟩⟩ := id hS
      obtain ⟨_, X0, X1, X2⟩ := id X
      obtain ⟨_, Y0, Y1, Y2⟩ := id Y
      obtain ⟨_, P0, P1, P2⟩ := id P
      obtain ⟨_, Q0, Q1, Q2⟩ := id Q
      rcases hr3 with rfl | rfl
      all_goals
        rcases hp3 with rfl | rfl
        all_goals
          go_wp2_with fail
          go_meet
          case rel => exact ⟨rfl, hS, X⟩
  case rest =>
    as_aux_lemma =>
      clear X Y P Q hS hr3 hp3 pZ0 pZ1 pZ2 pZ3 Hp
      obtain ⟨rfl, hS, X⟩ := hcut
      obtain ⟨_, ⟨_, a0, a01, a02⟩, ⟨_, b0, b01, b02⟩, ⟨_, c0, c01, c02⟩⟩ := id hS
      obtain ⟨_, X0, X1, X2⟩ := id X
      go_upto_if 104 with fail
      clear a0 a01 a02 b0 b01 b02 c0 c01 c02
      clear X0 X1 X2
      go_cut [] from 30 (fun wx => Abc w a1 a2 a3 b1 b2 b3 c1 c2 c3 wx)
      case first =>
        as_aux_lemma =>
          have HR := unhide Hr
          cases r' with
          | none =>
            obtain rfl := unhide rZ3
            simp only [re]
            clear HR Hr
            obtain ⟨_, ⟨_, a0, a01, a02⟩, ⟨_, b0, b01, b02⟩, ⟨_, c0, c01, c02⟩⟩ := id hS
            obtain ⟨_, X0, X1, X2⟩ := id X
            go_wp2_with fail
            go_meet
            case rel => exact hS
          | some x =>
            obtain ⟨x1, x2, x3⟩ := x
            obtain rfl : x1 = r_0 := unhide rZ0
            obtain rfl : r_1 = ⟨x2.toArray⟩ := (unhide rZ1).symm
            obtain rfl : r_2 = (x3 : Int) := (unhide rZ2).symm
            obtain rfl : r_3 = 0 := (unhide rZ3).symm
            clear rZ0 rZ1 rZ2 rZ3 HR
            have hx : Dm.May ⟨x1, x2, x3⟩ := (unhide Hr).1
            have lx : (⟨x2.toArray⟩ : ByteArray).size ≤ maxLen := by rw [mk_size]; have := (may_len hx).2.1; simp only at this; unfold maxLen; omega
            have MX := hide (dV_may hx)
            obtain ⟨_, ⟨_, a0, a01, a02⟩, ⟨_, b0, b01, b02⟩, ⟨_, c0, c01, c02⟩⟩ := id hS
            obtain ⟨_, X0, X1, X2⟩ := id X
            go_wp2_with fail
            clear a0 a01 a02 b0 b01 b02 c0 c01 c02
            clear X0 X1 X2
            refine (sub_r x1 x2 x3 b1 b2 b3 _ hx hb).mono ?_
            rintro e w10 ⟨z, rfl, hz, hbx⟩
            replace hS := hS.next hbx
            replace X := X.next hbx
            clear hbx
            obtain rfl : z = some ⟨a1, a2, a3⟩ := sub_back (a := ⟨a1, a2, a3⟩) (b := ⟨b1, b2, b3⟩) (x := ⟨x1, x2, x3⟩) ha (unhide Hr) hz
            clear hz
            simp only [rx, ry, rz, re]
            replace hS := hS.next ((Below.refl _ _).alloc (Nat.le_refl _) (.cells #[.bool a1, .string ⟨a2.toArray⟩, .int .i64 (a3 : Int)] 23))
            replace X := X.next ((Below.refl _ _).alloc (Nat.le_refl _) (.cells #[.bool a1, .string ⟨a2.toArray⟩, .int .i64 (a3 : Int)] 23))
            have Z := Has3.start w10 (.bool a1) (.string ⟨a2.toArray⟩) (.int .i64 (a3 : Int)) 23
            obtain ⟨_, ⟨_, a0, a01, a02⟩, ⟨_, b0, b01, b02⟩, ⟨_, c0, c01, c02⟩⟩ := id hS
            obtain ⟨_, X0, X1, X2⟩ := id X
            obtain ⟨_, Z0, Z1, Z2⟩ := id Z
            go_wp2_with fail
            clear a0 a01 a02 b0 b01 b02 c0 c01 c02
            clear X0 X1 X2
            clear Z0 Z1 Z2
            refine (may_b x1 ⟨x2.toArray⟩ (x3 : Int) true _ lx (unhide MX)).mono ?_
            rintro e w11 ⟨rfl, hbx⟩
            replace hS := hS.next hbx
            replace X := X.next hbx
            replace Z := Z.next hbx
            clear hbx
            clear Z
            as_aux_lemma =>
              obtain ⟨_, ⟨_, a0, a01, a02⟩, ⟨_, b0, b01, b02⟩, ⟨_, c0, c01, c02⟩⟩ := id hS
              obtain ⟨_, X0, X1, X2⟩ := id X
              go_wp2_with fail
              clear a0 a01 a02 b0 b01 b02 c0 c01 c02
              clear X0 X1 X2
              refine (mul_r ⟨x1, x2, x3⟩ ⟨c1, c2, c3⟩ _ hx hc).mono ?_
              rintro e w12 ⟨l, rfl, hl, hbx⟩
              replace hS := hS.next hbx
              replace X := X.next hbx
              clear hbx
              have Hl := hide hl
              clear hl
              generalize hz0 : rx l = l_0
              have lZ0 := hide hz0
              clear hz0
              generalize hz1 : ry l = l_1
              have lZ1 := hide hz1
              clear hz1
              generalize hz2 : rz l = l_2
              have lZ2 := hide hz2
              clear hz2
              generalize hz3 : re l = l_3
              have lZ3 := hide hz3
              clear hz3
              replace hS := hS.next ((Below.refl _ _).alloc (Nat.le_refl _) (.cells #[.bool l_0, .string l_1, .int .i64 l_2] 23))
              replace X := X.next ((Below.refl _ _).alloc (Nat.le_refl _) (.cells #[.bool l_0, .string l_1, .int .i64 l_2] 23))
              have L := Has3.start w12 (.bool l_0) (.string l_1) (.int .i64 l_2) 23
              obtain ⟨_, ⟨_, a0, a01, a02⟩, ⟨_, b0, b01, b02⟩, ⟨_, c0, c01, c02⟩⟩ := id hS
              obtain ⟨_, X0, X1, X2⟩ := id X
              obtain ⟨_, L0, L1, L2⟩ := id L
              go_wp2_with fail
              clear a0 a01 a02 b0 b01 b02 c0 c01 c02
              clear X0 X1 X2
              clear L0 L1 L2
              refine (mul_r ⟨a1, a2, a3⟩ ⟨c1, c2, c3⟩ _ ha hc).mono ?_
              rintro e w13 ⟨m, rfl, hm, hbx⟩
              replace hS := hS.next hbx
              replace X := X.next hbx
              replace L := L.next hbx
              clear hbx
              have Hm := hide hm
              clear hm
              generalize hz0 : rx m = m_0
              have mZ0 := hide hz0
              clear hz0
              generalize hz1 : ry m = m_1
              have mZ1 := hide hz1
              clear hz1
              generalize hz2 : rz m = m_2
              have mZ2 := hide hz2
              clear hz2
              generalize hz3 : re m = m_3
              have mZ3 := hide hz3
              clear hz3
              replace hS := hS.next ((Below.refl _ _).alloc (Nat.le_refl _) (.cells #[.bool m_0, .string m_1, .int .i64 m_2] 23))
              replace X := X.next ((Below.refl _ _).alloc (Nat.le_refl _) (.cells #[.bool m_0, .string m_1, .int .i64 m_2] 23))
              replace L := L.next ((Below.refl _ _).alloc (Nat.le_refl _) (.cells #[.bool m_0, .string m_1, .int .i64 m_2] 23))
              have M := Has3.start w13 (.bool m_0) (.string m_1) (.int .i64 m_2) 23
              obtain ⟨_, ⟨_, a0, a01, a02⟩, ⟨_, b0, b01, b02⟩, ⟨_, c0, c01, c02⟩⟩ := id hS
              obtain ⟨_, X0, X1, X2⟩ := id X
              obtain ⟨_, L0, L1, L2⟩ := id L
              obtain ⟨_, M0, M1, M2⟩ := id M
              go_wp2_with fail
              clear a0 a01 a02 b0 b01 b02 c0 c01 c02
              clear X0 X1 X2
              clear L0 L1 L2
              clear M0 M1 M2
              refine (mul_r ⟨b1, b2, b3⟩ ⟨c1, c2, c3⟩ _ hb hc).mono ?_
              rintro e w14 ⟨n, rfl, hn, hbx⟩
              replace hS := hS.next hbx
              replace X := X.next hbx
              replace L := L.next hbx
              replace M := M.next hbx
              clear hbx
              have Hn := hide hn
              clear hn
              generalize hz0 : rx n = n_0
              have nZ0 := hide hz0
              clear hz0
              generalize hz1 : ry n = n_1
              have nZ1 := hide hz1
              clear hz1
              generalize hz2 : rz n = n_2
              have nZ2 := hide hz2
              clear hz2
              generalize hz3 : re n = n_3
              have nZ3 := hide hz3
              clear hz3
              replace hS := hS.next ((Below.refl _ _).alloc (Nat.le_refl _) (.cells #[.bool n_0, .string n_1, .int .i64 n_2] 23))
              replace X := X.next ((Below.refl _ _).alloc (Nat.le_refl _) (.cells #[.bool n_0, .string n_1, .int .i64 n_2] 23))
              replace L := L.next ((Below.refl _ _).alloc (Nat.le_refl _) (.cells #[.bool n_0, .string n_1, .int .i64 n_2] 23))
              replace M := M.next ((Below.refl _ _).alloc (Nat.le_refl _) (.cells #[.bool n_0, .string n_1, .int .i64 n_2] 23))
              have N := Has3.start w14 (.bool n_0) (.string n_1) (.int .i64 n_2) 23
              cases l with
              | none =>
                obtain rfl := unhide lZ3
                simp only [re]
                obtain ⟨_, ⟨_, a0, a01, a02⟩, ⟨_, b0, b01, b02⟩, ⟨_, c0, c01, c02⟩⟩ := id hS
                obtain ⟨_, X0, X1, X2⟩ := id X
                obtain ⟨_, L0, L1, L2⟩ := id L
                obtain ⟨_, M0, M1, M2⟩ := id M
                obtain ⟨_, N0, N1, N2⟩ := id N
                go_wp2_with fail
                go_meet
                case rel => exact hS
              | some l =>
                obtain ⟨l1, l2, l3⟩ := l
                obtain rfl : l1 = l_0 := unhide lZ0
                obtain rfl : l_1 = ⟨l2.toArray⟩ := (unhide lZ1).symm
                obtain rfl : l_2 = (l3 : Int) := (unhide lZ2).symm
                obtain rfl : l_3 = 0 := (unhide lZ3).symm
                clear lZ0 lZ1 lZ2 lZ3
                cases m with
                | none =>
                  obtain rfl := unhide mZ3
                  simp only [re]
                  obtain ⟨_, ⟨_, a0, a01, a02⟩, ⟨_, b0, b01, b02⟩, ⟨_, c0, c01, c02⟩⟩ := id hS
                  obtain ⟨_, X0, X1, X2⟩ := id X
                  obtain ⟨_, L0, L1, L2⟩ := id L
                  obtain ⟨_, M0, M1, M2⟩ := id M
                  obtain ⟨_, N0, N1, N2⟩ := id N
                  go_wp2_with fail
                  go_meet
                  case rel => exact hS
                | some m =>
                  obtain ⟨m1, m2, m3⟩ := m
                  obtain rfl : m1 = m_0 := unhide mZ0
                  obtain rfl : m_1 = ⟨m2.toArray⟩ := (unhide mZ1).symm
                  obtain rfl : m_2 = (m3 : Int) := (unhide mZ2).symm
                  obtain rfl : m_3 = 0 := (unhide mZ3).symm
                  clear mZ0 mZ1 mZ2 mZ3
                  cases n with
                  | none =>
                    obtain rfl := unhide nZ3
                    simp only [re]
                    obtain ⟨_, ⟨_, a0, a01, a02⟩, ⟨_, b0, b01, b02⟩, ⟨_, c0, c01, c02⟩⟩ := id hS
                    obtain ⟨_, X0, X1, X2⟩ := id X
                    obtain ⟨_, L0, L1, L2⟩ := id L
                    obtain ⟨_, M0, M1, M2⟩ := id M
                    obtain ⟨_, N0, N1, N2⟩ := id N
                    go_wp2_with fail
                    go_meet
                    case rel => exact hS
                  | some n =>
                    obtain ⟨n1, n2, n3⟩ := n
                    obtain rfl : n1 = n_0 := unhide nZ0
                    obtain rfl : n_1 = ⟨n2.toArray⟩ := (unhide nZ1).symm
                    obtain rfl : n_2 = (n3 : Int) := (unhide nZ2).symm
                    obtain rfl : n_3 = 0 := (unhide nZ3).symm
                    clear nZ0 nZ1 nZ2 nZ3
                    as_aux_lemma =>
                      obtain ⟨_, ⟨_, a0, a01, a02⟩, ⟨_, b0, b01, b02⟩, ⟨_, c0, c01, c02⟩⟩ := id hS
                      obtain ⟨_, X0, X1, X2⟩ := id X
                      obtain ⟨_, L0, L1, L2⟩ := id L
                      obtain ⟨_, M0, M1, M2⟩ := id M
                      obtain ⟨_, N0, N1, N2⟩ := id N
                      go_wp2_with fail
                      clear a0 a01 a02 b0 b01 b02 c0 c01 c02
                      clear X0 X1 X2
                      clear L0 L1 L2
                      clear M0 M1 M2
                      clear N0 N1 N2
                      refine (add_r m1 m2 m3 n1 n2 n3 _ (unhide Hm).1 (unhide Hn).1).mono ?_
                      rintro e w16 ⟨s, rfl, hs, hbx⟩
                      replace hS := hS.next hbx
                      replace X := X.next hbx
                      replace L := L.next hbx
                      replace M := M.next hbx
                      replace N := N.next hbx
                      clear hbx
                      obtain rfl : s = some ⟨l1, l2, l3⟩ := spread_rep (a := ⟨a1, a2, a3⟩) (b := ⟨b1, b2, b3⟩) (c := ⟨c1, c2, c3⟩) (x := ⟨x1, x2, x3⟩) (l := ⟨l1, l2, l3⟩) (m := ⟨m1, m2, m3⟩) (n := ⟨n1, n2, n3⟩) (unhide Hr) (unhide Hl) (unhide Hm) (unhide Hn) hs
                      clear hs
                      simp only [rx, ry, rz, re]
                      replace hS := hS.next ((Below.refl _ _).alloc (Nat.le_refl _) (.cells #[.bool l1, .string ⟨l2.toArray⟩, .int .i64 (l3 : Int)] 23))
                      replace X := X.next ((Below.refl _ _).alloc (Nat.le_refl _) (.cells #[.bool l1, .string ⟨l2.toArray⟩, .int .i64 (l3 : Int)] 23))
                      replace L := L.next ((Below.refl _ _).alloc (Nat.le_refl _) (.cells #[.bool l1, .string ⟨l2.toArray⟩, .int .i64 (l3 : Int)] 23))
                      replace M := M.next ((Below.refl _ _).alloc (Nat.le_refl _) (.cells #[.bool l1, .string ⟨l2.toArray⟩, .int .i64 (l3 : Int)] 23))
                      replace N := N.next ((Below.refl _ _).alloc (Nat.le_refl _) (.cells #[.bool l1, .string ⟨l2.toArray⟩, .int .i64 (l3 : Int)] 23))
                      have S := Has3.start w16 (.bool l1) (.string ⟨l2.toArray⟩) (.int .i64 (l3 : Int)) 23
                      obtain ⟨_, ⟨_, a0, a01, a02⟩, ⟨_, b0, b01, b02⟩, ⟨_, c0, c01, c02⟩⟩ := id hS
                      obtain ⟨_, X0, X1, X2⟩ := id X
                      obtain ⟨_, L0, L1, L2⟩ := id L
                      obtain ⟨_, M0, M1, M2⟩ := id M
                      obtain ⟨_, N0, N1, N2⟩ := id N
                      obtain ⟨_, S0, S1, S2⟩ := id S
                      go_wp2_with fail
                      go_meet
                      case rel => exact hS
      case rest =>
        as_aux_lemma =>
          clear X hS rZ0 rZ1 rZ2 rZ3 Hr
          have hS := hcut
          clear hcut
          obtain ⟨q1, hq1⟩ : ∃ q1, cmpD a1 a2 a3 b1 b2 b3 = q1 := ⟨_, rfl⟩
          obtain ⟨q2, hq2⟩ : ∃ q2, cmpD b1 b2 b3 a1 a2 a3 = q2 := ⟨_, rfl⟩
          have hqn : q1 = -q2 := by rw [← hq1, ← hq2]; exact cmpD_turn (a := ⟨a1, a2, a3⟩) (b := ⟨b1, b2, b3⟩) ha hb
          have hqr : q2 = -1 ∨ q2 = 0 ∨ q2 = 1 := by rw [← hq2]; exact cmpD_range b1 b2 b3 a1 a2 a3
          have hqw : IntKind.i64.wrap (-q2) = q1 := by rw [hqn]; rcases hqr with rfl | rfl | rfl <;> decide
          have hqe : (q1 == 0) = decEq a1 a2 a3 b1 b2 b3 := by rw [← hq1]; exact cmpD_eq (a := ⟨a1, a2, a3⟩) (b := ⟨b1, b2, b3⟩) ha hb
          have HCS := hide (rules_cases a1 a2 a3 b1 b2 b3 q1 hqe)
          have HQW := hide hqw
          clear hqe hqn hqr hqw
          have HQ1 := hide hq1
          have HQ2 := hide hq2
          clear hq1 hq2
          obtain ⟨_, ⟨_, a0, a01, a02⟩, ⟨_, b0, b01, b02⟩, ⟨_, c0, c01, c02⟩⟩ := id hS
          go_wp2_with fail
          clear a0 a01 a02 b0 b01 b02 c0 c01 c02
          refine (sub_r a1 a2 a3 b1 b2 b3 _ ha hb).mono ?_
          rintro e w20 ⟨rd, rfl, hrd, hbx⟩
          replace hS := hS.next hbx
          clear hbx
          have HD := hide hrd
          clear hrd
          generalize hz0 : rx rd = d_0
          have dZ0 := hide hz0
          clear hz0
          generalize hz1 : ry rd = d_1
          have dZ1 := hide hz1
          clear hz1
          generalize hz2 : rz rd = d_2
          have dZ2 := hide hz2
          clear hz2
          generalize hz3 : re rd = d_3
          have dZ3 := hide hz3
          clear hz3
          replace hS := hS.next ((Below.refl _ _).alloc (Nat.le_refl _) (.cells #[.bool d_0, .string d_1, .int .i64 d_2] 23))
          have D := Has3.start w20 (.bool d_0) (.string d_1) (.int .i64 d_2) 23
          replace hS := hS.next ((Below.refl _ _).alloc (Nat.le_refl _) (.cells #[.bool false, .string ⟨#[48]⟩, .int .i64 0] 23))
          replace D := D.next ((Below.refl _ _).alloc (Nat.le_refl _) (.cells #[.bool false, .string ⟨#[48]⟩, .int .i64 0] 23))
          have O := Has3.start (w20.alloc (.cells #[.bool d_0, .string d_1, .int .i64 d_2] 23)) (.bool false) (.string ⟨#[48]⟩) (.int .i64 0) 23
          have hsz : (w20.alloc (.cells #[.bool d_0, .string d_1, .int .i64 d_2] 23)).heap.size = w20.heap.size + 1 := by simp
          rw [hsz] at O
          clear hsz
          obtain ⟨_, ⟨_, a0, a01, a02⟩, ⟨_, b0, b01, b02⟩, ⟨_, c0, c01, c02⟩⟩ := id hS
          obtain ⟨_, D0, D1, D2⟩ := id D
          obtain ⟨_, O0, O1, O2⟩ := id O
          go_upto_region 23 with fail
          clear a0 a01 a02 b0 b01 b02 c0 c01 c02
          clear D0 D1 D2
          clear O0 O1 O2
          go_cut [29] from 30 (fun c wx => c = .bool true ∧ Abc w a1 a2 a3 b1 b2 b3 c1 c2 c3 wx)
          case first =>
            as_aux_lemma =>
              clear HCS HQW HQ2
              cases rd with
              | none =>
                obtain rfl := unhide dZ3
                simp only [re]
                obtain ⟨_, ⟨_, a0, a01, a02⟩, ⟨_, b0, b01, b02⟩, ⟨_, c0, c01, c02⟩⟩ := id hS
                obtain ⟨_, D0, D1, D2⟩ := id D
                obtain ⟨_, O0, O1, O2⟩ := id O
                go_quiet (fail)
                replace hS := hS.next (below_drewN (Below.refl _ _) nq)
                go_wp2_with fail
                go_meet
                case rel => exact ⟨rfl, hS⟩
              | some d =>
                obtain ⟨d1, d2, d3⟩ := d
                obtain rfl : d1 = d_0 := unhide dZ0
                obtain rfl : d_1 = ⟨d2.toArray⟩ := (unhide dZ1).symm
                obtain rfl : d_2 = (d3 : Int) := (unhide dZ2).symm
                obtain rfl : d_3 = 0 := (unhide dZ3).symm
                clear dZ0 dZ1 dZ2 dZ3
                have dM := (unhide HD).1
                have dO := sub_order (a := ⟨a1, a2, a3⟩) (b := ⟨b1, b2, b3⟩) ha hb (unhide HD)
                have DO : Hid (sgnD d1 d2 = q1) := hide (dO.trans (unhide HQ1))
                clear dO HD
                have tok4 : True := trivial
                have tok5 : True := trivial
                obtain ⟨_, ⟨_, a0, a01, a02⟩, ⟨_, b0, b01, b02⟩, ⟨_, c0, c01, c02⟩⟩ := id hS
                obtain ⟨_, D0, D1, D2⟩ := id D
                obtain ⟨_, O0, O1, O2⟩ := id O
                go_region_held3 (fun w' => (w'.cell? ⟨w20.heap.size, 0, none⟩ = some (.bool d1) ∧ w'.cell? ⟨w20.heap.size, 1, none⟩ = some (.string ⟨d2.toArray⟩) ∧ w'.cell? ⟨w20.heap.size, 2, none⟩ = some (.int .i64 (d3 : Int))) ∧ (w'.cell? ⟨w20.heap.size + 1, 0, none⟩ = some (.bool false) ∧ w'.cell? ⟨w20.heap.size + 1, 1, none⟩ = some (.string ⟨#[48]⟩) ∧ w'.cell? ⟨w20.heap.size + 1, 2, none⟩ = some (.int .i64 0)) ∧ (w'.cell? ⟨w.heap.size, 0, none⟩ = some (.bool a1) ∧ w'.cell? ⟨w.heap.size, 1, none⟩ = some (.string ⟨a2.toArray⟩) ∧ w'.cell? ⟨w.heap.size, 2, none⟩ = some (.int .i64 (a3 : Int))) ∧ (w'.cell? ⟨w.heap.size + 1, 0, none⟩ = some (.bool b1) ∧ w'.cell? ⟨w.heap.size + 1, 1, none⟩ = some (.string ⟨b2.toArray⟩) ∧ w'.cell? ⟨w.heap.size + 1, 2, none⟩ = some (.int .i64 (b3 : Int)))) (first | exact ⟨D.2, O.2, hS.2.1.2, hS.2.2.1.2⟩ | exact ⟨D.drew.2, O.drew.2, hS.drew.2.1.2, hS.drew.2.2.1.2⟩) (first | (go_at_call 27; have _t := tok4; refine (cmp_zero d1 d2 d3 q1 _ dM (unhide DO)).mono ?_; rintro e w' ⟨rfl, hbw⟩; replace hS := Abc.next (by first | exact hS | exact hS.drew) hbw; replace D := Has3.next (by first | exact D | exact D.drew) hbw; clear D0 D1 D2; obtain ⟨_, D0, D1, D2⟩ := id D; replace O := Has3.next (by first | exact O | exact O.drew) hbw; clear O0 O1 O2; obtain ⟨_, O0, O1, O2⟩ := id O; clear hbw; clear a0 a01 a02 b0 b01 b02 c0 c01 c02; obtain ⟨_, ⟨_, a0, a01, a02⟩, ⟨_, b0, b01, b02⟩, ⟨_, c0, c01, c02⟩⟩ := id hS; clear tok4 _t) | (go_at_call 27; have _t := tok5; refine (cmp_any a1 a2 a3 b1 b2 b3 q1 _ ha hb (unhide HQ1)).mono ?_; rintro e w' ⟨rfl, hbw⟩; replace hS := Abc.next (by first | exact hS | exact hS.drew) hbw; replace D := Has3.next (by first | exact D | exact D.drew) hbw; clear D0 D1 D2; obtain ⟨_, D0, D1, D2⟩ := id D; replace O := Has3.next (by first | exact O | exact O.drew) hbw; clear O0 O1 O2; obtain ⟨_, O0, O1, O2⟩ := id O; clear hbw; clear a0 a01 a02 b0 b01 b02 c0 c01 c02; obtain ⟨_, ⟨_, a0, a01, a02⟩, ⟨_, b0, b01, b02⟩, ⟨_, c0, c01, c02⟩⟩ := id hS; clear tok5 _t))
                all_goals
                  go_wp2_with fail
                  go_meet
                  case rel => exact ⟨rfl, hS⟩
          case rest =>
            as_aux_lemma =>
              clear D O hS dZ0 dZ1 dZ2 dZ3 HD
              obtain ⟨rfl, hS⟩ := hcut
              have tok1 : True := trivial
              have tok2 : True := trivial
              have tok3 : True := trivial
              obtain ⟨_, ⟨_, a0, a01, a02⟩, ⟨_, b0, b01, b02⟩, ⟨_, c0, c01, c02⟩⟩ := id hS
              go_wp2_with fail
              have hqw := unhide HQW
              clear HQW
              rcases unhide HCS with ⟨g1, g2, g3, g0⟩ | ⟨g1, g2, g3, g0⟩ | ⟨g1, g2, g0⟩ | ⟨g1, g0⟩
              all_goals
                clear HCS
                as_aux_lemma =>
                  go_region_held3 (fun w' => (w'.cell? ⟨w.heap.size, 0, none⟩ = some (.bool a1) ∧ w'.cell? ⟨w.heap.size, 1, none⟩ = some (.string ⟨a2.toArray⟩) ∧ w'.cell? ⟨w.heap.size, 2, none⟩ = some (.int .i64 (a3 : Int))) ∧ (w'.cell? ⟨w.heap.size + 1, 0, none⟩ = some (.bool b1) ∧ w'.cell? ⟨w.heap.size + 1, 1, none⟩ = some (.string ⟨b2.toArray⟩) ∧ w'.cell? ⟨w.heap.size + 1, 2, none⟩ = some (.int .i64 (b3 : Int)))) (first | exact ⟨hS.2.1.2, hS.2.2.1.2⟩ | exact ⟨hS.drew.2.1.2, hS.drew.2.2.1.2⟩) (first | (go_at_call 27; have _t := tok1; refine (cmp_any a1 a2 a3 b1 b2 b3 q1 _ ha hb (unhide HQ1)).mono ?_; rintro e w' ⟨rfl, hbw⟩; replace hS := Abc.next (by first | exact hS | exact hS.drew) hbw; clear hbw; clear a0 a01 a02 b0 b01 b02 c0 c01 c02; obtain ⟨_, ⟨_, a0, a01, a02⟩, ⟨_, b0, b01, b02⟩, ⟨_, c0, c01, c02⟩⟩ := id hS; clear tok1 _t) | (go_at_call 27; have _t := tok2; refine (cmp_any b1 b2 b3 a1 a2 a3 q2 _ hb ha (unhide HQ2)).mono ?_; rintro e w' ⟨rfl, hbw⟩; replace hS := Abc.next (by first | exact hS | exact hS.drew) hbw; clear hbw; clear a0 a01 a02 b0 b01 b02 c0 c01 c02; obtain ⟨_, ⟨_, a0, a01, a02⟩, ⟨_, b0, b01, b02⟩, ⟨_, c0, c01, c02⟩⟩ := id hS; clear tok2 _t) | (go_at_call 27; have _t := tok3; refine (cmp_any a1 a2 a3 b1 b2 b3 q1 _ ha hb (unhide HQ1)).mono ?_; rintro e w' ⟨rfl, hbw⟩; replace hS := Abc.next (by first | exact hS | exact hS.drew) hbw; clear hbw; clear a0 a01 a02 b0 b01 b02 c0 c01 c02; obtain ⟨_, ⟨_, a0, a01, a02⟩, ⟨_, b0, b01, b02⟩, ⟨_, c0, c01, c02⟩⟩ := id hS; clear tok3 _t))
                  go_wp2
                  go_ret
                  exact ⟨rfl, hS.1⟩
end Go.Proofs.YtijelgmmmceflaaDoor
