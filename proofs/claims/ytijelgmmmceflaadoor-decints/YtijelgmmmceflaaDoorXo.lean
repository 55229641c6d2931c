/- What is proved here: what the law DecOrder does with any three decimals and two numbers, walked; conditions: the table of powers of ten lies in the world. -/
import Derived.Test.YtijelgmmmceflaaDoorRc
import Derived.Test.YtijelgmmmceflaaDoorXh
namespace Go.Proofs.YtijelgmmmceflaaDoor
open Go.RowKit
set_option linter.unusedVariables false
set_option linter.unusedSimpArgs false

theorem cmp_i (x y q : Int) (w : World) (hx : x.natAbs < 18446744073709551616) (hy : y.natAbs < 18446744073709551616) (h : (x < y ∧ q = -1) ∨ (y < x ∧ q = 1) ∨ (x = y ∧ q = 0)) :
    Calls Tryd.prog 27 #[.agg #[.bool (Dm.ofInt x).ng, .string ⟨(Dm.ofInt x).ds.toArray⟩, .int .i64 0], .agg #[.bool (Dm.ofInt y).ng, .string ⟨(Dm.ofInt y).ds.toArray⟩, .int .i64 0]] w fun e w' => e = .returned (.int .i64 q) ∧ Below w.heap.size w w' := by
  have e : cmpD (Dm.ofInt x).ng (Dm.ofInt x).ds 0 (Dm.ofInt y).ng (Dm.ofInt y).ds 0 = q := by
    rw [ofInt_cmp x y hx hy]
    rcases h with ⟨g, rfl⟩ | ⟨g, rfl⟩ | ⟨g, rfl⟩
    · rw [if_pos g]
    · rw [if_neg (by omega), if_pos g]
    · rw [if_neg (by omega), if_neg (by omega)]
  exact cmp_any (Dm.ofInt x).ng (Dm.ofInt x).ds 0 (Dm.ofInt y).ng (Dm.ofInt y).ds 0 q w (Dm.ofInt_may x hx) (Dm.ofInt_may y hy) e
theorem may_i (x : Int) (w : World) (hx : x.natAbs < 18446744073709551616) :
    Calls Tryd.prog 18 #[.agg #[.bool (Dm.ofInt x).ng, .string ⟨(Dm.ofInt x).ds.toArray⟩, .int .i64 0]] w fun e w' => e = .returned (.bool true) ∧ Below w.heap.size w w' :=
  may_b (Dm.ofInt x).ng ⟨(Dm.ofInt x).ds.toArray⟩ 0 true w (by rw [mk_size]; have := (may_len (Dm.ofInt_may x hx)).2.1; unfold maxLen; omega) (dV_may (Dm.ofInt_may x hx))
theorem may_split4 {x : Bool} {s : ByteArray} {n : Int} (h : Dm.mayB x s.data.toList n = true) : ∃ (l : List UInt8) (j : Nat), s = ⟨l.toArray⟩ ∧ n = (j : Int) ∧ Dm.May ⟨x, l, j⟩ := by
  have hmb := Dm.mayB_iff.1 h
  obtain ⟨j, rfl⟩ := Int.eq_ofNat_of_zero_le hmb.1
  refine ⟨s.data.toList, j, by simp, rfl, ?_⟩
  have := hmb.2
  rwa [Int.toNat_natCast] at this
theorem order_q {x1 : Bool} {l1 : List UInt8} {j1 : Nat} {x2 : Bool} {l2 : List UInt8} {j2 : Nat} {x3 : Bool} {l3 : List UInt8} {j3 : Nat} (h1 : Dm.May ⟨x1, l1, j1⟩) (h2 : Dm.May ⟨x2, l2, j2⟩) (h3 : Dm.May ⟨x3, l3, j3⟩) {q1 q2 q3 : Int} (e1 : cmpD x1 l1 j1 x2 l2 j2 = q1) (e2 : cmpD x2 l2 j2 x3 l3 j3 = q2) (e3 : cmpD x1 l1 j1 x3 l3 j3 = q3) : 0 < q1 ∨ (¬ 0 < q1 ∧ 0 < q2) ∨ (¬ 0 < q1 ∧ ¬ 0 < q2 ∧ q3 ≤ 0) := by
  have h := cmpD_order (a := ⟨x1, l1, j1⟩) (b := ⟨x2, l2, j2⟩) (c := ⟨x3, l3, j3⟩) h1 h2 h3
  simp only at h
  rw [e1, e2, e3] at h
  by_cases g1 : 0 < q1
  · exact .inl g1
  · by_cases g2 : 0 < q2
    · exact .inr (.inl ⟨g1, g2⟩)
    · exact .inr (.inr ⟨g1, g2, h (by omega) (by omega)⟩)

set_option maxRecDepth 100000 in
set_option maxHeartbeats 4000000 in
theorem order_walk (x1 : Bool) (s1 : ByteArray) (n1 : Int) (x2 : Bool) (s2 : ByteArray) (n2 : Int) (x3 : Bool) (s3 : ByteArray) (n3 : Int) (x y : Int) (w : World) (hs1 : s1.size ≤ maxLen) (hs2 : s2.size ≤ maxLen) (hs3 : s3.size ≤ maxLen) (hx0 : -9223372036854775808 ≤ x) (hx1 : x ≤ 9223372036854775807) (hy0 : -9223372036854775808 ≤ y) (hy1 : y ≤ 9223372036854775807) (htab : Pow w) :
    Calls Tryd.prog 7 #[.agg #[.bool x1, .string s1, .int .i64 n1, .bool x2, .string s2, .int .i64 n2, .bool x3, .string s3, .int .i64 n3], .int .i64 x, .int .i64 y] w fun e w' => e = .returned (.bool true) ∧ Below w.heap.size w w' := by
  have hN := Nine.start w (.bool x1) (.string s1) (.int .i64 n1) (.bool x2) (.string s2) (.int .i64 n2) (.bool x3) (.string s3) (.int .i64 n3) 38
  have hT := htab.alloc (.cells #[.bool x1, .string s1, .int .i64 n1, .bool x2, .string s2, .int .i64 n2, .bool x3, .string s3, .int .i64 n3] 38)
  have ax : x.natAbs < 18446744073709551616 := by omega
  have ay : y.natAbs < 18446744073709551616 := by omega
  obtain ⟨p, hp⟩ : ∃ p : Int, (x < y ∧ p = -1) ∨ (¬ x < y ∧ p = 0) := by
    by_cases g : x < y
    · exact ⟨-1, .inl ⟨g, rfl⟩⟩
    · exact ⟨0, .inr ⟨g, rfl⟩⟩
  obtain ⟨q, hq⟩ : ∃ q : Int, (x < y ∧ q = -1) ∨ (y < x ∧ q = 1) ∨ (x = y ∧ q = 0) := by
    rcases Int.lt_trichotomy x y with g | g | g
    · exact ⟨-1, .inl ⟨g, rfl⟩⟩
    · exact ⟨0, .inr (.inr ⟨g, rfl⟩)⟩
    · exact ⟨1, .inr (.inl ⟨g, rfl⟩)⟩
  obtain ⟨m1, hm1⟩ : ∃ m, Dm.mayB x1 s1.data.toList n1 = m := ⟨_, rfl⟩
  obtain ⟨m2, hm2⟩ : ∃ m, Dm.mayB x2 s2.data.toList n2 = m := ⟨_, rfl⟩
  obtain ⟨m3, hm3⟩ : ∃ m, Dm.mayB x3 s3.data.toList n3 = m := ⟨_, rfl⟩
  have M1 := hide hm1
  have M2 := hide hm2
  have M3 := hide hm3
  clear hm1 hm2 hm3 htab
  go_enter Tryd.func7, Tryd.ntmps7
  obtain ⟨_, _, ⟨a0, a1, a2⟩, ⟨b0, b1, b2⟩, ⟨c0, c1, c2⟩⟩ := id hN
  go_wp2_with fail
  clear a0 a1 a2 b0 b1 b2 c0 c1 c2
  refine (shown_any _).mono ?_
  rintro e w1 ⟨rfl, hb⟩
  replace hN := hN.next hb
  replace hT := hT.next hb
  clear hb
  go_upto_if 12 with fail
  go_cut [8] from 9 (fun v wx => v = .int .i64 p ∧ wx = w1)
  case first =>
    as_aux_lemma =>
      clear hq
      rcases hp with ⟨g, rfl⟩ | ⟨g, rfl⟩
      all_goals
        go_wp2_with fail
        go_meet
        case rel => exact ⟨rfl, rfl⟩
  case rest =>
    as_aux_lemma =>
      obtain ⟨rfl, rfl⟩ := hcut
      go_upto_if 15 with fail
      go_cut [8] from 9 (fun v wx => v = .int .i64 q ∧ wx = wc)
      case first =>
        as_aux_lemma =>
          have hpq : (y < x ∧ q = 1) ∨ (¬ y < x ∧ p = q) := by omega
          clear hp hq
          rcases hpq with ⟨g, rfl⟩ | ⟨g, rfl⟩
          all_goals
            go_wp2_with fail
            go_meet
            case rel => exact ⟨rfl, rfl⟩
      case rest =>
        as_aux_lemma =>
          obtain ⟨rfl, rfl⟩ := hcut
          have HQ := hide hq
          clear hp hq
          obtain ⟨_, _, ⟨a0, a1, a2⟩, ⟨b0, b1, b2⟩, ⟨c0, c1, c2⟩⟩ := id hN
          go_wp2_with fail
          clear a0 a1 a2 b0 b1 b2 c0 c1 c2
          refine (int_any x _ hx0 hx1 hT).mono ?_
          rintro e w2 ⟨rfl, hb⟩
          replace hN := hN.next hb
          replace hT := hT.next hb
          clear hb
          obtain ⟨_, _, ⟨a0, a1, a2⟩, ⟨b0, b1, b2⟩, ⟨c0, c1, c2⟩⟩ := id hN
          go_wp2_with fail
          clear a0 a1 a2 b0 b1 b2 c0 c1 c2
          refine (int_any y _ hy0 hy1 hT).mono ?_
          rintro e w3 ⟨rfl, hb⟩
          replace hN := hN.next hb
          replace hT := hT.next hb
          clear hb
          obtain ⟨_, _, ⟨a0, a1, a2⟩, ⟨b0, b1, b2⟩, ⟨c0, c1, c2⟩⟩ := id hN
          go_wp2_with fail
          clear a0 a1 a2 b0 b1 b2 c0 c1 c2
          refine (cmp_i x y q _ ax ay (unhide HQ)).mono ?_
          rintro e w4 ⟨rfl, hb⟩
          replace hN := hN.next hb
          replace hT := hT.next hb
          clear hb
          obtain ⟨_, _, ⟨a0, a1, a2⟩, ⟨b0, b1, b2⟩, ⟨c0, c1, c2⟩⟩ := id hN
          go_wp2_with fail
          clear a0 a1 a2 b0 b1 b2 c0 c1 c2
          refine (int_any x _ hx0 hx1 hT).mono ?_
          rintro e w5 ⟨rfl, hb⟩
          replace hN := hN.next hb
          replace hT := hT.next hb
          clear hb
          obtain ⟨_, _, ⟨a0, a1, a2⟩, ⟨b0, b1, b2⟩, ⟨c0, c1, c2⟩⟩ := id hN
          go_wp2_with fail
          clear a0 a1 a2 b0 b1 b2 c0 c1 c2
          refine (may_i x _ ax).mono ?_
          rintro e w6 ⟨rfl, hb⟩
          replace hN := hN.next hb
          replace hT := hT.next hb
          clear hb
          clear HQ hT hx0 hx1 hy0 hy1 ax ay
          obtain ⟨_, _, ⟨a0, a1, a2⟩, ⟨b0, b1, b2⟩, ⟨c0, c1, c2⟩⟩ := id hN
          go_wp2_with fail
          clear a0 a1 a2 b0 b1 b2 c0 c1 c2
          refine (may_b x1 s1 n1 m1 _ hs1 (unhide M1)).mono ?_
          rintro e w7 ⟨rfl, hb⟩
          replace hN := hN.next hb
          clear hb
          cases m1 with
          | false =>
            obtain ⟨_, _, ⟨a0, a1, a2⟩, ⟨b0, b1, b2⟩, ⟨c0, c1, c2⟩⟩ := id hN
            go_wp2
            go_ret
            exact ⟨rfl, hN.1⟩
          | true =>
            obtain ⟨_, _, ⟨a0, a1, a2⟩, ⟨b0, b1, b2⟩, ⟨c0, c1, c2⟩⟩ := id hN
            go_wp2_with fail
            clear a0 a1 a2 b0 b1 b2 c0 c1 c2
            refine (may_b x2 s2 n2 m2 _ hs2 (unhide M2)).mono ?_
            rintro e w8 ⟨rfl, hb⟩
            replace hN := hN.next hb
            clear hb
            cases m2 with
            | false =>
              obtain ⟨_, _, ⟨a0, a1, a2⟩, ⟨b0, b1, b2⟩, ⟨c0, c1, c2⟩⟩ := id hN
              go_wp2
              go_ret
              exact ⟨rfl, hN.1⟩
            | true =>
              obtain ⟨_, _, ⟨a0, a1, a2⟩, ⟨b0, b1, b2⟩, ⟨c0, c1, c2⟩⟩ := id hN
              go_wp2_with fail
              clear a0 a1 a2 b0 b1 b2 c0 c1 c2
              refine (may_b x3 s3 n3 m3 _ hs3 (unhide M3)).mono ?_
              rintro e w9 ⟨rfl, hb⟩
              replace hN := hN.next hb
              clear hb
              cases m3 with
              | false =>
                obtain ⟨_, _, ⟨a0, a1, a2⟩, ⟨b0, b1, b2⟩, ⟨c0, c1, c2⟩⟩ := id hN
                go_wp2
                go_ret
                exact ⟨rfl, hN.1⟩
              | true =>
                obtain ⟨l1, j1, rfl, rfl, h1⟩ := may_split4 (unhide M1)
                obtain ⟨l2, j2, rfl, rfl, h2⟩ := may_split4 (unhide M2)
                obtain ⟨l3, j3, rfl, rfl, h3⟩ := may_split4 (unhide M3)
                clear M1 M2 M3 hs1 hs2 hs3
                obtain ⟨q1, hq1⟩ : ∃ q, cmpD x1 l1 j1 x2 l2 j2 = q := ⟨_, rfl⟩
                obtain ⟨q2, hq2⟩ : ∃ q, cmpD x2 l2 j2 x3 l3 j3 = q := ⟨_, rfl⟩
                obtain ⟨q3, hq3⟩ : ∃ q, cmpD x1 l1 j1 x3 l3 j3 = q := ⟨_, rfl⟩
                have hord := order_q h1 h2 h3 hq1 hq2 hq3
                have Q1 := hide hq1
                have Q2 := hide hq2
                have Q3 := hide hq3
                clear hq1 hq2 hq3
                rcases hord with g | ⟨g, g2⟩ | ⟨g, g2, g3⟩
                · skip
                  obtain ⟨_, _, ⟨a0, a1, a2⟩, ⟨b0, b1, b2⟩, ⟨c0, c1, c2⟩⟩ := id hN
                  go_wp2_with fail
                  clear a0 a1 a2 b0 b1 b2 c0 c1 c2
                  refine (cmp_any x1 l1 j1 x2 l2 j2 q1 _ h1 h2 (unhide Q1)).mono ?_
                  rintro e v1 ⟨rfl, hb⟩
                  replace hN := hN.next hb
                  clear hb
                  obtain ⟨_, _, ⟨a0, a1, a2⟩, ⟨b0, b1, b2⟩, ⟨c0, c1, c2⟩⟩ := id hN
                  go_wp2
                  go_ret
                  exact ⟨rfl, hN.1⟩
                · skip
                  obtain ⟨_, _, ⟨a0, a1, a2⟩, ⟨b0, b1, b2⟩, ⟨c0, c1, c2⟩⟩ := id hN
                  go_wp2_with fail
                  clear a0 a1 a2 b0 b1 b2 c0 c1 c2
                  refine (cmp_any x1 l1 j1 x2 l2 j2 q1 _ h1 h2 (unhide Q1)).mono ?_
                  rintro e v1 ⟨rfl, hb⟩
                  replace hN := hN.next hb
                  clear hb
                  obtain ⟨_, _, ⟨a0, a1, a2⟩, ⟨b0, b1, b2⟩, ⟨c0, c1, c2⟩⟩ := id hN
                  go_wp2_with fail
                  clear a0 a1 a2 b0 b1 b2 c0 c1 c2
                  refine (cmp_any x2 l2 j2 x3 l3 j3 q2 _ h2 h3 (unhide Q2)).mono ?_
                  rintro e v2 ⟨rfl, hb⟩
                  replace hN := hN.next hb
                  clear hb
                  obtain ⟨_, _, ⟨a0, a1, a2⟩, ⟨b0, b1, b2⟩, ⟨c0, c1, c2⟩⟩ := id hN
                  go_wp2
                  go_ret
                  exact ⟨rfl, hN.1⟩
                · skip
                  obtain ⟨_, _, ⟨a0, a1, a2⟩, ⟨b0, b1, b2⟩, ⟨c0, c1, c2⟩⟩ := id hN
                  go_wp2_with fail
                  clear a0 a1 a2 b0 b1 b2 c0 c1 c2
                  refine (cmp_any x1 l1 j1 x2 l2 j2 q1 _ h1 h2 (unhide Q1)).mono ?_
                  rintro e v1 ⟨rfl, hb⟩
                  replace hN := hN.next hb
                  clear hb
                  obtain ⟨_, _, ⟨a0, a1, a2⟩, ⟨b0, b1, b2⟩, ⟨c0, c1, c2⟩⟩ := id hN
                  go_wp2_with fail
                  clear a0 a1 a2 b0 b1 b2 c0 c1 c2
                  refine (cmp_any x2 l2 j2 x3 l3 j3 q2 _ h2 h3 (unhide Q2)).mono ?_
                  rintro e v2 ⟨rfl, hb⟩
                  replace hN := hN.next hb
                  clear hb
                  obtain ⟨_, _, ⟨a0, a1, a2⟩, ⟨b0, b1, b2⟩, ⟨c0, c1, c2⟩⟩ := id hN
                  go_wp2_with fail
                  clear a0 a1 a2 b0 b1 b2 c0 c1 c2
                  refine (cmp_any x1 l1 j1 x3 l3 j3 q3 _ h1 h3 (unhide Q3)).mono ?_
                  rintro e v3 ⟨rfl, hb⟩
                  replace hN := hN.next hb
                  clear hb
                  obtain ⟨_, _, ⟨a0, a1, a2⟩, ⟨b0, b1, b2⟩, ⟨c0, c1, c2⟩⟩ := id hN
                  go_wp2
                  go_ret
                  exact ⟨rfl, hN.1⟩
end Go.Proofs.YtijelgmmmceflaaDoor
