/- What is proved here: what the law DecRules does with any three decimals, walked; conditions: none. -/
import Derived.Test.YtijelgmmmceflaaDoorXa
namespace Go.Proofs.YtijelgmmmceflaaDoor
open Go.RowKit
set_option linter.unusedVariables false
set_option linter.unusedSimpArgs false

set_option maxRecDepth 100000 in
set_option maxHeartbeats 1000000 in
theorem rules_no1 (x1 : Bool) (s1 : ByteArray) (n1 : Int) (x2 : Bool) (s2 : ByteArray) (n2 : Int) (x3 : Bool) (s3 : ByteArray) (n3 : Int) (w : World) (hs1 : s1.size ≤ maxLen) (hs2 : s2.size ≤ maxLen) (hs3 : s3.size ≤ maxLen) (h1 : Dm.mayB x1 s1.data.toList n1 = false) :
    Calls Tryd.prog 6 #[.agg #[.bool x1, .string s1, .int .i64 n1], .agg #[.bool x2, .string s2, .int .i64 n2], .agg #[.bool x3, .string s3, .int .i64 n3]] w fun e w' => e = .returned (.bool true) ∧ Below w.heap.size w w' := by
  have hS := Abv.start w (.bool x1) (.string s1) (.int .i64 n1) (.bool x2) (.string s2) (.int .i64 n2) (.bool x3) (.string s3) (.int .i64 n3)
  have H1 := hide h1
  clear h1
  go_enter Tryd.func6, Tryd.ntmps6
  obtain ⟨_, ⟨_, a0, a01, a02⟩, ⟨_, b0, b01, b02⟩, ⟨_, c0, c01, c02⟩⟩ := id hS
  go_wp2_with fail
  clear a0 a01 a02 b0 b01 b02 c0 c01 c02
  refine (shown_any _).mono ?_
  rintro e w1 ⟨rfl, hb1⟩
  replace hS := hS.next hb1
  clear hb1
  obtain ⟨_, ⟨_, a0, a01, a02⟩, ⟨_, b0, b01, b02⟩, ⟨_, c0, c01, c02⟩⟩ := id hS
  go_wp2_with fail
  clear a0 a01 a02 b0 b01 b02 c0 c01 c02
  refine (may_b x1 s1 n1 false _ hs1 (unhide H1)).mono ?_
  rintro e w2 ⟨rfl, hb2⟩
  replace hS := hS.next hb2
  clear hb2
  go_wp2
  go_ret
  exact ⟨rfl, hS.1⟩
set_option maxRecDepth 100000 in
set_option maxHeartbeats 1000000 in
theorem rules_no2 (x1 : Bool) (s1 : ByteArray) (n1 : Int) (x2 : Bool) (s2 : ByteArray) (n2 : Int) (x3 : Bool) (s3 : ByteArray) (n3 : Int) (w : World) (hs1 : s1.size ≤ maxLen) (hs2 : s2.size ≤ maxLen) (hs3 : s3.size ≤ maxLen) (h1 : Dm.mayB x1 s1.data.toList n1 = true) (h2 : Dm.mayB x2 s2.data.toList n2 = false) :
    Calls Tryd.prog 6 #[.agg #[.bool x1, .string s1, .int .i64 n1], .agg #[.bool x2, .string s2, .int .i64 n2], .agg #[.bool x3, .string s3, .int .i64 n3]] w fun e w' => e = .returned (.bool true) ∧ Below w.heap.size w w' := by
  have hS := Abv.start w (.bool x1) (.string s1) (.int .i64 n1) (.bool x2) (.string s2) (.int .i64 n2) (.bool x3) (.string s3) (.int .i64 n3)
  have H1 := hide h1
  clear h1
  have H2 := hide h2
  clear h2
  go_enter Tryd.func6, Tryd.ntmps6
  obtain ⟨_, ⟨_, a0, a01, a02⟩, ⟨_, b0, b01, b02⟩, ⟨_, c0, c01, c02⟩⟩ := id hS
  go_wp2_with fail
  clear a0 a01 a02 b0 b01 b02 c0 c01 c02
  refine (shown_any _).mono ?_
  rintro e w1 ⟨rfl, hb1⟩
  replace hS := hS.next hb1
  clear hb1
  obtain ⟨_, ⟨_, a0, a01, a02⟩, ⟨_, b0, b01, b02⟩, ⟨_, c0, c01, c02⟩⟩ := id hS
  go_wp2_with fail
  clear a0 a01 a02 b0 b01 b02 c0 c01 c02
  refine (may_b x1 s1 n1 true _ hs1 (unhide H1)).mono ?_
  rintro e w2 ⟨rfl, hb2⟩
  replace hS := hS.next hb2
  clear hb2
  obtain ⟨_, ⟨_, a0, a01, a02⟩, ⟨_, b0, b01, b02⟩, ⟨_, c0, c01, c02⟩⟩ := id hS
  go_wp2_with fail
  clear a0 a01 a02 b0 b01 b02 c0 c01 c02
  refine (may_b x2 s2 n2 false _ hs2 (unhide H2)).mono ?_
  rintro e w3 ⟨rfl, hb3⟩
  replace hS := hS.next hb3
  clear hb3
  go_wp2
  go_ret
  exact ⟨rfl, hS.1⟩
set_option maxRecDepth 100000 in
set_option maxHeartbeats 1000000 in
theorem rules_no3 (x1 : Bool) (s1 : ByteArray) (n1 : Int) (x2 : Bool) (s2 : ByteArray) (n2 : Int) (x3 : Bool) (s3 : ByteArray) (n3 : Int) (w : World) (hs1 : s1.size ≤ maxLen) (hs2 : s2.size ≤ maxLen) (hs3 : s3.size ≤ maxLen) (h1 : Dm.mayB x1 s1.data.toList n1 = true) (h2 : Dm.mayB x2 s2.data.toList n2 = true) (h3 : Dm.mayB x3 s3.data.toList n3 = false) :
    Calls Tryd.prog 6 #[.agg #[.bool x1, .string s1, .int .i64 n1], .agg #[.bool x2, .string s2, .int .i64 n2], .agg #[.bool x3, .string s3, .int .i64 n3]] w fun e w' => e = .returned (.bool true) ∧ Below w.heap.size w w' := by
  have hS := Abv.start w (.bool x1) (.string s1) (.int .i64 n1) (.bool x2) (.string s2) (.int .i64 n2) (.bool x3) (.string s3) (.int .i64 n3)
  have H1 := hide h1
  clear h1
  have H2 := hide h2
  clear h2
  have H3 := hide h3
  clear h3
  go_enter Tryd.func6, Tryd.ntmps6
  obtain ⟨_, ⟨_, a0, a01, a02⟩, ⟨_, b0, b01, b02⟩, ⟨_, c0, c01, c02⟩⟩ := id hS
  go_wp2_with fail
  clear a0 a01 a02 b0 b01 b02 c0 c01 c02
  refine (shown_any _).mono ?_
  rintro e w1 ⟨rfl, hb1⟩
  replace hS := hS.next hb1
  clear hb1
  obtain ⟨_, ⟨_, a0, a01, a02⟩, ⟨_, b0, b01, b02⟩, ⟨_, c0, c01, c02⟩⟩ := id hS
  go_wp2_with fail
  clear a0 a01 a02 b0 b01 b02 c0 c01 c02
  refine (may_b x1 s1 n1 true _ hs1 (unhide H1)).mono ?_
  rintro e w2 ⟨rfl, hb2⟩
  replace hS := hS.next hb2
  clear hb2
  obtain ⟨_, ⟨_, a0, a01, a02⟩, ⟨_, b0, b01, b02⟩, ⟨_, c0, c01, c02⟩⟩ := id hS
  go_wp2_with fail
  clear a0 a01 a02 b0 b01 b02 c0 c01 c02
  refine (may_b x2 s2 n2 true _ hs2 (unhide H2)).mono ?_
  rintro e w3 ⟨rfl, hb3⟩
  replace hS := hS.next hb3
  clear hb3
  obtain ⟨_, ⟨_, a0, a01, a02⟩, ⟨_, b0, b01, b02⟩, ⟨_, c0, c01, c02⟩⟩ := id hS
  go_wp2_with fail
  clear a0 a01 a02 b0 b01 b02 c0 c01 c02
  refine (may_b x3 s3 n3 false _ hs3 (unhide H3)).mono ?_
  rintro e w4 ⟨rfl, hb4⟩
  replace hS := hS.next hb4
  clear hb4
  go_wp2
  go_ret
  exact ⟨rfl, hS.1⟩
theorem may_split3 {x : Bool} {s : ByteArray} {n : Int} (h : Dm.mayB x s.data.toList n = true) : ∃ (l : List UInt8) (j : Nat), s = ⟨l.toArray⟩ ∧ n = (j : Int) ∧ Dm.May ⟨x, l, j⟩ := by
  have hmb := Dm.mayB_iff.1 h
  obtain ⟨j, rfl⟩ := Int.eq_ofNat_of_zero_le hmb.1
  refine ⟨s.data.toList, j, by simp, rfl, ?_⟩
  have := hmb.2
  rwa [Int.toNat_natCast] at this
theorem rules_walk (x1 : Bool) (s1 : ByteArray) (n1 : Int) (x2 : Bool) (s2 : ByteArray) (n2 : Int) (x3 : Bool) (s3 : ByteArray) (n3 : Int) (w : World) (hs1 : s1.size ≤ maxLen) (hs2 : s2.size ≤ maxLen) (hs3 : s3.size ≤ maxLen) :
    Calls Tryd.prog 6 #[.agg #[.bool x1, .string s1, .int .i64 n1], .agg #[.bool x2, .string s2, .int .i64 n2], .agg #[.bool x3, .string s3, .int .i64 n3]] w fun e w' => e = .returned (.bool true) ∧ Below w.heap.size w w' := by
  cases h1 : Dm.mayB x1 s1.data.toList n1 with
  | false => exact rules_no1 x1 s1 n1 x2 s2 n2 x3 s3 n3 w hs1 hs2 hs3 h1
  | true =>
    cases h2 : Dm.mayB x2 s2.data.toList n2 with
    | false => exact rules_no2 x1 s1 n1 x2 s2 n2 x3 s3 n3 w hs1 hs2 hs3 h1 h2
    | true =>
      cases h3 : Dm.mayB x3 s3.data.toList n3 with
      | false => exact rules_no3 x1 s1 n1 x2 s2 n2 x3 s3 n3 w hs1 hs2 hs3 h1 h2 h3
      | true =>
        obtain ⟨a, j, rfl, rfl, ha⟩ := may_split3 h1
        obtain ⟨b, k, rfl, rfl, hb⟩ := may_split3 h2
        obtain ⟨c, l, rfl, rfl, hc⟩ := may_split3 h3
        exact rules_true x1 a j x2 b k x3 c l w ha hb hc
end Go.Proofs.YtijelgmmmceflaaDoor
