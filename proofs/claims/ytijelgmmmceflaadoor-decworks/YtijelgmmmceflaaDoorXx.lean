/- What is proved here: what the law DecWorks does with any two decimals, walked; conditions: none. -/
import Derived.Test.YtijelgmmmceflaaDoorXw
namespace Go.Proofs.YtijelgmmmceflaaDoor
open Go.RowKit
set_option linter.unusedVariables false
set_option linter.unusedSimpArgs false

set_option maxRecDepth 100000 in
set_option maxHeartbeats 1000000 in
theorem works_false (x1 : Bool) (s1 : ByteArray) (n1 : Int) (x2 : Bool) (s2 : ByteArray) (n2 : Int) (m1 m2 : Bool) (w : World) (hs1 : s1.size ≤ maxLen) (hs2 : s2.size ≤ maxLen) (h1 : Dm.mayB x1 s1.data.toList n1 = m1) (h2 : Dm.mayB x2 s2.data.toList n2 = m2) (h : m1 = false ∨ (m1 = true ∧ m2 = false)) :
    Calls Tryd.prog 4 #[.agg #[.bool x1, .string s1, .int .i64 n1], .agg #[.bool x2, .string s2, .int .i64 n2]] w fun e w' => e = .returned (.bool true) ∧ Below w.heap.size w w' := by
  have hS := Two.start w (.bool x1) (.string s1) (.int .i64 n1) (.bool x2) (.string s2) (.int .i64 n2) 23
  have H1 := hide h1
  have H2 := hide h2
  clear h1 h2
  rcases h with rfl | ⟨rfl, rfl⟩
  all_goals
    obtain ⟨_, _, ⟨a0, a01, a02⟩, ⟨b0, b01, b02⟩⟩ := id hS
    go_enter Tryd.func4, Tryd.ntmps4
    go_wp2_with fail
    clear a0 a01 a02 b0 b01 b02
    refine (shown_any _).mono ?_
    rintro e w1 ⟨rfl, hb1⟩
    replace hS := hS.next hb1
    clear hb1
    obtain ⟨_, _, ⟨a0, a01, a02⟩, ⟨b0, b01, b02⟩⟩ := id hS
    go_wp2_with fail
    clear a0 a01 a02 b0 b01 b02
    refine (rmay_b x1 s1 n1 _ _ hs1 (unhide H1)).mono ?_
    rintro e w2 ⟨rfl, hb2⟩
    replace hS := hS.next hb2
    clear hb2
    obtain ⟨_, _, ⟨a0, a01, a02⟩, ⟨b0, b01, b02⟩⟩ := id hS
    go_wp2_with fail
    clear a0 a01 a02 b0 b01 b02
    refine (rmay_b x2 s2 n2 _ _ hs2 (unhide H2)).mono ?_
    rintro e w3 ⟨rfl, hb3⟩
    replace hS := hS.next hb3
    clear hb3
    go_wp2
    go_ret
    exact ⟨rfl, hS.1⟩
theorem may_split {x : Bool} {s : ByteArray} {n : Int} (h : Dm.mayB x s.data.toList n = true) : ∃ (l : List UInt8) (j : Nat), s = ⟨l.toArray⟩ ∧ n = (j : Int) ∧ Dm.May ⟨x, l, j⟩ := by
  have hmb := Dm.mayB_iff.1 h
  obtain ⟨j, rfl⟩ := Int.eq_ofNat_of_zero_le hmb.1
  refine ⟨s.data.toList, j, by simp, rfl, ?_⟩
  have := hmb.2
  rwa [Int.toNat_natCast] at this
theorem works_walk (x1 : Bool) (s1 : ByteArray) (n1 : Int) (x2 : Bool) (s2 : ByteArray) (n2 : Int) (w : World) (hs1 : s1.size ≤ maxLen) (hs2 : s2.size ≤ maxLen) :
    Calls Tryd.prog 4 #[.agg #[.bool x1, .string s1, .int .i64 n1], .agg #[.bool x2, .string s2, .int .i64 n2]] w fun e w' => e = .returned (.bool true) ∧ Below w.heap.size w w' := by
  cases h1 : Dm.mayB x1 s1.data.toList n1 with
  | false => exact works_false x1 s1 n1 x2 s2 n2 _ _ w hs1 hs2 h1 rfl (.inl rfl)
  | true =>
    cases h2 : Dm.mayB x2 s2.data.toList n2 with
    | false => exact works_false x1 s1 n1 x2 s2 n2 _ _ w hs1 hs2 h1 h2 (.inr ⟨rfl, rfl⟩)
    | true =>
      obtain ⟨a, j, rfl, rfl, ha⟩ := may_split h1
      obtain ⟨b, k, rfl, rfl, hb⟩ := may_split h2
      exact works_true x1 a j x2 b k w ha hb
end Go.Proofs.YtijelgmmmceflaaDoor
