/- What is proved here: what the law QuoteReads does with any text, walked; condition: the two tables of unicode/utf8 lie in the world. -/
import Derived.Test.YtdmhkibpkcbhaaaDoorQ2
namespace Go.Proofs.YtdmhkibpkcbhaaaDoor
open Go.RowKit
set_option linter.unusedVariables false
set_option linter.unusedSimpArgs false

set_option maxHeartbeats 4000000 in
set_option maxRecDepth 1000000 in
theorem reads_walk (s0 : ByteArray) (w : World) (hs : s0.size ≤ maxLen) (hT : Tabs w) :
    Calls Tryd.prog 3 #[.string s0] w fun e w' => e = .returned (.bool true) ∧ Below w.heap.size w w' := by
  obtain ⟨t, ht⟩ : ∃ t, fewB 6000 s0 = t := ⟨_, rfl⟩
  have hts : t.size ≤ 6000 := by rw [← ht]; exact few_size _ _
  have CF : ∀ W, Calls Tryd.prog 7 #[.string s0] W fun e w' => e = .returned (.string t) ∧ w' = W := fun W => by rw [← ht]; exact few_any s0 W
  obtain ⟨u, n, e, hu⟩ : ∃ (u : ByteArray) (n e : Nat), Qm.unquoteL t.data.toList = (u.data.toList, n, e) := ⟨⟨(Qm.unquoteL t.data.toList).1.toArray⟩, (Qm.unquoteL t.data.toList).2.1, (Qm.unquoteL t.data.toList).2.2, by simp⟩
  have CU : ∀ W, Tabs W → Calls Tryd.prog 6 #[.string t] W fun r w' => r = .returned (.tuple #[.string u, .int .i64 (n : Int), .int .i64 (e : Int)]) ∧ Below W.heap.size W w' := fun W h => unquote_c t u n e W (by omega) hu h
  have CR : ∀ W, Calls Tryd.prog 8 #[.string t] W fun r w' => r = .returned (.tuple #[.string u, .int .i64 (n : Int), .int .i64 (e : Int)]) ∧ Below W.heap.size W w' := fun W => ref_unquote t (by omega) u n e hu W
  clear hs ht hts hu
  go_enter Tryd.func3, Tryd.ntmps3
  go_wp2_with fail
  refine (shown_any _ hT).mono ?_
  rintro r W1 ⟨rfl, hB⟩
  go_wp2_with fail
  refine (CF _).mono ?_
  rintro r W2 ⟨rfl, rfl⟩
  go_wp2_with fail
  refine (CU _ (Tabs.step hT hB)).mono ?_
  rintro r W3 ⟨rfl, b2⟩
  replace hB := below_two hB b2; clear b2
  go_wp2_with fail
  refine (CF _).mono ?_
  rintro r W4 ⟨rfl, rfl⟩
  go_wp2_with fail
  refine (CR _).mono ?_
  rintro r W5 ⟨rfl, b2⟩
  replace hB := below_two hB b2; clear b2
  go_wp2
  go_ret
  exact ⟨rfl, hB⟩
end Go.Proofs.YtdmhkibpkcbhaaaDoor
