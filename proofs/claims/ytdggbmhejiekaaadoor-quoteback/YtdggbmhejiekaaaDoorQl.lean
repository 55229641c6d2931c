/- What is proved here: what the law QuoteBack does with any two texts and any place, walked; condition: the two tables of unicode/utf8 lie in the world. -/
import Derived.Test.YtdggbmhejiekaaaDoorQk
namespace Go.Proofs.YtdggbmhejiekaaaDoor
open Go.RowKit
set_option linter.unusedVariables false
set_option linter.unusedSimpArgs false


/-- What the last reading gives, in three ways. -/
theorem back_end (y : ByteArray) (hy : y.size ≤ 1000) : (∃ (t : ByteArray) (n : Nat), (∀ W, Tabs W → Calls Tryd.prog 10 #[.string y] W fun e w' => e = .returned (.tuple #[.string t, .int .i64 (n : Int), .int .i64 0]) ∧ Below W.heap.size W w')
      ∧ (∀ W, Tabs W → Calls Tryd.prog 14 #[.string t] W fun e w' => e = .returned (.bool true) ∧ Below W.heap.size W w') ∧ decide ((2 : Int) ≤ (n : Int)) = true ∧ decide ((n : Int) ≤ (y.size : Int)) = true ∧ n ≤ y.size ∧ 2 ≤ n)
    ∨ (∀ W, Tabs W → Calls Tryd.prog 10 #[.string y] W fun e w' => e = .returned (.tuple #[.string ⟨#[]⟩, .int .i64 0, .int .i64 3]) ∧ Below W.heap.size W w')
    ∨ (∀ W, Tabs W → Calls Tryd.prog 10 #[.string y] W fun e w' => e = .returned (.tuple #[.string ⟨#[]⟩, .int .i64 0, .int .i64 6]) ∧ Below W.heap.size W w') := by
  rcases Qm.unquote_shape y.data.toList with ⟨t, n, hu, hv, h2, hn, ht⟩ | hu | hu
  · obtain ⟨a, rfl⟩ := mk_text t
    rw [← Lib.size_eq] at hn ht
    exact .inl ⟨a, n, fun W h => unquote_c y a n 0 W (by omega) hu h, fun W h => valid_c a true W (by omega) hv h, decide_eq_true (by omega), decide_eq_true (by omega), hn, h2⟩
  · exact .inr (.inl fun W h => unquote_c y ⟨#[]⟩ 0 3 W (by omega) hu h)
  · exact .inr (.inr fun W h => unquote_c y ⟨#[]⟩ 0 6 W (by omega) hu h)


set_option maxHeartbeats 4000000 in
set_option maxRecDepth 1000000 in
theorem back_walk (s0 m0 : ByteArray) (z : Int) (w : World) (hs : s0.size ≤ maxLen) (hm : m0.size ≤ maxLen) (hz0 : -9223372036854775808 ≤ z) (hz1 : z ≤ 9223372036854775807) (hT : Tabs w) :
    Calls Tryd.prog 5 #[.string s0, .string m0, .int .i64 z] w fun e w' => e = .returned (.bool true) ∧ Below w.heap.size w w' := by
  obtain ⟨x, hx, hcx⟩ := few_case 1000 1000 rfl s0
  obtain ⟨y, hy, hcy⟩ := few_case 1000 1000 rfl m0
  obtain ⟨v, hv⟩ : ∃ v, Lib.validD x.data.toList = v := ⟨_, rfl⟩
  have CV : ∀ W, Tabs W → Calls Tryd.prog 14 #[.string x] W fun e w' => e = .returned (.bool v) ∧ Below W.heap.size W w' := fun W h => valid_c x v W (by omega) hv h
  cases v with
  | false =>
    have hend := back_end y hy
    clear hs hm hx hy hv hz0 hz1
    rcases hcx with ⟨h1, h2, h3⟩ | ⟨h1, g2⟩ <;> rcases hcy with ⟨h4, h5, h6⟩ | ⟨h4, g5⟩ <;> rcases hend with ⟨t, n, CE, CT, t1, t2, t3, t4⟩ | CE | CE
    all_goals (try subst g2); (try subst g5)
    all_goals
      go_enter Tryd.func5, Tryd.ntmps5
      go_wp2_with fail
      refine (shown_any _ hT).mono ?_
      rintro e W1 ⟨rfl, hB⟩
      go_wp2_with fail
      refine (CV _ (Tabs.step hT hB)).mono ?_
      rintro e W2 ⟨rfl, b2⟩
      replace hB := below_step hB b2; clear b2
      go_wp2_with fail
      refine (CE _ (Tabs.step hT hB)).mono ?_
      rintro e W2 ⟨rfl, b2⟩
      replace hB := below_step hB b2; clear b2
      go_wp2_with fail
      first
        | (refine (CT _ (Tabs.step hT hB)).mono ?_
           rintro e W2 ⟨rfl, b2⟩
           replace hB := below_step hB b2; clear b2
           go_wp2)
        | skip
      go_ret
      exact ⟨rfl, hB⟩
  | true =>
    have hend := back_end y hy
    obtain ⟨q, hq⟩ := mk_text (Qm.quoteL x.data.toList)
    obtain ⟨n, hn⟩ : ∃ n, q.size = n := ⟨_, rfl⟩
    obtain ⟨c, hc⟩ : ∃ c, q ++ y = c := ⟨_, rfl⟩
    have ln := Qm.quote_len _ hv
    rw [hq, ← Lib.size_eq, ← Lib.size_eq, hn] at ln
    have hcl : c.data.toList = Qm.quoteL x.data.toList ++ y.data.toList := by rw [← hc, app_list, hq]
    have hcs : c.size = n + y.size := by rw [← hc, ByteArray.size_append, hn]
    have hnl : n = (Qm.quoteL x.data.toList).length := by rw [hq, ← Lib.size_eq, hn]
    have u1 : Qm.unquoteL c.data.toList = (x.data.toList, n, 0) := by
      rw [hcl, Qm.unquote_quote _ _ hv (by rw [← Lib.size_eq]; omega), ← hnl]
    have hvq : Lib.validD q.data.toList = true := by rw [← hq]; exact Qm.quote_valid _ hv
    have CQ : ∀ W, Calls Tryd.prog 19 #[.string x] W fun e w' => e = .returned (.string q) ∧ Below W.heap.size W w' := fun W => quote_c x q W (by omega) hq
    have D1 : ∀ W, Tabs W → Calls Tryd.prog 10 #[.string c] W fun e w' => e = .returned (.tuple #[.string x, .int .i64 (n : Int), .int .i64 0]) ∧ Below W.heap.size W w' := fun W h => unquote_c c x n 0 W (by omega) u1 h
    have CVQ : ∀ W, Tabs W → Calls Tryd.prog 14 #[.string q] W fun e w' => e = .returned (.bool true) ∧ Below W.heap.size W w' := fun W h => valid_c q true W (by omega) hvq h
    have j1 : ¬ (9223372036854775807 < n + y.size) := by omega
    by_cases r1 : 0 ≤ z
    · obtain ⟨k, rfl⟩ : ∃ k : Nat, z = (k : Int) := ⟨z.toNat, by omega⟩
      by_cases r2 : k < n
      · obtain ⟨qk, hqk⟩ : ∃ qk, q.extract 0 k = qk := ⟨_, rfl⟩
        have u2 : Qm.unquoteL qk.data.toList = ((⟨#[]⟩ : ByteArray).data.toList, 0, 6) := by
          rw [← hqk, ext_take, ← hq]
          exact Qm.unquote_cut _ hv k (by omega)
        have hqs : qk.size ≤ 1099511627776 := by rw [← hqk, ByteArray.size_extract]; omega
        have D2 : ∀ W, Tabs W → Calls Tryd.prog 10 #[.string qk] W fun e w' => e = .returned (.tuple #[.string ⟨#[]⟩, .int .i64 0, .int .i64 6]) ∧ Below W.heap.size W w' := fun W h => unquote_c qk ⟨#[]⟩ 0 6 W hqs u2 h
        have l1 : k ≤ n := by omega
        clear hs hm hx hy hv hz0 hz1 hq ln hcl hcs hnl u1 hvq u2 hqs
        rcases hcx with ⟨h1, h2, h3⟩ | ⟨h1, g2⟩ <;> rcases hcy with ⟨h4, h5, h6⟩ | ⟨h4, g5⟩ <;> rcases hend with ⟨t, n2, CE, CT, t1, t2, t3, t4⟩ | CE | CE
        all_goals (try subst g2); (try subst g5)
        all_goals
          go_enter Tryd.func5, Tryd.ntmps5
          go_wp2_with fail
          refine (shown_any _ hT).mono ?_
          rintro e W1 ⟨rfl, hB⟩
          go_wp2_with fail
          refine (CV _ (Tabs.step hT hB)).mono ?_
          rintro e W2 ⟨rfl, b2⟩
          replace hB := below_step hB b2; clear b2
          go_wp2_with fail
          refine (CQ _).mono ?_
          rintro e W2 ⟨rfl, b2⟩
          replace hB := below_step hB b2; clear b2
          go_wp2_with fail
          refine (D1 _ (Tabs.step hT hB)).mono ?_
          rintro e W2 ⟨rfl, b2⟩
          replace hB := below_step hB b2; clear b2
          go_wp2_with fail
          refine (CVQ _ (Tabs.step hT hB)).mono ?_
          rintro e W2 ⟨rfl, b2⟩
          replace hB := below_step hB b2; clear b2
          go_wp2_with fail
          refine (D2 _ (Tabs.step hT hB)).mono ?_
          rintro e W2 ⟨rfl, b2⟩
          replace hB := below_step hB b2; clear b2
          go_wp2_with fail
          refine (CE _ (Tabs.step hT hB)).mono ?_
          rintro e W2 ⟨rfl, b2⟩
          replace hB := below_step hB b2; clear b2
          go_wp2_with fail
          first
            | (refine (CT _ (Tabs.step hT hB)).mono ?_
               rintro e W2 ⟨rfl, b2⟩
               replace hB := below_step hB b2; clear b2
               go_wp2)
            | skip
          go_ret
          exact ⟨rfl, hB⟩
      · have r3 : decide ((k : Int) < (n : Int)) = false := decide_eq_false (by omega)
        clear hs hm hx hy hv hz0 hz1 hq ln hcl hcs hnl u1 hvq r1
        rcases hcx with ⟨h1, h2, h3⟩ | ⟨h1, g2⟩ <;> rcases hcy with ⟨h4, h5, h6⟩ | ⟨h4, g5⟩ <;> rcases hend with ⟨t, n2, CE, CT, t1, t2, t3, t4⟩ | CE | CE
        all_goals (try subst g2); (try subst g5)
        all_goals
          go_enter Tryd.func5, Tryd.ntmps5
          go_wp2_with fail
          refine (shown_any _ hT).mono ?_
          rintro e W1 ⟨rfl, hB⟩
          go_wp2_with fail
          refine (CV _ (Tabs.step hT hB)).mono ?_
          rintro e W2 ⟨rfl, b2⟩
          replace hB := below_step hB b2; clear b2
          go_wp2_with fail
          refine (CQ _).mono ?_
          rintro e W2 ⟨rfl, b2⟩
          replace hB := below_step hB b2; clear b2
          go_wp2_with fail
          refine (D1 _ (Tabs.step hT hB)).mono ?_
          rintro e W2 ⟨rfl, b2⟩
          replace hB := below_step hB b2; clear b2
          go_wp2_with fail
          refine (CVQ _ (Tabs.step hT hB)).mono ?_
          rintro e W2 ⟨rfl, b2⟩
          replace hB := below_step hB b2; clear b2
          go_wp2_with fail
          refine (CE _ (Tabs.step hT hB)).mono ?_
          rintro e W2 ⟨rfl, b2⟩
          replace hB := below_step hB b2; clear b2
          go_wp2_with fail
          first
            | (refine (CT _ (Tabs.step hT hB)).mono ?_
               rintro e W2 ⟨rfl, b2⟩
               replace hB := below_step hB b2; clear b2
               go_wp2)
            | skip
          go_ret
          exact ⟨rfl, hB⟩
    · have r3 : decide ((0 : Int) ≤ z) = false := decide_eq_false (by omega)
      clear hs hm hx hy hv hz0 hz1 hq ln hcl hcs hnl u1 hvq r1
      rcases hcx with ⟨h1, h2, h3⟩ | ⟨h1, g2⟩ <;> rcases hcy with ⟨h4, h5, h6⟩ | ⟨h4, g5⟩ <;> rcases hend with ⟨t, n2, CE, CT, t1, t2, t3, t4⟩ | CE | CE
      all_goals (try subst g2); (try subst g5)
      all_goals
        go_enter Tryd.func5, Tryd.ntmps5
        go_wp2_with fail
        refine (shown_any _ hT).mono ?_
        rintro e W1 ⟨rfl, hB⟩
        go_wp2_with fail
        refine (CV _ (Tabs.step hT hB)).mono ?_
        rintro e W2 ⟨rfl, b2⟩
        replace hB := below_step hB b2; clear b2
        go_wp2_with fail
        refine (CQ _).mono ?_
        rintro e W2 ⟨rfl, b2⟩
        replace hB := below_step hB b2; clear b2
        go_wp2_with fail
        refine (D1 _ (Tabs.step hT hB)).mono ?_
        rintro e W2 ⟨rfl, b2⟩
        replace hB := below_step hB b2; clear b2
        go_wp2_with fail
        refine (CVQ _ (Tabs.step hT hB)).mono ?_
        rintro e W2 ⟨rfl, b2⟩
        replace hB := below_step hB b2; clear b2
        go_wp2_with fail
        refine (CE _ (Tabs.step hT hB)).mono ?_
        rintro e W2 ⟨rfl, b2⟩
        replace hB := below_step hB b2; clear b2
        go_wp2_with fail
        first
          | (refine (CT _ (Tabs.step hT hB)).mono ?_
             rintro e W2 ⟨rfl, b2⟩
             replace hB := below_step hB b2; clear b2
             go_wp2)
          | skip
        go_ret
        exact ⟨rfl, hB⟩
end Go.Proofs.YtdggbmhejiekaaaDoor
