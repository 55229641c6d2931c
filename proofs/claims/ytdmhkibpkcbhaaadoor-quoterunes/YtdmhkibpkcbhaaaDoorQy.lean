/- What is proved here: what the law QuoteRunes does with any text and any two places, walked; condition: the two tables of unicode/utf8 lie in the world. -/
import Derived.Test.YtdmhkibpkcbhaaaDoorQx
import Derived.Test.YtdmhkibpkcbhaaaDoorQw
import Derived.Test.YtdmhkibpkcbhaaaDoorQh
namespace Go.Proofs.YtdmhkibpkcbhaaaDoor
open Go.RowKit
set_option linter.unusedVariables false
set_option linter.unusedSimpArgs false

theorem below_more {w W W' : World} (hB : Below w.heap.size w W) (b2 : Below W.heap.size W W') : Below w.heap.size w W' := hB.trans (b2.mono hB.size)
theorem toList_eqR (u : ByteArray) : (u.toList == u.toList) = true := beq_self_eq_true _

set_option maxHeartbeats 4000000 in
set_option maxRecDepth 1000000 in
theorem runes_walk (s0 : ByteArray) (a b : Int) (w : World) (hs : s0.size ≤ maxLen) (ha0 : -9223372036854775808 ≤ a) (ha1 : a ≤ 9223372036854775807) (hb0 : -9223372036854775808 ≤ b) (hb1 : b ≤ 9223372036854775807) (hT : Tabs w) :
    Calls Tryd.prog 4 #[.string s0, .int .i64 a, .int .i64 b] w fun e w' => e = .returned (.bool true) ∧ Below w.heap.size w w' := by
  obtain ⟨t, ht⟩ : ∃ t, fewB 6000 s0 = t := ⟨_, rfl⟩
  have hts : t.size ≤ 6000 := by rw [← ht]; exact few_size _ _
  have CF : ∀ W, Calls Tryd.prog 7 #[.string s0] W fun e w' => e = .returned (.string t) ∧ w' = W := fun W => by rw [← ht]; exact few_any s0 W
  obtain ⟨v, hv⟩ : ∃ v, Lib.validD t.data.toList = v := ⟨_, rfl⟩
  obtain ⟨n, hn⟩ : ∃ n, (Qm.pc t.data.toList).length = n := ⟨_, rfl⟩
  obtain ⟨u, hu⟩ : ∃ u : ByteArray, Qm.cut t.data.toList a.toNat (max b.toNat a.toNat) = u.data.toList := ⟨⟨(Qm.cut t.data.toList a.toNat (max b.toNat a.toNat)).toArray⟩, by simp⟩
  have CRV : ∀ W, Calls Tryd.prog 9 #[.string t] W fun e w' => e = .returned (.bool v) ∧ w' = W := fun W => ref_valid t (by omega) v hv W
  have CV : ∀ W, Tabs W → Calls Tryd.prog 10 #[.string t] W fun e w' => e = .returned (.bool v) ∧ Below W.heap.size W w' := fun W h => valid_c t v W (by omega) hv h
  have C0 : ∀ W, Calls Tryd.prog 11 #[.string t] W fun e w' => e = .returned (.int .i64 (n : Int)) ∧ Below W.heap.size W w' := fun W => runes_c t n W (by omega) hn
  have CP : ∀ W, Calls Tryd.prog 12 #[.string t] W fun e w' => ∃ x g cap, e = .returned x ∧ x = .slice g n cap ∧ Below W.heap.size W w' := by
    intro W
    refine (ref_parts t (by omega) W).mono ?_
    rintro e w' ⟨x, rfl, hown, hB⟩
    rw [hn] at hown
    rcases hown.2 with ⟨h1, h2⟩ | ⟨g, cap, cur, h1, h2⟩
    · exact ⟨x, none, 0, rfl, by rw [h1, h2], hB⟩
    · exact ⟨x, _, cap, rfl, h1, hB⟩
  have C1 : ∀ W, Calls Tryd.prog 13 #[.string t, .int .i64 a, .int .i64 b] W fun e w' => e = .returned (.string u) ∧ Below W.heap.size W w' := fun W => cut_c t u a b W (by omega) ⟨ha0, ha1⟩ ⟨hb0, hb1⟩ hu
  have C2 : ∀ W, Calls Tryd.prog 14 #[.string t, .int .i64 a, .int .i64 b] W fun e w' => e = .returned (.string u) ∧ Below W.heap.size W w' := fun W => ref_cut t u a b (by omega) hu W
  have hself := toList_eqR u
  cases v with
  | false =>
    clear hs ha0 ha1 hb0 hb1 ht hts hv hn hu
    go_enter Tryd.func4, Tryd.ntmps4
    go_wp2_with fail
    refine (shown_any _ hT).mono ?_
    rintro e W1 ⟨rfl, hB⟩
    go_wp2_with fail
    refine (CF _).mono ?_
    rintro e W2 ⟨rfl, rfl⟩
    go_wp2_with fail
    refine (CRV _).mono ?_
    rintro e W3 ⟨rfl, rfl⟩
    go_wp2_with fail
    refine (CV _ (Tabs.step hT hB)).mono ?_
    rintro e W4 ⟨rfl, b2⟩
    replace hB := below_more hB b2; clear b2
    go_wp2_with fail
    refine (C0 _).mono ?_
    rintro e W5 ⟨rfl, b2⟩
    replace hB := below_more hB b2; clear b2
    go_wp2_with fail
    refine (CP _).mono ?_
    rintro e W6 ⟨x, g, cap, rfl, rfl, b2⟩
    replace hB := below_more hB b2; clear b2
    go_wp2_with fail
    refine (C1 _).mono ?_
    rintro e W7 ⟨rfl, b2⟩
    replace hB := below_more hB b2; clear b2
    go_wp2_with fail
    refine (C2 _).mono ?_
    rintro e W8 ⟨rfl, b2⟩
    replace hB := below_more hB b2; clear b2
    go_wp2
    go_ret
    exact ⟨rfl, hB⟩
  | true =>
    obtain ⟨q, hq⟩ : ∃ q : ByteArray, Qm.quoteL t.data.toList = q.data.toList := ⟨⟨(Qm.quoteL t.data.toList).toArray⟩, by simp⟩
    have CQ : ∀ W, Calls Tryd.prog 15 #[.string t] W fun e w' => e = .returned (.string q) ∧ Below W.heap.size W w' := fun W => quote_c t q W (by omega) hq
    have CRQ : ∀ W, Calls Tryd.prog 16 #[.string t] W fun e w' => e = .returned (.string q) ∧ Below W.heap.size W w' := fun W => ref_quote t q (by omega) hv hq W
    have hself2 := toList_eqR q
    clear hs ha0 ha1 hb0 hb1 ht hts hv hn hu hq
    go_enter Tryd.func4, Tryd.ntmps4
    go_wp2_with fail
    refine (shown_any _ hT).mono ?_
    rintro e W1 ⟨rfl, hB⟩
    go_wp2_with fail
    refine (CF _).mono ?_
    rintro e W2 ⟨rfl, rfl⟩
    go_wp2_with fail
    refine (CRV _).mono ?_
    rintro e W3 ⟨rfl, rfl⟩
    go_wp2_with fail
    refine (CV _ (Tabs.step hT hB)).mono ?_
    rintro e W4 ⟨rfl, b2⟩
    replace hB := below_more hB b2; clear b2
    go_wp2_with fail
    refine (C0 _).mono ?_
    rintro e W5 ⟨rfl, b2⟩
    replace hB := below_more hB b2; clear b2
    go_wp2_with fail
    refine (CP _).mono ?_
    rintro e W6 ⟨x, g, cap, rfl, rfl, b2⟩
    replace hB := below_more hB b2; clear b2
    go_wp2_with fail
    refine (C1 _).mono ?_
    rintro e W7 ⟨rfl, b2⟩
    replace hB := below_more hB b2; clear b2
    go_wp2_with fail
    refine (C2 _).mono ?_
    rintro e W8 ⟨rfl, b2⟩
    replace hB := below_more hB b2; clear b2
    go_wp2_with fail
    refine (CQ _).mono ?_
    rintro e W9 ⟨rfl, b2⟩
    replace hB := below_more hB b2; clear b2
    go_wp2_with fail
    refine (CRQ _).mono ?_
    rintro e W10 ⟨rfl, b2⟩
    replace hB := below_more hB b2; clear b2
    go_wp2
    go_ret
    exact ⟨rfl, hB⟩
end Go.Proofs.YtdmhkibpkcbhaaaDoor
