/- What is proved here: what the law QuoteCuts does with any text and place, walked; condition: the two tables of unicode/utf8 lie in the world. -/
import Derived.Test.YtdggbmhejiekaaaDoorQh
namespace Go.Proofs.YtdggbmhejiekaaaDoor
open Go.RowKit
set_option linter.unusedVariables false
set_option linter.unusedSimpArgs false

theorem few_case (n : Nat) (m : Int) (hm : m = n) (s : ByteArray) : ∃ t : ByteArray, t.size ≤ n ∧ ((decide (m < (s.size : Int)) = true ∧ s.extract 0 n = t ∧ m ≤ (s.size : Int)) ∨ (decide (m < (s.size : Int)) = false ∧ t = s)) := by
  by_cases h : n < s.size
  · exact ⟨_, by rw [ByteArray.size_extract]; omega, .inl ⟨decide_eq_true (by omega), rfl, by omega⟩⟩
  · exact ⟨s, by omega, .inr ⟨decide_eq_false (by omega), rfl⟩⟩
theorem bytes_eq {a b : ByteArray} (h : a.data.toList = b.data.toList) : a = b := by
  cases a; cases b
  congr 1
  exact Array.toList_inj.1 h

set_option maxHeartbeats 4000000 in
set_option maxRecDepth 1000000 in
theorem cuts_walk (s : ByteArray) (z : Int) (w : World) (hs : s.size ≤ maxLen) (hz0 : -9223372036854775808 ≤ z) (hz1 : z ≤ 9223372036854775807) (hT : Tabs w) :
    Calls Tryd.prog 6 #[.string s, .int .i64 z] w fun e w' => e = .returned (.bool true) ∧ Below w.heap.size w w' := by
  obtain ⟨t, ht, hc⟩ := few_case 1000 1000 rfl s
  obtain ⟨A, hA⟩ : ∃ A, z.toNat = A := ⟨_, rfl⟩
  obtain ⟨n, hn⟩ : ∃ n, (Qm.pc t.data.toList).length = n := ⟨_, rfl⟩
  have hle := Qm.pc_le t.data.toList
  rw [hn, ← Lib.size_eq] at hle
  have m1 : max z 0 = (A : Int) := by omega
  obtain ⟨k, hk⟩ : ∃ k, min A n = k := ⟨_, rfl⟩
  have m2 : min (A : Int) (n : Int) = (k : Int) := by omega
  obtain ⟨a, ha⟩ : ∃ a : ByteArray, Qm.cut t.data.toList 0 (max A 0) = a.data.toList := ⟨⟨(Qm.cut t.data.toList 0 (max A 0)).toArray⟩, by simp⟩
  obtain ⟨b, hb⟩ : ∃ b : ByteArray, Qm.cut t.data.toList A (max n A) = b.data.toList := ⟨⟨(Qm.cut t.data.toList A (max n A)).toArray⟩, by simp⟩
  obtain ⟨v, hv⟩ : ∃ v, Lib.validD t.data.toList = v := ⟨_, rfl⟩
  have hab : a ++ b = t := by
    apply bytes_eq
    rw [ByteArray.data_append, Array.toList_append, ← ha, ← hb, ← hn]
    exact Qm.cut_both t.data.toList A
  have hba : a.size ≤ 1099511627776 := by have := congrArg List.length ha; have h2 := Qm.cut_size t.data.toList 0 (max A 0); rw [← Lib.size_eq] at h2; rw [← Lib.size_eq] at this; omega
  have hbb : b.size ≤ 1099511627776 := by have := congrArg List.length hb; have h2 := Qm.cut_size t.data.toList A (max n A); rw [← Lib.size_eq] at h2; rw [← Lib.size_eq] at this; omega
  have ht2 : t.size ≤ 1099511627776 := by omega
  have j1 : ¬ (9223372036854775807 < a.size + b.size) := by omega
  have C0 : ∀ W, Calls Tryd.prog 15 #[.string t] W fun e w' => e = .returned (.int .i64 (n : Int)) ∧ Below W.heap.size W w' := fun W => runes_c t n W ht2 hn
  have C1 : ∀ W, Calls Tryd.prog 17 #[.string t, .int .i64 0, .int .i64 z] W fun e w' => e = .returned (.string a) ∧ Below W.heap.size W w' := fun W => cut_c t a 0 z W ht2 (by omega) ⟨hz0, hz1⟩ (by rw [hA]; exact ha)
  have C2 : ∀ W, Calls Tryd.prog 17 #[.string t, .int .i64 (A : Int), .int .i64 (n : Int)] W fun e w' => e = .returned (.string b) ∧ Below W.heap.size W w' := fun W => cut_c t b A n W ht2 (by omega) (by omega) (by rw [Int.toNat_natCast, Int.toNat_natCast]; exact hb)
  have C3 : ∀ W, Calls Tryd.prog 17 #[.string t, .int .i64 0, .int .i64 (n : Int)] W fun e w' => e = .returned (.string t) ∧ Below W.heap.size W w' := fun W => cut_c t t 0 n W ht2 (by omega) (by omega) (by rw [Int.toNat_natCast, ← hn]; exact Qm.cut_all t.data.toList)
  have C4 : ∀ W, Calls Tryd.prog 17 #[.string t, .int .i64 (n : Int), .int .i64 ((n : Int) + 9)] W fun e w' => e = .returned (.string ⟨#[]⟩) ∧ Below W.heap.size W w' := fun W => cut_c t ⟨#[]⟩ n ((n : Int) + 9) W ht2 (by omega) (by omega) (by rw [Int.toNat_natCast, show ((n : Int) + 9).toNat = n + 9 by omega, ← hn]; exact Qm.cut_none t.data.toList)
  have CV : ∀ W, Tabs W → Calls Tryd.prog 14 #[.string t] W fun e w' => e = .returned (.bool v) ∧ Below W.heap.size W w' := fun W h => valid_c t v W ht2 hv h
  have w1 : IntKind.i64.wrap ((n : Int) + 9) = (n : Int) + 9 := by rw [IntKind.wrap_i64]; omega
  have w2 : IntKind.i64.wrap (4 * (n : Int)) = 4 * (n : Int) := by rw [IntKind.wrap_i64]; omega
  have w3 : IntKind.i64.wrap ((n : Int) - (k : Int)) = ((n - k : Nat) : Int) := by rw [IntKind.wrap_i64]; omega
  have d1 : n ≤ t.size := by omega
  have d2 : decide ((t.size : Int) ≤ 4 * (n : Int)) = true := decide_eq_true (by omega)
  cases v with
  | false =>
    clear hz0 hz1 hle hk hA ht ht2 hs hn ha hb hv hba hbb
    rcases hc with ⟨h1, h2, h3⟩ | ⟨h1, h2⟩
    case' inr => subst h2
    all_goals
      go_enter Tryd.func6, Tryd.ntmps6
      go_wp2_with fail
      refine (shown_any _ hT).mono ?_
      rintro e W1 ⟨rfl, hB⟩
      go_wp2_with fail
      refine (C0 _).mono ?_
      rintro e W2 ⟨rfl, b2⟩
      replace hB := hB.trans (b2.mono hB.size); clear b2
      go_wp2_with fail
      refine (C1 _).mono ?_
      rintro e W3 ⟨rfl, b2⟩
      replace hB := hB.trans (b2.mono hB.size); clear b2
      go_wp2_with fail
      refine (C2 _).mono ?_
      rintro e W4 ⟨rfl, b2⟩
      replace hB := hB.trans (b2.mono hB.size); clear b2
      go_wp2_with fail
      refine (CV _ (Tabs.step hT hB)).mono ?_
      rintro e W5 ⟨rfl, b2⟩
      replace hB := hB.trans (b2.mono hB.size); clear b2
      go_wp2_with fail
      refine (C3 _).mono ?_
      rintro e W8 ⟨rfl, b2⟩
      replace hB := hB.trans (b2.mono hB.size); clear b2
      go_wp2_with fail
      refine (C4 _).mono ?_
      rintro e W9 ⟨rfl, b2⟩
      replace hB := hB.trans (b2.mono hB.size); clear b2
      go_wp2
      go_ret
      exact ⟨rfl, hB⟩
  | true =>
    obtain ⟨r1, r2, r3, r4⟩ := Qm.cut_runes t.data.toList A hv
    rw [ha, hn, hk] at r1
    rw [hn] at r2
    rw [hb, hk] at r2
    rw [ha] at r3
    rw [hn, hb] at r4
    have CA : ∀ W, Calls Tryd.prog 15 #[.string a] W fun e w' => e = .returned (.int .i64 (k : Int)) ∧ Below W.heap.size W w' := fun W => runes_c a k W hba r1
    have CB : ∀ W, Calls Tryd.prog 15 #[.string b] W fun e w' => e = .returned (.int .i64 ((n - k : Nat) : Int)) ∧ Below W.heap.size W w' := fun W => runes_c b _ W hbb r2
    have CX : ∀ W, Tabs W → Calls Tryd.prog 14 #[.string a] W fun e w' => e = .returned (.bool true) ∧ Below W.heap.size W w' := fun W h => valid_c a true W hba r3 h
    have CY : ∀ W, Tabs W → Calls Tryd.prog 14 #[.string b] W fun e w' => e = .returned (.bool true) ∧ Below W.heap.size W w' := fun W h => valid_c b true W hbb r4 h
    clear hz0 hz1 hle hk hA ht ht2 hs hn ha hb hv hba hbb r1 r2 r3 r4
    generalize n - k = nk at w3 CB
    rcases hc with ⟨h1, h2, h3⟩ | ⟨h1, h2⟩
    case' inr => subst h2
    all_goals
      go_enter Tryd.func6, Tryd.ntmps6
      go_wp2_with fail
      refine (shown_any _ hT).mono ?_
      rintro e W1 ⟨rfl, hB⟩
      go_wp2_with fail
      refine (C0 _).mono ?_
      rintro e W2 ⟨rfl, b2⟩
      replace hB := hB.trans (b2.mono hB.size); clear b2
      go_wp2_with fail
      refine (C1 _).mono ?_
      rintro e W3 ⟨rfl, b2⟩
      replace hB := hB.trans (b2.mono hB.size); clear b2
      go_wp2_with fail
      refine (C2 _).mono ?_
      rintro e W4 ⟨rfl, b2⟩
      replace hB := hB.trans (b2.mono hB.size); clear b2
      go_wp2_with fail
      refine (CV _ (Tabs.step hT hB)).mono ?_
      rintro e W5 ⟨rfl, b2⟩
      replace hB := hB.trans (b2.mono hB.size); clear b2
      go_wp2_with fail
      refine (CA _).mono ?_
      rintro e W6 ⟨rfl, b2⟩
      replace hB := hB.trans (b2.mono hB.size); clear b2
      go_wp2_with fail
      refine (CB _).mono ?_
      rintro e W6 ⟨rfl, b2⟩
      replace hB := hB.trans (b2.mono hB.size); clear b2
      go_wp2_with fail
      refine (CX _ (Tabs.step hT hB)).mono ?_
      rintro e W6 ⟨rfl, b2⟩
      replace hB := hB.trans (b2.mono hB.size); clear b2
      go_wp2_with fail
      refine (CY _ (Tabs.step hT hB)).mono ?_
      rintro e W6 ⟨rfl, b2⟩
      replace hB := hB.trans (b2.mono hB.size); clear b2
      go_wp2_with fail
      refine (C3 _).mono ?_
      rintro e W8 ⟨rfl, b2⟩
      replace hB := hB.trans (b2.mono hB.size); clear b2
      go_wp2_with fail
      refine (C4 _).mono ?_
      rintro e W9 ⟨rfl, b2⟩
      replace hB := hB.trans (b2.mono hB.size); clear b2
      go_wp2
      go_ret
      exact ⟨rfl, hB⟩
end Go.Proofs.YtdggbmhejiekaaaDoor
