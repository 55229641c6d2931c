/- What is proved here: what the law CatsMasks does with any row of texts, any text and any mask, walked; conditions: how the row lies. -/
import Derived.Test.YtebmmnfjkckffaaCd
import Derived.Test.YtebmmnfjkckffaaCe
import Derived.Test.YtebmmnfjkckffaaCj
import Derived.Test.YtebmmnfjkckffaaCk
namespace Go.Proofs.Ytebmmnfjkckffaa
open Go.RowKit Go.Maps
set_option linter.unusedVariables false
set_option linter.unusedSimpArgs false

theorem may_zero {L : List Cm.Tx} (h : Cm.mayE L = 0) : L.length ≤ 64 ∧ L.Nodup ∧ ∀ x ∈ L, Cm.nameB x = true := by
  unfold Cm.mayE at h
  split at h
  · cases h
  · rename_i g
    split at h
    · rename_i g2
      rw [Bool.and_eq_true, decide_eq_true_eq, List.all_eq_true] at g2
      exact ⟨by omega, g2.2, g2.1⟩
    · cases h
theorem bytes_of (l : Cm.Tx) : ∃ u : ByteArray, l = u.data.toList := ⟨⟨l.toArray⟩, rfl⟩
theorem masks_case (s : ByteArray) : ∃ t : ByteArray, t.size ≤ 500 ∧ ((decide ((500 : Int) < (s.size : Int)) = true ∧ s.extract 0 500 = t ∧ (500 : Int) ≤ (s.size : Int)) ∨ (decide ((500 : Int) < (s.size : Int)) = false ∧ t = s)) := by
  by_cases h : 500 < s.size
  · exact ⟨_, by rw [ByteArray.size_extract]; omega, .inl ⟨decide_eq_true (by omega), rfl, by omega⟩⟩
  · exact ⟨s, by omega, .inr ⟨decide_eq_false (by omega), rfl⟩⟩

set_option maxRecDepth 100000 in
set_option maxHeartbeats 2000000 in
theorem masks_walk (a : Option Addr) (n c : Nat) (ss : List ByteArray) (s : ByteArray) (m : Nat) (w : World) (hn2 : n ≤ 9223372036854775807) (hs9 : s.size ≤ maxLen) (hm : m < 18446744073709551616) (hs : StrsIn w a n ss) :
    Calls Try.prog 4 #[.slice a n c, .string s, .int .u64 (m : Int)] w fun e w' => e = .returned (.bool true) ∧ Below w.heap.size w w' := by
  have hsh := Lf_short ss
  have hl70 : (Lf ss).length ≤ 70 := by rw [Lf_len]; omega
  have CF := fun W (h : StrsIn W a n ss) => few_any a n c ss hn2 W h
  generalize Lf ss = L at *
  obtain ⟨nn, hnn⟩ : ∃ nn, L.length = nn := ⟨_, rfl⟩
  rw [hnn] at CF hl70
  obtain ⟨q, hq⟩ : ∃ q, Cm.mayE L = q := ⟨_, rfl⟩
  have hl : ∀ x ∈ L, x.length ≤ 1000 := fun x hx => by have := hsh x hx; omega
  obtain ⟨t, ht, hc⟩ := masks_case s
  have CM : ∀ g cap W, RowAt W g L → Calls Try.prog 14 #[.slice (some ⟨g, 0, none⟩) nn cap] W fun e w' => e = .returned (.int .i64 (q : Int)) ∧ w' = W := fun g cap W h => rmay_any g nn cap L hnn (by omega) hl q hq W h
  have hsteps : ∀ W : World, Below w.heap.size w W → StrsIn W a n ss := fun W hB => ⟨hs.1, by
    rcases hs.2 with h | ⟨b, off, e, hb, hcell⟩
    · exact .inl h
    · exact .inr ⟨b, off, e, Nat.lt_of_lt_of_le hb hB.size, fun i hi => (hB.cell (p := ⟨b, off + i, none⟩) hb).trans (hcell i hi)⟩⟩
  by_cases hq0 : q = 0
  · subst hq0
    obtain ⟨h64, hd, hnm⟩ := may_zero hq
    rw [hnn] at h64
    obtain ⟨⟨qm, em⟩, hmask⟩ : ∃ p, Cm.maskF L 0 (Cm.words t.data.toList) = p := ⟨_, rfl⟩
    obtain ⟨u, hu⟩ := bytes_of (Cm.joinB (Cm.selK L m nn))
    have hne : ∀ x ∈ L, x ≠ [] := fun x hx => (Cm.name_word (hnm x hx)).1
    have C1 : ∀ g cap W, RowAt W g L → Calls Try.prog 17 #[.slice (some ⟨g, 0, none⟩) nn cap, .string t] W fun e w' => e = .returned (.tuple #[.int .u64 (qm : Int), .int .i64 (em : Int)]) ∧ Below W.heap.size W w' := fun g cap W h => mask_any g nn cap L hnn h64 hl hd t (by omega) qm em hmask W h
    have C2 : ∀ g cap W, RowAt W g L → Calls Try.prog 18 #[.slice (some ⟨g, 0, none⟩) nn cap, .string t] W fun e w' => e = .returned (.tuple #[.int .u64 (qm : Int), .int .i64 (em : Int)]) ∧ Below W.heap.size W w' := fun g cap W h => rmask_any g nn cap L hnn h64 hd t (by omega) qm em hmask W h
    have C3 : ∀ g cap W, RowAt W g L → Calls Try.prog 19 #[.slice (some ⟨g, 0, none⟩) nn cap, .int .u64 (m : Int)] W fun e w' => e = .returned (.string u) ∧ Below W.heap.size W w' := fun g cap W h => names_any g nn cap L hnn (by omega) hl m hm u hu W h
    have C4 : ∀ g cap W, RowAt W g L → Calls Try.prog 20 #[.slice (some ⟨g, 0, none⟩) nn cap, .int .u64 (m : Int)] W fun e w' => e = .returned (.string u) ∧ Below W.heap.size W w' := fun g cap W h => rnames_any g nn cap L hnn h64 hl hne m hm u hu W h
    clear hs9 hs ht hq hnn hsh hl hd hnm hmask hu hne h64 hl70 hn2 hm
    rcases hc with ⟨h1, h2, h3⟩ | ⟨h1, h2⟩
    case' inr => subst h2
    all_goals
      go_enter Try.func4, Try.ntmps4
      go_wp2_with fail
      refine (shown_any _).mono ?_
      rintro e W1 ⟨rfl, hB⟩
      go_wp2_with fail
      refine (CF _ (hsteps _ hB)).mono ?_
      rintro e W2 ⟨b2, g, cap, rfl, hg, hr⟩
      replace hB := hB.trans (b2.mono hB.size); clear b2
      go_wp2_with fail
      refine (CM _ _ _ hr).mono ?_
      rintro e W3 ⟨rfl, rfl⟩
      go_wp2_with fail
      refine (C1 _ _ _ hr).mono ?_
      rintro e W4 ⟨rfl, b2⟩
      replace hr := hr.step b2
      replace hB := hB.trans (b2.mono hB.size); clear b2
      go_wp2_with fail
      refine (C2 _ _ _ hr).mono ?_
      rintro e W5 ⟨rfl, b2⟩
      replace hr := hr.step b2
      replace hB := hB.trans (b2.mono hB.size); clear b2
      go_wp2_with fail
      refine (C3 _ _ _ hr).mono ?_
      rintro e W6 ⟨rfl, b2⟩
      replace hr := hr.step b2
      replace hB := hB.trans (b2.mono hB.size); clear b2
      go_wp2_with fail
      refine (C4 _ _ _ hr).mono ?_
      rintro e W7 ⟨rfl, b2⟩
      replace hB := hB.trans (b2.mono hB.size); clear b2
      go_wp2
      go_ret
      exact ⟨rfl, hB⟩
  · have dq : ((q : Int) == 0) = false := beq_eq_false_iff_ne.2 (by omega)
    clear hs9 hs ht hq hc hnn hsh hl hl70 hn2 hm hq0
    go_enter Try.func4, Try.ntmps4
    go_wp2_with fail
    refine (shown_any _).mono ?_
    rintro e W1 ⟨rfl, hB⟩
    go_wp2_with fail
    refine (CF _ (hsteps _ hB)).mono ?_
    rintro e W2 ⟨b2, g, cap, rfl, hg, hr⟩
    replace hB := hB.trans (b2.mono hB.size); clear b2
    go_wp2_with fail
    refine (CM _ _ _ hr).mono ?_
    rintro e W3 ⟨rfl, rfl⟩
    go_wp2
    go_ret
    exact ⟨rfl, hB⟩
end Go.Proofs.Ytebmmnfjkckffaa
