/- What is proved here: what the functions of package quote answer, said with letters; shown and few of the laws, walked; condition: the two tables of unicode/utf8 lie in the world. -/
import Derived.Test.YtdmhkibpkcbhaaaDoorQg
import Derived.Deep.RegionHeld3
namespace Go.Proofs.YtdmhkibpkcbhaaaDoor
open Go.RowKit
set_option linter.unusedVariables false
set_option linter.unusedSimpArgs false

theorem Tabs.step {w w' : World} (h : Tabs w) (hb : Below w.heap.size w w') : Tabs w' := Utf8Tabs_below h hb
theorem runes_c (t : ByteArray) (n : Nat) (w : World) (hs : t.size ≤ 1099511627776) (h : (Qm.pc t.data.toList).length = n) :
    Calls Tryd.prog 11 #[.string t] w fun e w' => e = .returned (.int .i64 (n : Int)) ∧ Below w.heap.size w w' := by
  have := runes_any t w (by omega)
  rwa [h] at this
theorem valid_c (t : ByteArray) (b : Bool) (w : World) (hs : t.size ≤ 1099511627776) (h : Lib.validD t.data.toList = b) (hT : Tabs w) :
    Calls Tryd.prog 10 #[.string t] w fun e w' => e = .returned (.bool b) ∧ Below w.heap.size w w' := by
  have := valid_any t w (by omega) hT
  rwa [h] at this
theorem cut_c (t u : ByteArray) (a b : Int) (w : World) (hs : t.size ≤ 1099511627776) (ha : -9223372036854775808 ≤ a ∧ a ≤ 9223372036854775807) (hb : -9223372036854775808 ≤ b ∧ b ≤ 9223372036854775807)
    (h : Qm.cut t.data.toList a.toNat (max b.toNat a.toNat) = u.data.toList) :
    Calls Tryd.prog 13 #[.string t, .int .i64 a, .int .i64 b] w fun e w' => e = .returned (.string u) ∧ Below w.heap.size w w' := by
  have := cut_any t a b w (by omega) ha hb
  rwa [h, Array.toArray_toList] at this
theorem quote_c (t u : ByteArray) (w : World) (hs : t.size ≤ 1099511627776) (h : Qm.quoteL t.data.toList = u.data.toList) :
    Calls Tryd.prog 15 #[.string t] w fun e w' => e = .returned (.string u) ∧ Below w.heap.size w w' := by
  have := quote_any t w hs
  rwa [h, Array.toArray_toList] at this
theorem unquote_c (t u : ByteArray) (n e : Nat) (w : World) (hs : t.size ≤ 1099511627776) (h : Qm.unquoteL t.data.toList = (u.data.toList, n, e)) (hT : Tabs w) :
    Calls Tryd.prog 6 #[.string t] w fun r w' => r = .returned (.tuple #[.string u, .int .i64 (n : Int), .int .i64 (e : Int)]) ∧ Below w.heap.size w w' := by
  have := unquote_any t w hs hT
  rw [h] at this
  unfold uV at this
  dsimp only at this
  rwa [Array.toArray_toList] at this

set_option maxRecDepth 100000 in
theorem shown_u : Qm.unquoteL (⟨#[34, 92, 117, 48, 48, 101, 57, 92, 117, 100, 56, 51, 100, 92, 117, 100, 101, 48, 48, 34, 32, 114, 101, 115, 116]⟩ : ByteArray).data.toList = ((⟨#[195, 169, 240, 159, 152, 128]⟩ : ByteArray).data.toList, 20, 0) := by decide +kernel
set_option maxRecDepth 100000 in
theorem shown_q : Qm.quoteL (⟨#[10, 195, 169, 34]⟩ : ByteArray).data.toList = (⟨#[34, 92, 110, 195, 169, 92, 34, 34]⟩ : ByteArray).data.toList := by decide +kernel
set_option maxRecDepth 100000 in
theorem shown_r : (Qm.pc (⟨#[195, 169, 240, 159, 152, 128]⟩ : ByteArray).data.toList).length = 2 := by decide +kernel

set_option maxHeartbeats 4000000 in
set_option maxRecDepth 1000000 in
theorem shown_any (w : World) (hT : Tabs w) : Calls Tryd.prog 5 #[] w fun e w' => e = .returned (.bool true) ∧ Below w.heap.size w w' := by
  go_enter Tryd.func5, Tryd.ntmps5
  go_wp2_with (go_at_call 6; refine (unquote_c _ ⟨#[195, 169, 240, 159, 152, 128]⟩ 20 0 _ (by decide) shown_u hT).mono ?_)
  rintro e W1 ⟨rfl, b1⟩
  go_wp2_with (first | (go_at_call 15; refine (quote_c _ ⟨#[34, 92, 110, 195, 169, 92, 34, 34]⟩ _ (by decide) shown_q).mono ?_; rintro e W2 ⟨rfl, b2⟩) | (go_at_call 11; refine (runes_c _ 2 _ (by decide) shown_r).mono ?_; rintro e W3 ⟨rfl, b3⟩))
  go_ret
  exact ⟨rfl, (b1.trans (b2.mono b1.size)).trans (b3.mono (Nat.le_trans b1.size b2.size))⟩

/-- At most so many bytes. -/
def fewB (n : Nat) (s : ByteArray) : ByteArray := if n < s.size then s.extract 0 n else s
theorem few_size (n : Nat) (s : ByteArray) : (fewB n s).size ≤ n := by
  unfold fewB
  split
  · rw [ByteArray.size_extract]; omega
  · omega
theorem few_any (s : ByteArray) (w : World) : Calls Tryd.prog 7 #[.string s] w fun e w' => e = .returned (.string (fewB 6000 s)) ∧ w' = w := by
  unfold fewB
  by_cases h : 6000 < s.size
  · rw [if_pos h]
    have h1 : (6000 : Int) < (s.size : Int) := by omega
    have h2 : (6000 : Int) ≤ (s.size : Int) := by omega
    go_enter Tryd.func7, Tryd.ntmps7
    go_wp2
    go_ret
    exact ⟨rfl, rfl⟩
  · rw [if_neg h]
    have h1 : ¬ (6000 : Int) < (s.size : Int) := by omega
    go_enter Tryd.func7, Tryd.ntmps7
    go_wp2
    go_ret
    exact ⟨rfl, rfl⟩
end Go.Proofs.YtdmhkibpkcbhaaaDoor
