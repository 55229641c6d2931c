/- What is proved here: what the functions of package quote answer, said with letters; shown and few of the laws, walked; condition: the two tables of unicode/utf8 lie in the world. -/
import Derived.Test.YtomhgafpjpnmdaaGreatDoorQg
import Derived.Deep.RegionHeld3
namespace Go.Proofs.YtomhgafpjpnmdaaGreatDoor
open Go.RowKit
set_option linter.unusedVariables false
set_option linter.unusedSimpArgs false

theorem Tabs.step {w w' : World} (h : Tabs w) (hb : Below w.heap.size w w') : Tabs w' := Utf8Tabs_below h hb
theorem valid_c (t : ByteArray) (b : Bool) (w : World) (hs : t.size ≤ 1099511627776) (h : Lib.validD t.data.toList = b) (hT : Tabs w) :
    Calls Tryz.prog 35 #[.string t] w fun e w' => e = .returned (.bool b) ∧ Below w.heap.size w w' := by
  have := valid_any t w (by omega) hT
  rwa [h] at this
theorem quote_c (t u : ByteArray) (w : World) (hs : t.size ≤ 1099511627776) (h : Qm.quoteL t.data.toList = u.data.toList) :
    Calls Tryz.prog 40 #[.string t] w fun e w' => e = .returned (.string u) ∧ Below w.heap.size w w' := by
  have := quote_any t w hs
  rwa [h, Array.toArray_toList] at this
theorem unquote_c (t u : ByteArray) (n e : Nat) (w : World) (hs : t.size ≤ 1099511627776) (h : Qm.unquoteL t.data.toList = (u.data.toList, n, e)) (hT : Tabs w) :
    Calls Tryz.prog 59 #[.string t] w fun r w' => r = .returned (.tuple #[.string u, .int .i64 (n : Int), .int .i64 (e : Int)]) ∧ Below w.heap.size w w' := by
  have := unquote_any t w hs hT
  rw [h] at this
  unfold uV at this
  dsimp only at this
  rwa [Array.toArray_toList] at this

set_option maxRecDepth 100000 in
theorem shown_u : Qm.unquoteL (⟨#[34, 92, 117, 48, 48, 101, 57, 92, 117, 100, 56, 51, 100, 92, 117, 100, 101, 48, 48, 34, 32, 114, 101, 115, 116]⟩ : ByteArray).data.toList = ((⟨#[195, 169, 240, 159, 152, 128]⟩ : ByteArray).data.toList, 20, 0) := by decide +kernel
set_option maxRecDepth 100000 in
theorem shown_q : Qm.quoteL (⟨#[10, 195, 169, 34]⟩ : ByteArray).data.toList = (⟨#[34, 92, 110, 195, 169, 92, 34, 34]⟩ : ByteArray).data.toList := by decide +kernel
set_option maxRecDepth 100000 in
theorem shown_r : (Qm.pc (⟨#[195, 169, 240, 159, 152, 128]⟩ : ByteArray).data.toList).length = 2 := by decide +kernel

/-- At most so many bytes. -/
def fewB (n : Nat) (s : ByteArray) : ByteArray := if n < s.size then s.extract 0 n else s
theorem few_size (n : Nat) (s : ByteArray) : (fewB n s).size ≤ n := by
  unfold fewB
  split
  · rw [ByteArray.size_extract]; omega
  · omega
end Go.Proofs.YtomhgafpjpnmdaaGreatDoor
