/- What is proved here: what strings.IndexAny finds in any text for the three bytes that begin a step, walked; conditions: as each theorem states. What is proved here: what strings.IndexAny finds in any text for the three bytes that begin a step, walked; conditions: as each theorem states. -/
import Derived.Test.YtppkknmgdahniaaDoorZBg
import Derived.Laws.RangeAny
import Derived.Deep.LoopGhost
import Derived.Deep.RegionHeld3
import Derived.BigQuiet
import Derived.WalkMore
import Derived.Handy
import Derived.Shelf.Small.Strs
import Derived.Lib.OthersKept
namespace Go.Proofs.YtppkknmgdahniaaDoor.Np
set_option maxRecDepth 100000
open Go.Proofs.YtppkknmgdahniaaDoor.Nq
open Go.RowKit
set_option linter.unusedVariables false
set_option linter.unusedSimpArgs false
set_option maxRecDepth 100000

end Go.Proofs.YtppkknmgdahniaaDoor.Np

namespace Go.Proofs.YtppkknmgdahniaaDoor.Np
set_option maxRecDepth 100000
open Go.Proofs.YtppkknmgdahniaaDoor.Nq
open Go.RowKit
set_option linter.unusedVariables false
set_option linter.unusedSimpArgs false
set_option maxRecDepth 100000

theorem enc_high {r : Nat} (hr : Qm.Sc r) (h : 128 ≤ r) : ∀ b ∈ Lib.encodeRune (r : Int), 128 ≤ b.toNat := by
  obtain ⟨h1, h2⟩ := hr
  have key : ∀ z : Int, 128 ≤ z → z < 256 → 128 ≤ (z.toNat.toUInt8).toNat := fun z a b => by rw [Qm.byteN z (by omega) b]; omega
  intro b hb
  unfold Lib.encodeRune at hb
  obtain ⟨z, hz, rfl⟩ := List.mem_map.1 hb
  have hz2 : 128 ≤ z ∧ z < 256 := by
    by_cases a : r ≤ 2047
    · rw [Lib.encodeRuneZ_two (by omega) (by omega)] at hz
      simp only [List.mem_cons, List.mem_nil_iff, or_false] at hz
      rcases hz with rfl | rfl <;> omega
    · by_cases c : r ≤ 65535
      · rw [Lib.encodeRuneZ_three (by omega)] at hz
        simp only [List.mem_cons, List.mem_nil_iff, or_false] at hz
        rcases hz with rfl | rfl | rfl <;> omega
      · rw [Lib.encodeRuneZ_four (by omega) (by omega)] at hz
        simp only [List.mem_cons, List.mem_nil_iff, or_false] at hz
        rcases hz with rfl | rfl | rfl | rfl <;> omega
  exact key z hz2.1 hz2.2
end Go.Proofs.YtppkknmgdahniaaDoor.Np
