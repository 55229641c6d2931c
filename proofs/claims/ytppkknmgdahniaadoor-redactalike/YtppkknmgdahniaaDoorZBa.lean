/- What is proved here: what isLetter, isInName, bitAt, Within of package cats do, and MayName, Within, short beside it, walked; conditions: as each theorem states. What is proved here: rows of texts that lie in the world; what bitsOf, place do with such a row, walked; conditions: as each theorem states. What is proved here: what May of package cats does with a row of texts that lies, walked; conditions: as each theorem states. What is proved here: what the document's own May does with a row of texts that lies, walked; conditions: as each theorem states. What is proved here: what Go's library does where a text is cut at its first blank, walked; its Builder, by the library's contracts; conditions: as each theorem states. -/
import Derived.Test.YtppkknmgdahniaaDoorRows
import Derived.WalkKit
import Derived.WalkSpells
import Derived.WalkLawsBesides
import Derived.BigCall
import Derived.Laws.BitsAllLaws
import Derived.Test.YtppkknmgdahniaaDoorZAb
import Derived.Maps.OwnOps
import Derived.Maps.OwnSet
import Derived.Deep.RegionHeld3
import Derived.Deep.DrawnRows
import Derived.Maps.RangeWalk
import Derived.Sort.KeysCollected
import Derived.Shelf.Strings.BuilderF
import Derived.Shelf.Strings.BuilderK
import Derived.Below
import Derived.Lib.Strings
import Derived.Lib.Bytealg
import Derived.Lib.IndexLaws
import Derived.Deep.QuietTactic
import Derived.BigQuiet
import Derived.Test.YtppkknmgdahniaaDoorProg
namespace Go.Proofs.YtppkknmgdahniaaDoor.Nc
set_option maxRecDepth 100000
open Go.RowKit
set_option linter.unusedVariables false
set_option linter.unusedSimpArgs false

theorem hide {p : Prop} (h : p) : Hid p := h
theorem unhide {p : Prop} (h : Hid p) : p := h
theorem ret_bool {a b : Bool} (h : a = b) : Ending.returned (.bool a) = .returned (.bool b) := by rw [h]
theorem within_bits {a b : Nat} (ha : a < 18446744073709551616) (hb : b < 18446744073709551616) : (bits BinOp.andNot IntKind.u64 (a : Int) (b : Int) == 0) = Cm.subB a b := by
  rw [u64_andNot_nat a b ha hb, Bool.eq_iff_iff, Cm.subB_iff ha hb]
  simp only [beq_iff_eq]
  omega
theorem within_any (a b : Nat) (ha : a < 18446744073709551616) (hb : b < 18446744073709551616) (w : World) : Calls Tryd.prog 44 #[.int .u64 (a : Int), .int .u64 (b : Int)] w fun e w' => e = .returned (.bool (Cm.subB a b)) ∧ w' = w := by
  have h := within_bits ha hb
  go_enter Tryd.func44, Tryd.ntmps44
  go_wp2
  go_ret
  exact ⟨rfl, rfl⟩
theorem rwithin_any (a b : Nat) (ha : a < 18446744073709551616) (hb : b < 18446744073709551616) (w : World) : Calls Tryd.prog 45 #[.int .u64 (a : Int), .int .u64 (b : Int)] w fun e w' => e = .returned (.bool (Cm.subB a b)) ∧ w' = w := by
  have h := within_bits ha hb
  go_enter Tryd.func45, Tryd.ntmps45
  go_wp2
  go_ret
  exact ⟨rfl, rfl⟩

theorem name_in {l : Cm.Tx} (h : Cm.nameB l = true) : l.all Cm.inB = true := by
  unfold Cm.nameB at h
  simp only [Bool.and_eq_true] at h
  exact h.2
end Go.Proofs.YtppkknmgdahniaaDoor.Nc

namespace Go.Proofs.YtppkknmgdahniaaDoor.Nc
set_option maxRecDepth 100000
open Go.RowKit Go.Maps
set_option linter.unusedVariables false
set_option linter.unusedSimpArgs false

/-- A row of texts that lies in block g. -/
def RowAt (w : World) (g : Nat) (L : List Cm.Tx) : Prop := g < w.heap.size ∧ ∀ i, ∀ h : i < L.length, w.cell? ⟨g, i, none⟩ = some (.string ⟨(L[i]'h).toArray⟩)
theorem RowAt.step {w w' : World} {g : Nat} {L : List Cm.Tx} (h : RowAt w g L) (hb : Below w.heap.size w w') : RowAt w' g L :=
  ⟨Nat.lt_of_lt_of_le h.1 hb.size, fun i hi => (hb.cell (p := ⟨g, i, none⟩) h.1).trans (h.2 i hi)⟩
end Go.Proofs.YtppkknmgdahniaaDoor.Nc

namespace Go.Proofs.YtppkknmgdahniaaDoor.Nc
set_option maxRecDepth 100000
open Go.RowKit Go.Maps
set_option linter.unusedVariables false
set_option linter.unusedSimpArgs false

end Go.Proofs.YtppkknmgdahniaaDoor.Nc

namespace Go.Proofs.YtppkknmgdahniaaDoor.Nc
set_option maxRecDepth 100000
open Go.RowKit Go.Maps
set_option linter.unusedVariables false
set_option linter.unusedSimpArgs false

end Go.Proofs.YtppkknmgdahniaaDoor.Nc

namespace Go.Proofs.YtppkknmgdahniaaDoor.Nc
set_option maxRecDepth 100000
open Go.RowKit
set_option linter.unusedVariables false
set_option linter.unusedSimpArgs false

end Go.Proofs.YtppkknmgdahniaaDoor.Nc
