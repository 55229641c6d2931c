/- What is proved here: what Valid, Runes, byteAt, Cut and escape of package quote do, walked; conditions: as each theorem states. -/
import Derived.Test.YtppkknmgdahniabDoorRows
import Derived.Test.YtppkknmgdahniabDoorAb
import Derived.Test.YtppkknmgdahniabDoorAc
import Derived.WalkKit
import Derived.WalkSpells
import Derived.WalkLawsBesides
import Derived.BigCall
namespace Go.Proofs.YtppkknmgdahniabDoor
set_option maxRecDepth 100000
open Go.RowKit
set_option linter.unusedVariables false
set_option linter.unusedSimpArgs false

/-- The two tables of unicode/utf8, as they were laid. -/
abbrev Tabs (w : World) : Prop := Lib.Utf8Tabs 1 2 w
theorem at_step (s : ByteArray) (pos : Nat) (hp : pos < s.size) : s.data.toList.drop pos ≠ [] ∧ Lib.decodeL (s.data.toList.drop pos) = Utf8.decode s pos ∧
    (s.data.toList.drop pos).drop (Utf8.decode s pos).2 = s.data.toList.drop (pos + (Utf8.decode s pos).2) ∧ 1 ≤ (Utf8.decode s pos).2 ∧ pos + (Utf8.decode s pos).2 ≤ s.size := by
  have hne : s.data.toList.drop pos ≠ [] := by
    intro h0
    have := congrArg List.length h0
    rw [List.length_drop, ← Lib.size_eq] at this
    simp at this
    omega
  have hd := Lib.decodeL_drop s pos
  have h1 := Lib.decodeL_width (s.data.toList.drop pos)
  have h2 := Lib.decodeL_le (s.data.toList.drop pos) hne
  rw [hd, List.length_drop, ← Lib.size_eq] at h2
  rw [hd] at h1
  exact ⟨hne, hd, by rw [List.drop_drop], h1, by omega⟩
theorem at_end (s : ByteArray) (pos : Nat) (hp : ¬ pos < s.size) : s.data.toList.drop pos = [] := List.drop_eq_nil_of_le (by rw [← Lib.size_eq]; omega)

end Go.Proofs.YtppkknmgdahniabDoor
