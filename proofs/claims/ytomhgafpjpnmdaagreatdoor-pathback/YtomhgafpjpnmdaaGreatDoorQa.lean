/- What is proved here: what Valid, Runes, byteAt, Cut and escape of package quote do, walked; conditions: as each theorem states. -/
import Derived.Test.YtomhgafpjpnmdaaGreatDoorRows
import Derived.Test.YtomhgafpjpnmdaaGreatDoorQt
import Derived.Test.YtomhgafpjpnmdaaGreatDoorQs
import Derived.WalkKit
import Derived.WalkSpells
import Derived.WalkLawsBesides
import Derived.BigCall
namespace Go.Proofs.YtomhgafpjpnmdaaGreatDoor
open Go.RowKit
set_option linter.unusedVariables false
set_option linter.unusedSimpArgs false

/-- The two tables of unicode/utf8, as they were laid. -/
abbrev Tabs (w : World) : Prop := Lib.Utf8Tabs 0 1 w
theorem at_step (s : ByteArray) (pos : Nat) (hp : pos < s.size) : s.data.toList.drop pos ≠ [] ∧ Lib.decodeL (s.data.toList.drop pos) = Utf8.decode s pos ∧
    (s.data.toList.drop pos).drop (Utf8.decode s pos).2 = s.data.toList.drop (pos + (Utf8.decode s pos).2) ∧ 1 ≤ (Utf8.decode s pos).2 ∧ pos + (Utf8.decode s pos).2 ≤ s.size := by
  have hne : s.data.toList.drop pos ≠ [] := by
    intro h0
    have := congrArg List.length h0
    rw [List.length_drop, ← Lib.size_eq] at this
    simp at this
    omega
  have hd := Lib.decodeL_drop s pos
  have h1 := Lib.decodeL_width (s.data.toList.drop pos)
  have h2 := Lib.decodeL_le (s.data.toList.drop pos) hne
  rw [hd, List.length_drop, ← Lib.size_eq] at h2
  rw [hd] at h1
  exact ⟨hne, hd, by rw [List.drop_drop], h1, by omega⟩
theorem at_end (s : ByteArray) (pos : Nat) (hp : ¬ pos < s.size) : s.data.toList.drop pos = [] := List.drop_eq_nil_of_le (by rw [← Lib.size_eq]; omega)

theorem valid_any (s : ByteArray) (w : World) (hs : s.size ≤ 9223372036854775807) (hT : Tabs w) :
    Calls Tryz.prog 35 #[.string s] w fun e w' => e = .returned (.bool (Lib.validD s.data.toList)) ∧ Below w.heap.size w w' := by
  go_enter Tryz.func35, Tryz.ntmps35
  go_wp2_with (go_at_call 43; refine (Tryz.utf8_ValidString _ _ hs hT).mono ?_)
  rintro e W1 ⟨rfl, b1⟩
  go_wp2
  go_ret
  exact ⟨rfl, b1⟩

end Go.Proofs.YtomhgafpjpnmdaaGreatDoor
