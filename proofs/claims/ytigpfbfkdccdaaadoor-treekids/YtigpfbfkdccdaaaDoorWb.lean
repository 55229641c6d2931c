/- What is proved here: what cutDigits and exponent of package dec do, walked; conditions: as each theorem states. -/
import Derived.Test.YtigpfbfkdccdaaaDoorWa
import Derived.Lib.Strings
import Derived.Lib.IndexBytes
import Derived.Deep.QuietTactic
import Derived.BigQuiet
namespace Go.Proofs.YtigpfbfkdccdaaaDoor
open Go.RowKit
set_option linter.unusedVariables false
set_option linter.unusedSimpArgs false

/-- A text of a list of bytes. -/
theorem str_ext {s : ByteArray} {l : List UInt8} (h : s.data.toList = l) : s = ⟨l.toArray⟩ := by
  subst h; cases s; simp
theorem takeWhile_at {l : List UInt8} {k : Nat} (hd : Dm.allD (l.take k)) (h : ∀ g : k < l.length, Dm.isD l[k] = false) : l.takeWhile Dm.isD = l.take k ∧ l.dropWhile Dm.isD = l.drop k := by
  have := Dm.takeWhile_all (l := l.take k) (m := l.drop k) hd (by
    intro c t e
    have g : k < l.length := by
      rcases Nat.lt_or_ge k l.length with g | g
      · exact g
      · rw [List.drop_of_length_le g] at e; cases e
    rw [List.drop_eq_getElem_cons g] at e
    injection e with e1
    rw [← e1]; exact h g)
  rwa [List.take_append_drop] at this
theorem ret_two {a b c d : Value} (h : a = c) (g : b = d) : Ending.returned (.tuple #[a, b]) = .returned (.tuple #[c, d]) := by rw [h, g]

end Go.Proofs.YtigpfbfkdccdaaaDoor
