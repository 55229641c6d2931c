/- What is proved here: the document's examples, as the head of all statements of the layer asks them, hold; conditions: none. -/
import Derived.Test.YtmlmplmghlbdmaaGreatDoorWn
namespace Go.Proofs.YtmlmplmghlbdmaaGreatDoor
open Go.RowKit
set_option linter.unusedVariables false
set_option linter.unusedSimpArgs false

theorem may_of {ng : Bool} {l : List UInt8} {n : Nat} (h : Dm.mayB ng l n = true) : Dm.May ⟨ng, l, n⟩ := by
  have := (Dm.mayB_iff.1 h).2
  rwa [Int.toNat_natCast] at this
/-- A block of three cells. -/
def Has3 (b : Nat) (x y z : Value) (w : World) : Prop := b < w.heap.size ∧ w.cell? ⟨b, 0, none⟩ = some x ∧ w.cell? ⟨b, 1, none⟩ = some y ∧ w.cell? ⟨b, 2, none⟩ = some z
theorem Has3.start (w : World) (x y z : Value) (t : Nat) : Has3 w.heap.size x y z (w.alloc (.cells #[x, y, z] t)) := ⟨by simp, by go_simp, by go_simp, by go_simp⟩
theorem Has3.next {b : Nat} {x y z : Value} {w w' : World} (h : Has3 b x y z w) (hb : Below w.heap.size w w') : Has3 b x y z w' := by
  obtain ⟨h0, h1, h2, h3⟩ := h
  obtain ⟨hc, _⟩ := bcell hb
  exact ⟨Nat.lt_of_lt_of_le h0 hb.size, by rw [hc _ _ h0]; exact h1, by rw [hc _ _ h0]; exact h2, by rw [hc _ _ h0]; exact h3⟩

end Go.Proofs.YtmlmplmghlbdmaaGreatDoor
