/- What is proved here: what bare, leads and the tests that leads answers do, walked; conditions: as each theorem states. What is proved here: what few, place, key and at of the laws, and the document's own Same, do with rows of steps that lie, walked; conditions: as each theorem states. What is proved here: what place, key and at of the laws, and the document's own Same, do with rows of steps that lie, walked; conditions: as each theorem states. What is proved here: what Match of package path does with two rows of steps that lie, walked; conditions: as the theorem states. Written by match_gen.py. -/
import Derived.Test.YtppkknmgdahniaaDoorRows
import Derived.WalkKit
import Derived.WalkSpells
import Derived.WalkLawsBesides
import Derived.BigCall
import Derived.BigQuiet
import Derived.Handy
import Derived.Laws.StructEq
import Derived.Deep.RegionHeld3
import Derived.Test.YtppkknmgdahniaaDoorZAb
import Derived.OwnWalk
import Derived.Deep.AppendLies
import Derived.Deep.DeepCutAuto
import Derived.Deep.CutRange
import Derived.Deep.CutBlock
import Derived.Deep.RegionWith
namespace Go.Proofs.YtppkknmgdahniaaDoor.Np
set_option maxRecDepth 100000
open Go.RowKit
set_option linter.unusedVariables false
set_option linter.unusedSimpArgs false

theorem phide {p : Prop} (h : p) : Hid p := h
theorem punhide {p : Prop} (h : Hid p) : p := h
def valS (t : Pm.St) : Value := .agg #[.int .i64 t.k, .string t.s, .int .i64 t.n]
/-- A step in memory. -/
def StepAt (w : World) (b p : Nat) (t : Pm.St) : Prop := w.cell? ⟨b, p, none⟩ = some (.int .i64 t.k) ∧ w.cell? ⟨b, p + 1, none⟩ = some (.string t.s) ∧ w.cell? ⟨b, p + 2, none⟩ = some (.int .i64 t.n)
/-- A row of steps in memory. -/
def RowSt (w : World) (b o : Nat) (L : List Pm.St) : Prop := b < w.heap.size ∧ ∀ i, ∀ h : i < L.length, StepAt w b (o + i * 3) (L[i]'h)
theorem StepAt.step {w w' : World} {b p : Nat} {t : Pm.St} (h : StepAt w b p t) (hb : b < w.heap.size) (hB : Below w.heap.size w w') : StepAt w' b p t :=
  ⟨(hB.cell (p := ⟨b, p, none⟩) hb).trans h.1, (hB.cell (p := ⟨b, p + 1, none⟩) hb).trans h.2.1, (hB.cell (p := ⟨b, p + 2, none⟩) hb).trans h.2.2⟩
theorem RowSt.step {w w' : World} {b o : Nat} {L : List Pm.St} (h : RowSt w b o L) (hB : Below w.heap.size w w') : RowSt w' b o L :=
  ⟨Nat.lt_of_lt_of_le h.1 hB.size, fun i hi => (h.2 i hi).step h.1 hB⟩

end Go.Proofs.YtppkknmgdahniaaDoor.Np

namespace Go.Proofs.YtppkknmgdahniaaDoor.Np
set_option maxRecDepth 100000
open Go.RowKit
set_option linter.unusedVariables false
set_option linter.unusedSimpArgs false

/-- A row of steps that came in. -/
def StepsIn (w : World) (a : Option Addr) (n : Nat) (L : List Pm.St) : Prop :=
  L.length = n ∧ (n = 0 ∨ ∃ b o, a = some ⟨b, o, none⟩ ∧ RowSt w b o L)
theorem StepsIn.step {w w' : World} {a : Option Addr} {n : Nat} {L : List Pm.St} (h : StepsIn w a n L) (hB : Below w.heap.size w w') : StepsIn w' a n L := by
  obtain ⟨h1, h2⟩ := h
  refine ⟨h1, ?_⟩
  rcases h2 with h2 | ⟨b, o, e, h2⟩
  · exact .inl h2
  · exact .inr ⟨b, o, e, h2.step hB⟩
def cellsS (t : Pm.St) : List Value := [.int .i64 t.k, .string t.s, .int .i64 t.n]
def rowS (L : List Pm.St) : List Value := L.flatMap cellsS
theorem rowS_len : ∀ L : List Pm.St, (rowS L).length = L.length * 3
  | [] => rfl
  | t :: r => by
    unfold rowS
    rw [List.flatMap_cons, List.length_append, List.length_cons]
    have := rowS_len r
    unfold rowS at this
    rw [this]; simp [cellsS]; omega
theorem rowS_at : ∀ (L : List Pm.St) (i r : Nat), r < 3 → ∀ h : i < L.length, (rowS L)[i * 3 + r]? = (cellsS (L[i]'h))[r]?
  | [], _, _, _, h => absurd h (by simp)
  | t :: l, 0, r, hr, _ => by
    unfold rowS
    rw [List.flatMap_cons, Nat.zero_mul, Nat.zero_add, List.getElem?_append_left (by simpa [cellsS] using hr)]
    rfl
  | t :: l, i + 1, r, hr, h => by
    unfold rowS
    rw [List.flatMap_cons, List.getElem?_append_right (by simp [cellsS]; omega)]
    have := rowS_at l i r hr (by simpa using h)
    unfold rowS at this
    simp only [cellsS, List.length_cons, List.length_nil]
    rw [show (i + 1) * 3 + r - (0 + 1 + 1 + 1) = i * 3 + r by omega]
    exact this
end Go.Proofs.YtppkknmgdahniaaDoor.Np

namespace Go.Proofs.YtppkknmgdahniaaDoor.Np
set_option maxRecDepth 100000
open Go.RowKit
set_option linter.unusedVariables false
set_option linter.unusedSimpArgs false

end Go.Proofs.YtppkknmgdahniaaDoor.Np

namespace Go.Proofs.YtppkknmgdahniaaDoor.Np
set_option maxRecDepth 100000
open Go.RowKit
set_option linter.unusedVariables false
set_option linter.unusedSimpArgs false

end Go.Proofs.YtppkknmgdahniaaDoor.Np
