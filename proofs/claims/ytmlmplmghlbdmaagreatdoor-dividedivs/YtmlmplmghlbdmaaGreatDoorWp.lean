/- What is proved here: small contracts that laws of the layer are built of; conditions: as each theorem states. -/
import Derived.Test.YtmlmplmghlbdmaaGreatDoorWo
namespace Go.Proofs.YtmlmplmghlbdmaaGreatDoor
open Go.RowKit
set_option linter.unusedVariables false
set_option linter.unusedSimpArgs false

theorem printL_len {d : Dm.D} (h : Dm.May d) : (Dm.printL d).length ≤ 200 := by
  obtain ⟨l1, l2, l3⟩ := may_len h
  unfold Dm.printL
  rw [List.length_append]
  have h1 : (if d.ng then [45] else [] : List UInt8).length ≤ 1 := by cases d.ng <;> simp
  by_cases g : d.ds.length ≤ d.sc
  · rw [if_pos g]; simp; omega
  · rw [if_neg g]
    by_cases g2 : 0 < d.sc
    · rw [if_pos g2]; simp; omega
    · rw [if_neg g2]; simp; omega
theorem parse_n (l : List UInt8) (w : World) (hl : l.length ≤ 200) (h : Dm.parseL l = none) :
    Calls Tryz.prog 70 #[.string ⟨l.toArray⟩] w fun e w' => e = .returned (.tuple #[.agg #[.bool false, .string ⟨#[]⟩, .int .i64 0], .int .i64 4]) ∧ Below w.heap.size w w' := by
  have := parse_any ⟨l.toArray⟩ w (by rw [mk_size]; omega)
  rw [mk_list, h] at this; exact this
theorem parse_z (l : List UInt8) (w : World) (hl : l.length ≤ 200) (h : Dm.parseL l = some none) :
    Calls Tryz.prog 70 #[.string ⟨l.toArray⟩] w fun e w' => e = .returned (.tuple #[.agg #[.bool false, .string ⟨#[]⟩, .int .i64 0], .int .i64 3]) ∧ Below w.heap.size w w' := by
  have := parse_any ⟨l.toArray⟩ w (by rw [mk_size]; omega)
  rw [mk_list, h] at this; exact this
theorem parse_s (l : List UInt8) (w : World) (hl : l.length ≤ 200) (x : Bool) (y : List UInt8) (z : Nat) (h : Dm.parseL l = some (some ⟨x, y, z⟩)) :
    Calls Tryz.prog 70 #[.string ⟨l.toArray⟩] w fun e w' => e = .returned (.tuple #[.agg #[.bool x, .string ⟨y.toArray⟩, .int .i64 (z : Int)], .int .i64 0]) ∧ Below w.heap.size w w' := by
  have := parse_any ⟨l.toArray⟩ w (by rw [mk_size]; omega)
  rw [mk_list, h] at this; exact this
theorem may_l (ng : Bool) (l : List UInt8) (n : Int) (b : Bool) (w : World) (hl : l.length ≤ 200) (h : Dm.mayB ng l n = b) :
    Calls Tryz.prog 31 #[.agg #[.bool ng, .string ⟨l.toArray⟩, .int .i64 n]] w fun e w' => e = .returned (.bool b) ∧ Below w.heap.size w w' :=
  may_b ng ⟨l.toArray⟩ n b w (by rw [mk_size]; unfold maxLen; omega) (by rw [mk_list]; exact h)
theorem Box3.set1 {w0 w : World} {x y z : Value} (h : Box3 w0 x y z w) (y' : Value) : Box3 w0 x y' z (w.setCell ⟨w0.heap.size, 1, none⟩ y') := by
  obtain ⟨h1, h2, a, b, c⟩ := h
  refine ⟨h1.setCell (Nat.le_refl _) _, by simpa [World.setCell] using h2, ?_, ?_, ?_⟩
  · rw [World.cell?_setCell_other (w := w) (a := ⟨w0.heap.size, 1, none⟩) (b := ⟨w0.heap.size, 0, none⟩) (h := by intro q; injection q with _ q2; cases q2)]; exact a
  · rw [World.cell?_setCell_same' _ _ _ (by rw [b]; rfl)]
  · rw [World.cell?_setCell_other (w := w) (a := ⟨w0.heap.size, 1, none⟩) (b := ⟨w0.heap.size, 2, none⟩) (h := by intro q; injection q with _ q2; cases q2)]; exact c
end Go.Proofs.YtmlmplmghlbdmaaGreatDoor
