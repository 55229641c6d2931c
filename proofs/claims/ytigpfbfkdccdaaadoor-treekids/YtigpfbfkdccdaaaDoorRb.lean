/- What is proved here: rows of bytes and of numbers as they lie in memory; conditions: as each theorem states. -/
import Derived.Test.YtigpfbfkdccdaaaDoorRt
import Derived.Laws.BytesArg
import Derived.Deep.AppendSrc
namespace Go.Proofs.YtigpfbfkdccdaaaDoor
open Go.RowKit
set_option linter.unusedVariables false
set_option linter.unusedSimpArgs false

/-- Bytes that lie in memory, one a cell. -/
def Row (w : World) (b o : Nat) (l : List UInt8) : Prop := ∀ i, i < l.length → w.cell? ⟨b, o + i, none⟩ = some (.int .u8 ((l.getD i 0).toNat : Int))
theorem Row.below {w w' : World} {b o : Nat} {l : List UInt8} (h : Row w b o l) (hB : Below w.heap.size w w') : Row w' b o l :=
  fun i hi => by rw [hB.cell (p := ⟨b, o + i, none⟩) (World.block_lt_of_cell? _ _ (h i hi))]; exact h i hi
theorem Row.drop {w : World} {b o : Nat} {l : List UInt8} (h : Row w b o l) (j : Nat) : Row w b (o + j) (l.drop j) := by
  intro i hi
  rw [List.length_drop] at hi
  have := h (j + i) (by omega)
  rw [Nat.add_assoc, this]
  simp [List.getD, List.getElem?_drop]
theorem Row.take {w : World} {b o : Nat} {l : List UInt8} (h : Row w b o l) (j : Nat) : Row w b o (l.take j) := by
  intro i hi
  rw [List.length_take] at hi
  rw [h i (by omega)]
  simp [List.getD, List.getElem?_take, show i < j by omega]
theorem Row.set {w : World} {g : Nat} {L : List UInt8} (h : Row w g 0 L) (j : Nat) (c : UInt8) : Row (w.setCell ⟨g, j, none⟩ (.int .u8 (c.toNat : Int))) g 0 (L.set j c) := by
  intro i hi
  rw [List.length_set] at hi
  rw [Nat.zero_add]
  by_cases e : j = i
  · subst e
    have h0 := h j hi
    rw [Nat.zero_add] at h0
    rw [World.cell?_setCell_same' _ _ _ (by rw [h0]; rfl)]
    simp [List.getD, hi]
  · rw [World.cell?_setCell_other (w := w) (a := ⟨g, j, none⟩) (b := ⟨g, i, none⟩) (h := by intro q; injection q with _ q2; exact e q2)]
    have h0 := h i hi
    rw [Nat.zero_add] at h0
    rw [h0]
    simp [List.getD, List.getElem?_set, e]

theorem row_made (W : World) (n : Nat) : Row (W.alloc (.cells (madeCells #[.int .u8 0] n) 5)) W.heap.size 0 (List.replicate n 0) := by
  intro i hi
  rw [List.length_replicate] at hi
  rw [Nat.zero_add, World.cell?_alloc_at _ _ _ _ rfl]
  have : (madeCells #[Value.int .u8 0] n)[i]? = some (.int .u8 0) := by simp [madeCells, hi, Nat.mod_one]
  rw [this]
  simp [List.getD, hi]
theorem frozen_made (W : World) (c : Array Value) (t j : Nat) : (W.alloc (.cells c t)).frozen? ⟨W.heap.size, j, none⟩ = false := by
  go_simp
/-- Sums in a row of ints. -/
def Ints (w : World) (g : Nat) (S : List Nat) : Prop := ∀ p, p < S.length → w.cell? ⟨g, p, none⟩ = some (.int .i64 ((S.getD p 0 : Nat) : Int))
theorem Ints.below {w w' : World} {g : Nat} {S : List Nat} (h : Ints w g S) (hB : Below w.heap.size w w') : Ints w' g S :=
  fun i hi => by rw [hB.cell (p := ⟨g, i, none⟩) (World.block_lt_of_cell? _ _ (h i hi))]; exact h i hi
theorem Ints.set {w : World} {g : Nat} {S : List Nat} (h : Ints w g S) (j x : Nat) : Ints (w.setCell ⟨g, j, none⟩ (.int .i64 (x : Int))) g (S.set j x) := by
  intro i hi
  rw [List.length_set] at hi
  by_cases e : j = i
  · subst e
    rw [World.cell?_setCell_same' _ _ _ (by rw [h j hi]; rfl)]
    simp [List.getD, hi]
  · rw [World.cell?_setCell_other (w := w) (a := ⟨g, j, none⟩) (b := ⟨g, i, none⟩) (h := by intro q; injection q with _ q2; exact e q2), h i hi]
    simp [List.getD, List.getElem?_set, e]
theorem ints_made (W : World) (n t : Nat) : Ints (W.alloc (.cells (madeCells #[.int .i64 0] n) t)) W.heap.size (List.replicate n 0) := by
  intro i hi
  rw [List.length_replicate] at hi
  rw [World.cell?_alloc_at _ _ _ _ rfl]
  have : (madeCells #[Value.int .i64 0] n)[i]? = some (.int .i64 0) := by simp [madeCells, hi, Nat.mod_one]
  rw [this]
  simp [List.getD, hi]
end Go.Proofs.YtigpfbfkdccdaaaDoor
