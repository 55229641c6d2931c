/- What is proved here: what longDivide of package divide does, walked; conditions: digits, not too many, and the divisor is not 0. -/
import Derived.Test.YtmlmplmghlbdmaaGreatDoorDc
import Derived.Test.YtmlmplmghlbdmaaGreatDoorMn
import Derived.Lib.ConvBytes
import Derived.Deep.LoopGhost
namespace Go.Proofs.YtmlmplmghlbdmaaGreatDoor
open Go.RowKit
set_option linter.unusedVariables false
set_option linter.unusedSimpArgs false

theorem Row.other {w : World} {b o g j : Nat} {l : List UInt8} (h : Row w b o l) (hne : g ≠ b) (v : Value) : Row (w.setCell ⟨g, j, none⟩ v) b o l :=
  fun i hi => by rw [World.cell?_setCell_other (w := w) (a := ⟨g, j, none⟩) (b := ⟨b, o + i, none⟩) (h := by intro q; injection q with q1 _; exact hne q1)]; exact h i hi
theorem setCells_other (cs : List Value) : ∀ (w : World) (g o b j : Nat), g ≠ b → (w.setCells g o cs).cell? ⟨b, j, none⟩ = w.cell? ⟨b, j, none⟩ := by
  induction cs with
  | nil => intro w g o b j _; rfl
  | cons v r ih =>
    intro w g o b j hne
    rw [World.setCells, ih _ g (o + 1) b j hne]
    exact World.cell?_setCell_other (w := w) (a := ⟨g, o, none⟩) (b := ⟨b, j, none⟩) (h := by intro q; injection q with q1 _; exact hne q1) v
theorem Row.others {w : World} {b o g k : Nat} {l : List UInt8} (h : Row w b o l) (hne : g ≠ b) (cs : List Value) : Row (w.setCells g k cs) b o l :=
  fun i hi => by rw [setCells_other cs w g k b (o + i) hne]; exact h i hi

/-- The three rows of a long division: the divisor, the quotient, the rest. -/
def R3 (w : World) (gd g1 g2 : Nat) (Dv Qr S : List UInt8) (wr : World) : Prop :=
  Row wr gd 0 Dv ∧ Row wr g1 0 Qr ∧ Row wr g2 0 S ∧ (∀ i, i < Qr.length → wr.frozen? ⟨g1, i, none⟩ = false) ∧ (∀ i, i < S.length → wr.frozen? ⟨g2, i, none⟩ = false) ∧ Below w.heap.size w wr ∧ (w.heap.size ≤ gd ∧ gd < g1 ∧ g1 < g2 ∧ g2 < wr.heap.size)
theorem R3.setQ {w wr : World} {gd g1 g2 : Nat} {Dv Qr S : List UInt8} (h : R3 w gd g1 g2 Dv Qr S wr) (j : Nat) (c : UInt8) : R3 w gd g1 g2 Dv (Qr.set j c) S (wr.setCell ⟨g1, j, none⟩ (.int .u8 (c.toNat : Int))) := by
  obtain ⟨h1, h2, h3, h4, h5, h6, h7, h8, h9, h10⟩ := h
  refine ⟨h1.other (by omega) _, h2.set j c, h3.other (by omega) _, fun i hi => ?_, fun i hi => ?_, h6.setCell (p := ⟨g1, j, none⟩) (by show w.heap.size ≤ g1; omega) _, h7, h8, h9, by simpa [World.setCell] using h10⟩
  · rw [World.frozen?_setCell]; exact h4 i (by rwa [List.length_set] at hi)
  · rw [World.frozen?_setCell]; exact h5 i hi
/-- The cells of a row but the first. -/
def tailCells (S : List UInt8) : List Value := S.tail.map fun x => .int .u8 (x.toNat : Int)
theorem R3.push {w wr : World} {gd g1 g2 n : Nat} {Dv Qr S : List UInt8} (h : R3 w gd g1 g2 Dv Qr S wr) (hn : S.length = n + 1) (c : UInt8) :
    R3 w gd g1 g2 Dv Qr (Dm.pushD S c) ((wr.setCells g2 0 (tailCells S)).setCell ⟨g2, n, none⟩ (.int .u8 (c.toNat : Int))) := by
  obtain ⟨h1, h2, h3, h4, h5, h6, h7, h8, h9, h10⟩ := h
  have hcl : (tailCells S).length = n := by unfold tailCells; rw [List.length_map, List.length_tail, hn]; rfl
  have hs : ∀ i, i < (tailCells S).length → (wr.cell? ⟨g2, 0 + i, none⟩).isSome = true := fun i hi => by
    rw [h3 i (by omega)]; rfl
  have hpl := Dm.pushD_len (c := c) hn (by omega)
  refine ⟨(h1.others (by omega) _).other (by omega) _, (h2.others (by omega) _).other (by omega) _, ?_, fun i hi => ?_, fun i hi => ?_, (setCells_below _ _ _ _ _ _ h6 (by omega)).setCell (p := ⟨g2, n, none⟩) (by show w.heap.size ≤ g2; omega) _, h7, h8, h9, ?_⟩
  · intro i hi
    rw [hpl] at hi
    rw [Nat.zero_add]
    by_cases e : i = n
    · subst e
      rw [World.cell?_setCell_same' _ _ _ (by rw [setCells_cell _ wr g2 0 hs, dif_neg (by omega), ← Nat.zero_add i, h3 i (by omega)]; rfl)]
      unfold Dm.pushD
      have : (S.tail ++ [c])[i]? = some c := by
        rw [List.getElem?_append_right (by rw [List.length_tail]; omega), List.length_tail, hn]; simp
      simp [List.getD, this]
    · rw [World.cell?_setCell_other (w := wr.setCells g2 0 (tailCells S)) (a := ⟨g2, n, none⟩) (b := ⟨g2, i, none⟩) (h := by intro q; injection q with _ q2; exact e q2.symm), setCells_cell _ wr g2 0 hs, dif_pos (by omega)]
      have : (S.tail ++ [c])[i]? = some (S.tail[i]'(by rw [List.length_tail]; omega)) := by
        rw [List.getElem?_append_left (by rw [List.length_tail]; omega), List.getElem?_eq_getElem]
      unfold Dm.pushD tailCells
      simp [List.getD, this]
  · rw [World.frozen?_setCell, setCells_frozen]; exact h4 i hi
  · rw [World.frozen?_setCell, setCells_frozen]; exact h5 i (by omega)
  · simp only [World.setCell, Array.size_modify]
    rw [setCells_size]; exact h10
theorem R3.copy {w wr : World} {gd g1 g2 n c1 c2 : Nat} {Dv Qr S : List UInt8} (h : R3 w gd g1 g2 Dv Qr S wr) (hn : S.length = n + 1) (ty : TypeId) :
    (Builtin.copy_ #[38, 38] ty #[.slice (some ⟨g2, 0, none⟩) (n + 1) c1, .slice (some ⟨g2, 1, none⟩) n c2]).run Tryz.prog wr = .ok (.int .i64 (n : Int)) (wr.setCells g2 0 (tailCells S)) := by
  obtain ⟨h1, h2, h3, h4, h5, h6, h7, h8, h9, h10⟩ := h
  have hcl : (tailCells S).length = n := by unfold tailCells; rw [List.length_map, List.length_tail, hn]; rfl
  have := run_copy_cells (P := Tryz.prog) wr 38 38 ty 5 g2 0 (n + 1) c1 ⟨g2, 1, none⟩ n c2 (tailCells S) Tryz.underlying38 (by kernel_rfl) (by rw [hcl]; exact (Nat.min_eq_left (show n ≤ n + 1 by omega)).symm)
    (fun j v hj => by
      have hjl : j < n := by have := (List.getElem?_eq_some_iff.1 hj).1; omega
      have e : (⟨g2, 1, none⟩ : Addr).add j = ⟨g2, 0 + (j + 1), none⟩ := by unfold Addr.add; split <;> simp_all; omega
      rw [e, h3 (j + 1) (by omega)]
      unfold tailCells at hj
      rw [List.getElem?_map] at hj
      cases S with
      | nil => simp at hn
      | cons a t =>
        simp only [List.tail_cons] at hj
        simp only [List.getD, List.getElem?_cons_succ]
        cases ht : t[j]? with
        | none => rw [ht] at hj; cases hj
        | some x => rw [ht] at hj; simpa using hj)
    (fun j hj => by rw [h3 j (by omega)]; rfl) (fun j hj => by rw [Nat.zero_add]; exact h5 j (by omega)) (fun v hv => by
      unfold tailCells at hv
      obtain ⟨x, _, rfl⟩ := List.mem_map.1 hv
      rfl)
  rw [this, hcl]; rfl
theorem R3.off {w wr w' : World} {gd g1 g2 : Nat} {Dv Qr S L : List UInt8} (h : R3 w gd g1 g2 Dv Qr S wr) (hl : L.length = S.length) (hr : Row w' g2 0 L) (hf : ∀ i, i < S.length → w'.frozen? ⟨g2, i, none⟩ = false) (hb : Below g2 wr w') : R3 w gd g1 g2 Dv Qr L w' := by
  obtain ⟨h1, h2, h3, h4, h5, h6, h7, h8, h9, h10⟩ := h
  exact ⟨h1.keep (by omega) hb, h2.keep h9 hb, hr, fun i hi => by rw [hb.frozen (p := ⟨g1, i, none⟩) h9]; exact h4 i hi, fun i hi => hf i (by omega), h6.trans (hb.mono (by omega)), h7, h8, h9, Nat.lt_of_lt_of_le h10 hb.size⟩
theorem R3.drew {w wr : World} {gd g1 g2 : Nat} {Dv Qr S : List UInt8} (h : R3 w gd g1 g2 Dv Qr S wr) : R3 w gd g1 g2 Dv Qr S wr.drew := by
  obtain ⟨h1, h2, h3, h4, h5, h6, h7⟩ := h
  exact ⟨h1, h2, h3, h4, h5, h6.drew, h7⟩
theorem set_at (Q Z : List UInt8) (k : Nat) (c : UInt8) (hQ : Q.length = k) (z : UInt8) : (Q ++ z :: Z).set k c = Q ++ c :: Z := by
  rw [List.set_append_right _ _ (by omega), hQ, Nat.sub_self]; rfl
end Go.Proofs.YtmlmplmghlbdmaaGreatDoor
