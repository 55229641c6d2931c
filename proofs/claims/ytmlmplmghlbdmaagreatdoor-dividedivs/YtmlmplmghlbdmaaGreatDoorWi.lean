/- What is proved here: what Print of package dec does with a decimal that may be, walked; conditions: as each theorem states. -/
import Derived.Test.YtmlmplmghlbdmaaGreatDoorWh
namespace Go.Proofs.YtmlmplmghlbdmaaGreatDoor
open Go.RowKit
set_option linter.unusedVariables false
set_option linter.unusedSimpArgs false

/-- A boxed struct of three cells, the first block that a call has laid; what was there before is as it was. -/
def Box3 (w0 : World) (x y z : Value) (w : World) : Prop :=
  Below w0.heap.size w0 w ∧ w0.heap.size < w.heap.size ∧ w.cell? ⟨w0.heap.size, 0, none⟩ = some x ∧ w.cell? ⟨w0.heap.size, 1, none⟩ = some y ∧ w.cell? ⟨w0.heap.size, 2, none⟩ = some z
theorem Box3.start (w : World) (x y z : Value) (t : Nat) : Box3 w x y z (w.alloc (.cells #[x, y, z] t)) :=
  ⟨(Below.refl _ _).alloc (Nat.le_refl _) _, by simp, by go_simp, by go_simp, by go_simp⟩
theorem Box3.step {w0 w w' : World} {x y z : Value} {B : Nat} (h : Box3 w0 x y z w) (hB : w0.heap.size < B) (hb : Below B w w') : Box3 w0 x y z w' := by
  obtain ⟨h1, h2, a, b, c⟩ := h
  refine ⟨h1.trans (hb.mono (by omega)), Nat.lt_of_lt_of_le h2 hb.size, ?_, ?_, ?_⟩
  · rw [hb.cell (p := ⟨w0.heap.size, 0, none⟩) hB]; exact a
  · rw [hb.cell (p := ⟨w0.heap.size, 1, none⟩) hB]; exact b
  · rw [hb.cell (p := ⟨w0.heap.size, 2, none⟩) hB]; exact c
theorem Box3.next {w0 w w' : World} {x y z : Value} (h : Box3 w0 x y z w) (hb : Below w.heap.size w w') : Box3 w0 x y z w' := h.step h.2.1 hb
theorem Box3.alloc {w0 w : World} {x y z : Value} (h : Box3 w0 x y z w) (o : Obj) : Box3 w0 x y z (w.alloc o) := h.next ((Below.refl _ _).alloc (Nat.le_refl _) _)
theorem Box3.drew {w0 w : World} {x y z : Value} (h : Box3 w0 x y z w) : Box3 w0 x y z w.drew := h.next (Below.refl _ _).drew

theorem lt_of_some {w : World} {b : Nat} {o : Obj} (h : w.heap[b]? = some o) : b < w.heap.size := by
  rcases Nat.lt_or_ge b w.heap.size with g | g
  · exact g
  · rw [Array.getElem?_eq_none g] at h; cases h
theorem ownsRow_below {w w' : World} {B : Nat} {e : TypeId} {v : Value} {n : Nat} {xs : List Value} (h : w.ownsRow B e 1 v n xs) (hb : Below w.heap.size w w') : w'.ownsRow B e 1 v n xs := by
  refine ⟨h.1, ?_⟩
  rcases h.2 with g | ⟨g, cap, cur, h1, h2, h3, rest⟩
  · exact .inl g
  · exact .inr ⟨g, cap, cur, h1, h2, (hb.block g (lt_of_some h3)).trans h3, rest⟩
theorem builderAt_below {T e : TypeId} {B b : Nat} {p : Value} {bs : List Value} {w w' : World} (h : Lib.BuilderAt T e B b p bs w) (hb : Below w.heap.size w w') : Lib.BuilderAt T e B b p bs w' := by
  obtain ⟨h1, v, h2, h3, h4⟩ := h
  exact ⟨h1, v, (hb.block b (lt_of_some h2)).trans h2, ownsRow_below h3 hb, h4⟩
theorem isb_below {T e : TypeId} {B b : Nat} {bs : List Value} {w w' : World} (h : Lib.IsBuilder T e B b bs w) (hb : Below w.heap.size w w') : Lib.IsBuilder T e B b bs w' :=
  h.elim (fun x => .inl (builderAt_below x hb)) (fun x => .inr (builderAt_below x hb))
theorem isb_drew {T e : TypeId} {B b : Nat} {bs : List Value} {w : World} (h : Lib.IsBuilder T e B b bs w) : Lib.IsBuilder T e B b bs w.drew := isb_below h (Below.refl _ _).drew
theorem isb_of {T e : TypeId} {B b : Nat} {p : List UInt8} {s : ByteArray} {w : World} (h : Lib.BuilderAt T e B b (.pointer (some ⟨b, 0, none⟩)) (Lib.byteCells p ++ Lib.byteCells s.data.toList) w) : Lib.IsBuilder T e B b (Lib.byteCells (p ++ s.data.toList)) w := by
  rw [Lib.byteCells_append]; exact .inr h

theorem wrap_id {n : Int} (h1 : -1000000000 ≤ n) (h2 : n ≤ 1000000000) : IntKind.i64.wrap n = n := by
  rw [IntKind.wrap_i64]; omega
theorem writeS (b : Nat) (pre : List UInt8) (T : ByteArray) (w : World) (hI : Lib.IsBuilder 72 5 b b (Lib.byteCells pre) w) (hl : pre.length + T.size ≤ 100000) (hb : b ≤ w.heap.size) :
    Calls Tryz.prog 62 #[.pointer (some ⟨b, 0, none⟩), .string T] w fun e w' => e = .returned (.tuple #[.int .i64 T.size, .nilIface]) ∧ Lib.IsBuilder 72 5 b b (Lib.byteCells (pre ++ T.data.toList)) w' ∧ Below b w w' := by
  refine (Tryz.Builder_WriteString b b _ T w hI (by rw [Lib.byteCells_length]; omega) hb).mono ?_
  rintro e w' ⟨rfl, h1, h2⟩
  exact ⟨rfl, isb_of h1, h2⟩
theorem ret_str {a b : ByteArray} (h : a = b) : Ending.returned (.string a) = .returned (.string b) := by rw [h]
theorem may_b (ng : Bool) (s : ByteArray) (n : Int) (b : Bool) (w : World) (hs : s.size ≤ maxLen) (h : Dm.mayB ng s.data.toList n = b) :
    Calls Tryz.prog 31 #[.agg #[.bool ng, .string s, .int .i64 n]] w fun e w' => e = .returned (.bool b) ∧ Below w.heap.size w w' := by
  have := may_any ng s n w hs
  rw [h] at this; exact this

end Go.Proofs.YtmlmplmghlbdmaaGreatDoor
