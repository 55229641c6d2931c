/- What is proved here: small blocks that are written anew, and what Parse and Mul do, in the words of their answers; conditions: as each theorem states. -/
import Derived.Test.YtmlmplmghlbdmaaGreatDoorWp
import Derived.Test.YtmlmplmghlbdmaaGreatDoorM
namespace Go.Proofs.YtmlmplmghlbdmaaGreatDoor
open Go.RowKit
set_option linter.unusedVariables false
set_option linter.unusedSimpArgs false

/-- A block of three cells that may be written. -/
def Own3 (b : Nat) (x y z : Value) (w : World) : Prop := Has3 b x y z w ∧ w.frozen? ⟨b, 0, none⟩ = false ∧ w.frozen? ⟨b, 1, none⟩ = false ∧ w.frozen? ⟨b, 2, none⟩ = false
theorem Own3.start (w : World) (x y z : Value) (t : Nat) : Own3 w.heap.size x y z (w.alloc (.cells #[x, y, z] t)) :=
  ⟨Has3.start w x y z t, frozen_made w _ t 0, frozen_made w _ t 1, frozen_made w _ t 2⟩
theorem Own3.next {b : Nat} {x y z : Value} {w w' : World} (h : Own3 b x y z w) (hb : Below w.heap.size w w') : Own3 b x y z w' := by
  obtain ⟨h0, f0, f1, f2⟩ := h
  obtain ⟨_, hf⟩ := bcell hb
  exact ⟨h0.next hb, by rw [hf _ _ h0.1]; exact f0, by rw [hf _ _ h0.1]; exact f1, by rw [hf _ _ h0.1]; exact f2⟩
def set3 (w : World) (b : Nat) (p q r : Value) : World := ((w.setCell ⟨b, 0, none⟩ p).setCell ⟨b, 1, none⟩ q).setCell ⟨b, 2, none⟩ r
theorem set3_size (w : World) (b : Nat) (p q r : Value) : (set3 w b p q r).heap.size = w.heap.size := by simp [set3, World.setCell]
theorem Own3.store {b : Nat} {x y z : Value} {w : World} (h : Own3 b x y z w) (p q r : Value) : Own3 b p q r (set3 w b p q r) := by
  obtain ⟨⟨h0, a0, a1, a2⟩, f0, f1, f2⟩ := h
  have n01 : (⟨b, 0, none⟩ : Addr) ≠ ⟨b, 1, none⟩ := by intro q; injection q with _ q2; cases q2
  have n02 : (⟨b, 0, none⟩ : Addr) ≠ ⟨b, 2, none⟩ := by intro q; injection q with _ q2; cases q2
  have n12 : (⟨b, 1, none⟩ : Addr) ≠ ⟨b, 2, none⟩ := by intro q; injection q with _ q2; cases q2
  refine ⟨⟨by rw [set3_size]; exact h0, ?_, ?_, ?_⟩, ?_, ?_, ?_⟩
  · unfold set3
    rw [World.cell?_setCell_other (h := n02.symm), World.cell?_setCell_other (h := n01.symm), World.cell?_setCell_same (h := a0)]
  · unfold set3
    rw [World.cell?_setCell_other (h := n12.symm), World.cell?_setCell_same (u := y)]
    rw [World.cell?_setCell_other (h := n01)]; exact a1
  · unfold set3
    rw [World.cell?_setCell_same (u := z)]
    rw [World.cell?_setCell_other (h := n12), World.cell?_setCell_other (h := n02)]; exact a2
  · unfold set3; rw [World.frozen?_setCell, World.frozen?_setCell, World.frozen?_setCell]; exact f0
  · unfold set3; rw [World.frozen?_setCell, World.frozen?_setCell, World.frozen?_setCell]; exact f1
  · unfold set3; rw [World.frozen?_setCell, World.frozen?_setCell, World.frozen?_setCell]; exact f2
theorem set3_cell (w : World) (a b i : Nat) (p q r : Value) (h : a ≠ b) : (set3 w b p q r).cell? ⟨a, i, none⟩ = w.cell? ⟨a, i, none⟩ := by
  have n : ∀ j, (⟨b, j, none⟩ : Addr) ≠ ⟨a, i, none⟩ := by intro j q; injection q with q1; exact h q1.symm
  unfold set3
  rw [World.cell?_setCell_other (h := n 2), World.cell?_setCell_other (h := n 1), World.cell?_setCell_other (h := n 0)]
theorem Has3.store {a b : Nat} {x y z : Value} {w : World} (h : Has3 a x y z w) (hab : a ≠ b) (p q r : Value) : Has3 a x y z (set3 w b p q r) := by
  obtain ⟨h0, a0, a1, a2⟩ := h
  exact ⟨by rw [set3_size]; exact h0, by rw [set3_cell _ _ _ _ _ _ _ hab]; exact a0, by rw [set3_cell _ _ _ _ _ _ _ hab]; exact a1, by rw [set3_cell _ _ _ _ _ _ _ hab]; exact a2⟩
theorem Own3.store_other {a b : Nat} {x y z : Value} {w : World} (h : Own3 a x y z w) (hab : a ≠ b) (p q r : Value) : Own3 a x y z (set3 w b p q r) := by
  obtain ⟨h0, f0, f1, f2⟩ := h
  refine ⟨h0.store hab p q r, ?_, ?_, ?_⟩
  · unfold set3; rw [World.frozen?_setCell, World.frozen?_setCell, World.frozen?_setCell]; exact f0
  · unfold set3; rw [World.frozen?_setCell, World.frozen?_setCell, World.frozen?_setCell]; exact f1
  · unfold set3; rw [World.frozen?_setCell, World.frozen?_setCell, World.frozen?_setCell]; exact f2
theorem set3_below {B b : Nat} {w0 w : World} (h : Below B w0 w) (hb : B ≤ b) (p q r : Value) : Below B w0 (set3 w b p q r) :=
  ((h.setCell (p := ⟨b, 0, none⟩) hb _).setCell (p := ⟨b, 1, none⟩) hb _).setCell (p := ⟨b, 2, none⟩) hb _

theorem join2 (a b : List UInt8) : (⟨a.toArray⟩ ++ ⟨b.toArray⟩ : ByteArray) = ⟨(a ++ b).toArray⟩ := by rw [← ByteArray.mk_append_mk]
theorem join_e (pl : List UInt8) (x : UInt8) : ((⟨pl.toArray⟩ ++ ⟨#[101]⟩ ++ ⟨#[x]⟩ : ByteArray)) = ⟨(pl ++ [101, x]).toArray⟩ := by
  rw [show (⟨#[101]⟩ : ByteArray) = ⟨[101].toArray⟩ from rfl, show (⟨#[x]⟩ : ByteArray) = ⟨[x].toArray⟩ from rfl, join2, join2, List.append_assoc]; rfl
theorem conv_one (x : UInt8) (W : World) : (convert 38 9 (.slice (some ⟨W.heap.size, 0, none⟩) 1 1)).run Tryz.prog (W.alloc (.cells #[.int .u8 (x.toNat : Int)] 5)) = .ok (.string ⟨#[x]⟩) (W.alloc (.cells #[.int .u8 (x.toNat : Int)] 5)) :=
  conv_row _ 0 1 1 [x] _ rfl (fun i hi => by
    have : i = 0 := by simpa using hi
    subst this
    go_simp)
theorem parse_r (s : ByteArray) (r : Option Dm.D) (w : World) (hs : s.size ≤ 100000) (h : Dm.parseL s.data.toList = some r) :
    Calls Tryz.prog 70 #[.string s] w fun e w' => e = .returned (.tuple #[.agg #[.bool (rx r), .string (ry r), .int .i64 (rz r)], .int .i64 (re r)]) ∧ Below w.heap.size w w' := by
  have := parse_any s w hs
  rw [h] at this
  have e : pV (some r) = tV r := rV_tV r
  rw [e] at this; exact this
/-- Mul of decimals that may be. -/
theorem mul_r (a b : Dm.D) (w : World) (ha : Dm.May a) (hb : Dm.May b) :
    Calls Tryz.prog 52 #[.agg #[.bool a.ng, .string ⟨a.ds.toArray⟩, .int .i64 (a.sc : Int)], .agg #[.bool b.ng, .string ⟨b.ds.toArray⟩, .int .i64 (b.sc : Int)]] w fun e w' => ∃ r, e = .returned (.tuple #[.agg #[.bool (rx r), .string (ry r), .int .i64 (rz r)], .int .i64 (re r)]) ∧ Dm.Rep (Dm.sg a * Dm.sg b) (a.sc + b.sc) r ∧ Below w.heap.size w w' := by
  obtain ⟨a1, a2, a3⟩ := may_len ha
  obtain ⟨b1, b2, b3⟩ := may_len hb
  refine (mul_walk a.ng b.ng ⟨a.ds.toArray⟩ ⟨b.ds.toArray⟩ a.sc b.sc w (dV_may ha) (dV_may hb) (by rw [mk_size]; exact a1) (by rw [mk_size]; exact a2) (by rw [mk_size]; exact b2) a3 b3 (by rw [mk_list]; exact ha.1) (by rw [mk_list]; exact hb.1)).mono ?_
  rintro e w' ⟨r, rfl, hr, hB⟩
  refine ⟨r, rfl, ?_, hB⟩
  rw [mk_list, mk_list] at hr
  have e : Dm.sgn (a.ng != b.ng) (Dm.num a.ds * Dm.num b.ds) = Dm.sg a * Dm.sg b := by
    unfold Dm.sg Dm.sgn
    cases a.ng <;> cases b.ng <;> simp [Int.neg_mul, Int.mul_neg]
  rw [e] at hr; exact hr
theorem ten_may : Dm.May ⟨false, [49, 48], 0⟩ := ⟨by intro c h; simp at h; rcases h with rfl | rfl <;> rfl, by simp, by simp, .inr ⟨⟨49, [48], rfl, by decide⟩, .inl rfl⟩⟩
theorem mul_ten (x : Bool) (y : List UInt8) (z : Nat) (q : Int) (s : Nat) (w : World) (hr : Dm.Rep q s (some ⟨x, y, z⟩)) :
    Calls Tryz.prog 52 #[.agg #[.bool x, .string ⟨y.toArray⟩, .int .i64 (z : Int)], .agg #[.bool false, .string ⟨#[49, 48]⟩, .int .i64 0]] w fun e w' => ∃ r, e = .returned (.tuple #[.agg #[.bool (rx r), .string (ry r), .int .i64 (rz r)], .int .i64 (re r)]) ∧ Dm.Rep (Dm.sg ⟨x, y, z⟩ * 10) z r ∧ Below w.heap.size w w' := by
  refine (mul_r ⟨x, y, z⟩ ⟨false, [49, 48], 0⟩ w hr.1 ten_may).mono ?_
  rintro e w' ⟨r, rfl, h, hB⟩
  exact ⟨r, rfl, h, hB⟩
end Go.Proofs.YtmlmplmghlbdmaaGreatDoor
