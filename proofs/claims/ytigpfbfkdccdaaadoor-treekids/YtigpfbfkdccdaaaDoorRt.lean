/- What is proved here: the parts of what a call of two results hands back, and the block of a struct that is handed back; conditions: as each theorem states. -/
import Derived.Test.YtigpfbfkdccdaaaDoorWa
namespace Go.Proofs.YtigpfbfkdccdaaaDoor
open Go.RowKit
set_option linter.unusedVariables false
set_option linter.unusedSimpArgs false

/-- The parts of what a call hands back. -/
def rx : Option Dm.D → Bool | some d => d.ng | none => false
def ry : Option Dm.D → ByteArray | some d => ⟨d.ds.toArray⟩ | none => ⟨#[]⟩
def rz : Option Dm.D → Int | some d => d.sc | none => 0
def re : Option Dm.D → Int | some _ => 0 | none => 3
def tV (r : Option Dm.D) : Value := .tuple #[.agg #[.bool (rx r), .string (ry r), .int .i64 (rz r)], .int .i64 (re r)]
theorem bcell {W w1 : World} (hb : Below W.heap.size W w1) : (∀ b o, b < W.heap.size → w1.cell? ⟨b, o, none⟩ = W.cell? ⟨b, o, none⟩) ∧ (∀ b o, b < W.heap.size → w1.frozen? ⟨b, o, none⟩ = W.frozen? ⟨b, o, none⟩) :=
  ⟨fun b o h => hb.cell (p := ⟨b, o, none⟩) h, fun b o h => hb.frozen (p := ⟨b, o, none⟩) h⟩

/-- The block of a result, the first that a call has laid, holds nothing yet; what was there before is as it was. -/
def Own (w0 w : World) : Prop :=
  Below w0.heap.size w0 w ∧ w0.heap.size < w.heap.size ∧ (w.cell? ⟨w0.heap.size, 0, none⟩ = some (.bool false) ∧ w.cell? ⟨w0.heap.size, 1, none⟩ = some (.string ⟨#[]⟩) ∧ w.cell? ⟨w0.heap.size, 2, none⟩ = some (.int .i64 0)) ∧
  (w.frozen? ⟨w0.heap.size, 0, none⟩ = false ∧ w.frozen? ⟨w0.heap.size, 1, none⟩ = false ∧ w.frozen? ⟨w0.heap.size, 2, none⟩ = false)
theorem Own.start (w : World) : Own w (w.alloc (.cells #[.bool false, .string ⟨#[]⟩, .int .i64 0] 24)) :=
  ⟨(Below.refl _ _).alloc (Nat.le_refl _) _, by simp, ⟨by go_simp, by go_simp, by go_simp⟩, ⟨by go_simp, by go_simp, by go_simp⟩⟩
theorem Own.step {w0 w w' : World} (h : Own w0 w) (hb : Below w.heap.size w w') : Own w0 w' := by
  obtain ⟨h1, h2, ⟨a, b, c⟩, ⟨d, e, f⟩⟩ := h
  obtain ⟨hc, hf⟩ := bcell hb
  refine ⟨h1.trans (hb.mono (by omega)), Nat.lt_of_lt_of_le h2 hb.size, ⟨?_, ?_, ?_⟩, ⟨?_, ?_, ?_⟩⟩
  · rw [hc _ _ h2]; exact a
  · rw [hc _ _ h2]; exact b
  · rw [hc _ _ h2]; exact c
  · rw [hf _ _ h2]; exact d
  · rw [hf _ _ h2]; exact e
  · rw [hf _ _ h2]; exact f
theorem Own.drew {w0 w : World} (h : Own w0 w) : Own w0 w.drew := h.step (Below.refl _ _).drew
theorem Own.facts {w0 w : World} (h : Own w0 w) : w.cell? ⟨w0.heap.size, 0, none⟩ = some (.bool false) ∧ w.cell? ⟨w0.heap.size, 1, none⟩ = some (.string ⟨#[]⟩) ∧ w.cell? ⟨w0.heap.size, 2, none⟩ = some (.int .i64 0) ∧
  w.frozen? ⟨w0.heap.size, 0, none⟩ = false ∧ w.frozen? ⟨w0.heap.size, 1, none⟩ = false ∧ w.frozen? ⟨w0.heap.size, 2, none⟩ = false :=
  ⟨h.2.2.1.1, h.2.2.1.2.1, h.2.2.1.2.2, h.2.2.2.1, h.2.2.2.2.1, h.2.2.2.2.2⟩
theorem Own.end {w0 w : World} (h : Own w0 w) (x y z : Value) : Below w0.heap.size w0 (((w.setCell ⟨w0.heap.size, 0, none⟩ x).setCell ⟨w0.heap.size, 1, none⟩ y).setCell ⟨w0.heap.size, 2, none⟩ z) :=
  ((h.1.setCell (Nat.le_refl _) _).setCell (Nat.le_refl _) _).setCell (Nat.le_refl _) _

/-- Two boxed structs of three cells, the first blocks that a call has laid; what was there before is as it was. -/
def Two (w0 : World) (a b c x y z : Value) (w : World) : Prop :=
  Below w0.heap.size w0 w ∧ w0.heap.size + 1 < w.heap.size ∧ (w.cell? ⟨w0.heap.size, 0, none⟩ = some a ∧ w.cell? ⟨w0.heap.size, 1, none⟩ = some b ∧ w.cell? ⟨w0.heap.size, 2, none⟩ = some c) ∧
  (w.cell? ⟨w0.heap.size + 1, 0, none⟩ = some x ∧ w.cell? ⟨w0.heap.size + 1, 1, none⟩ = some y ∧ w.cell? ⟨w0.heap.size + 1, 2, none⟩ = some z)
theorem Two.start (w : World) (a b c x y z : Value) (t : Nat) : Two w a b c x y z ((w.alloc (.cells #[a, b, c] t)).alloc (.cells #[x, y, z] t)) :=
  ⟨((Below.refl _ _).alloc (Nat.le_refl _) _).alloc (by simp) _, by simp, ⟨by go_simp, by go_simp, by go_simp⟩, ⟨by go_simp, by go_simp, by go_simp⟩⟩
theorem Two.step {w0 w w' : World} {a b c x y z : Value} {B : Nat} (h : Two w0 a b c x y z w) (hB : w0.heap.size + 1 < B) (hb : Below B w w') : Two w0 a b c x y z w' := by
  obtain ⟨h1, h2, ⟨p, q, r⟩, ⟨s, t, u⟩⟩ := h
  refine ⟨h1.trans (hb.mono (by omega)), Nat.lt_of_lt_of_le h2 hb.size, ⟨?_, ?_, ?_⟩, ⟨?_, ?_, ?_⟩⟩
  · rw [hb.cell (p := ⟨w0.heap.size, 0, none⟩) (by show w0.heap.size < B; omega)]; exact p
  · rw [hb.cell (p := ⟨w0.heap.size, 1, none⟩) (by show w0.heap.size < B; omega)]; exact q
  · rw [hb.cell (p := ⟨w0.heap.size, 2, none⟩) (by show w0.heap.size < B; omega)]; exact r
  · rw [hb.cell (p := ⟨w0.heap.size + 1, 0, none⟩) (by show w0.heap.size + 1 < B; omega)]; exact s
  · rw [hb.cell (p := ⟨w0.heap.size + 1, 1, none⟩) (by show w0.heap.size + 1 < B; omega)]; exact t
  · rw [hb.cell (p := ⟨w0.heap.size + 1, 2, none⟩) (by show w0.heap.size + 1 < B; omega)]; exact u
theorem Two.next {w0 w w' : World} {a b c x y z : Value} (h : Two w0 a b c x y z w) (hb : Below w.heap.size w w') : Two w0 a b c x y z w' := h.step h.2.1 hb
theorem Two.alloc {w0 w : World} {a b c x y z : Value} (h : Two w0 a b c x y z w) (o : Obj) : Two w0 a b c x y z (w.alloc o) := h.next ((Below.refl _ _).alloc (Nat.le_refl _) _)
theorem Two.drew {w0 w : World} {a b c x y z : Value} (h : Two w0 a b c x y z w) : Two w0 a b c x y z w.drew := h.next (Below.refl _ _).drew
theorem Two.drewN {w0 w : World} {a b c x y z : Value} (h : Two w0 a b c x y z w) (n : Nat) : Two w0 a b c x y z (w.drewN n) := h.next (below_drewN (Below.refl _ _) n)

theorem mk_size (l : List UInt8) : (⟨l.toArray⟩ : ByteArray).size = l.length := by simp [ByteArray.size]
theorem mk_list (l : List UInt8) : (⟨l.toArray⟩ : ByteArray).data.toList = l := rfl
/-- A decimal that may be, as it is handed in. -/
theorem dV_may {d : Dm.D} (h : Dm.May d) : Dm.mayB d.ng (⟨d.ds.toArray⟩ : ByteArray).data.toList (d.sc : Int) = true := by
  rw [mk_list, Dm.mayB_iff]
  exact ⟨by omega, by rw [Int.toNat_natCast]; exact h⟩
theorem may_len {d : Dm.D} (h : Dm.May d) : 1 ≤ d.ds.length ∧ d.ds.length ≤ 60 ∧ d.sc ≤ 60 := by
  obtain ⟨_, h2, h3, h4⟩ := h
  refine ⟨?_, h2, h3⟩
  rcases h4 with ⟨e, _⟩ | ⟨⟨c, t, e, _⟩, _⟩ <;> rw [e] <;> simp
/-- Two boxed structs and the block of a result, the first blocks that a call has laid. -/
def Tri (w0 : World) (a b c x y z : Value) (w : World) : Prop :=
  Two w0 a b c x y z w ∧ w0.heap.size + 2 < w.heap.size ∧ (w.cell? ⟨w0.heap.size + 2, 0, none⟩ = some (.bool false) ∧ w.cell? ⟨w0.heap.size + 2, 1, none⟩ = some (.string ⟨#[]⟩) ∧ w.cell? ⟨w0.heap.size + 2, 2, none⟩ = some (.int .i64 0)) ∧
  (w.frozen? ⟨w0.heap.size + 2, 0, none⟩ = false ∧ w.frozen? ⟨w0.heap.size + 2, 1, none⟩ = false ∧ w.frozen? ⟨w0.heap.size + 2, 2, none⟩ = false)
theorem Tri.start (w : World) (a b c x y z : Value) (t : Nat) : Tri w a b c x y z (((w.alloc (.cells #[a, b, c] t)).alloc (.cells #[x, y, z] t)).alloc (.cells #[.bool false, .string ⟨#[]⟩, .int .i64 0] 24)) :=
  ⟨(Two.start w a b c x y z t).alloc _, by simp, ⟨by go_simp, by go_simp, by go_simp⟩, ⟨by go_simp, by go_simp, by go_simp⟩⟩
theorem Tri.next {w0 w w' : World} {a b c x y z : Value} (h : Tri w0 a b c x y z w) (hb : Below w.heap.size w w') : Tri w0 a b c x y z w' := by
  obtain ⟨h1, h2, ⟨p, q, r⟩, ⟨s, t, u⟩⟩ := h
  obtain ⟨hc, hf⟩ := bcell hb
  refine ⟨h1.next hb, Nat.lt_of_lt_of_le h2 hb.size, ⟨?_, ?_, ?_⟩, ⟨?_, ?_, ?_⟩⟩
  · rw [hc _ _ h2]; exact p
  · rw [hc _ _ h2]; exact q
  · rw [hc _ _ h2]; exact r
  · rw [hf _ _ h2]; exact s
  · rw [hf _ _ h2]; exact t
  · rw [hf _ _ h2]; exact u
theorem Tri.drew {w0 w : World} {a b c x y z : Value} (h : Tri w0 a b c x y z w) : Tri w0 a b c x y z w.drew := h.next (Below.refl _ _).drew
theorem Tri.cells {w0 w : World} {a b c x y z : Value} (h : Tri w0 a b c x y z w) : (w.cell? ⟨w0.heap.size, 0, none⟩ = some a ∧ w.cell? ⟨w0.heap.size, 1, none⟩ = some b ∧ w.cell? ⟨w0.heap.size, 2, none⟩ = some c) ∧
  (w.cell? ⟨w0.heap.size + 1, 0, none⟩ = some x ∧ w.cell? ⟨w0.heap.size + 1, 1, none⟩ = some y ∧ w.cell? ⟨w0.heap.size + 1, 2, none⟩ = some z) := h.1.2.2
theorem Tri.out {w0 w : World} {a b c x y z : Value} (h : Tri w0 a b c x y z w) : (w.cell? ⟨w0.heap.size + 1 + 1, 0, none⟩ = some (.bool false) ∧ w.cell? ⟨w0.heap.size + 1 + 1, 1, none⟩ = some (.string ⟨#[]⟩) ∧ w.cell? ⟨w0.heap.size + 1 + 1, 2, none⟩ = some (.int .i64 0)) ∧
  (w.frozen? ⟨w0.heap.size + 1 + 1, 0, none⟩ = false ∧ w.frozen? ⟨w0.heap.size + 1 + 1, 1, none⟩ = false ∧ w.frozen? ⟨w0.heap.size + 1 + 1, 2, none⟩ = false) := ⟨h.2.2.1, h.2.2.2⟩
theorem Tri.end {w0 w : World} {a b c x y z : Value} (h : Tri w0 a b c x y z w) (p q r : Value) : Below w0.heap.size w0 (((w.setCell ⟨w0.heap.size + 1 + 1, 0, none⟩ p).setCell ⟨w0.heap.size + 1 + 1, 1, none⟩ q).setCell ⟨w0.heap.size + 1 + 1, 2, none⟩ r) :=
  ((h.1.1.setCell (by show w0.heap.size ≤ w0.heap.size + 1 + 1; omega) _).setCell (by show w0.heap.size ≤ w0.heap.size + 1 + 1; omega) _).setCell (by show w0.heap.size ≤ w0.heap.size + 1 + 1; omega) _

theorem Two.store {w0 w : World} {a b c x y z : Value} (h : Two w0 a b c x y z w) (p q r : Value) : Two w0 a b c x y z (((w.setCell ⟨w0.heap.size + 1 + 1, 0, none⟩ p).setCell ⟨w0.heap.size + 1 + 1, 1, none⟩ q).setCell ⟨w0.heap.size + 1 + 1, 2, none⟩ r) :=
  h.step (B := w0.heap.size + 1 + 1) (by omega) ((((Below.refl (w0.heap.size + 1 + 1) w).setCell (by show w0.heap.size + 1 + 1 ≤ w0.heap.size + 1 + 1; omega) _).setCell (by show w0.heap.size + 1 + 1 ≤ w0.heap.size + 1 + 1; omega) _).setCell (by show w0.heap.size + 1 + 1 ≤ w0.heap.size + 1 + 1; omega) _)
theorem sum_up {x x2 : Bool} {A B z z2 n : Nat} {r : Option Dm.D} (hn : max (z : Int) (z2 : Int) = (n : Int)) (h : Dm.Rep (Dm.sgn x (A * 10 ^ (n - z)) + Dm.sgn x2 (B * 10 ^ (n - z2))) n r) :
    Dm.Rep (Dm.sgn x A * Dm.p10 z2 + Dm.sgn x2 B * Dm.p10 z) (z + z2) r := by
  have hu := (Dm.Rep.up (z + z2 - n)).2 h
  have e1 : n + (z + z2 - n) = z + z2 := by omega
  rw [e1, Int.add_mul, Dm.sgn_mul, Dm.sgn_mul, Int.mul_assoc, Int.mul_assoc] at hu
  have e2 : ((10 ^ (n - z) : Nat) : Int) * Dm.p10 (z + z2 - n) = Dm.p10 z2 := by
    show Dm.p10 (n - z) * _ = _
    rw [← Dm.p10_add]; congr 1; omega
  have e3 : ((10 ^ (n - z2) : Nat) : Int) * Dm.p10 (z + z2 - n) = Dm.p10 z := by
    show Dm.p10 (n - z2) * _ = _
    rw [← Dm.p10_add]; congr 1; omega
  rw [e2, e3] at hu
  exact hu
/-- Add of decimals that may be. -/
theorem turn_may {x : Bool} {y : List UInt8} {z : Nat} (h : Dm.May ⟨x, y, z⟩) (hne : y ≠ [48]) : Dm.May ⟨!x, y, z⟩ ∧ Dm.sg ⟨!x, y, z⟩ = - Dm.sg ⟨x, y, z⟩ := by
  obtain ⟨h1, h2, h3, h4⟩ := h
  refine ⟨⟨h1, h2, h3, ?_⟩, ?_⟩
  · rcases h4 with ⟨e, _⟩ | e
    · exact absurd e hne
    · exact .inr e
  · unfold Dm.sg Dm.sgn; cases x <;> simp
theorem zero_sg {x : Bool} {z : Nat} : Dm.sg ⟨x, [48], z⟩ = 0 := by unfold Dm.sg Dm.sgn; cases x <;> rfl
theorem bytes_ne {y : List UInt8} (h : y ≠ [48]) : (⟨y.toArray⟩ : ByteArray) ≠ ⟨#[48]⟩ := by
  intro e
  apply h
  have := congrArg (fun b : ByteArray => b.data.toList) e
  exact this

theorem sgn_mul_pos {a p : Int} (hp : 0 < p) : (a * p < 0 ↔ a < 0) ∧ (0 < a * p ↔ 0 < a) := by
  rcases Int.lt_trichotomy a 0 with h | h | h
  · have := Int.mul_neg_of_neg_of_pos h hp
    omega
  · subst h; simp
  · have := Int.mul_pos h hp
    omega
def sgI (z : Int) : Int := if z < 0 then -1 else if 0 < z then 1 else 0
theorem sgI_neg (z : Int) : sgI (-z) = - sgI z := by
  unfold sgI
  rcases Int.lt_trichotomy z 0 with h | h | h
  · rw [if_neg (by omega), if_pos (by omega), if_pos h]; rfl
  · subst h; rfl
  · rw [if_pos (by omega), if_neg (by omega), if_pos h]
theorem sgI_pos {z p : Int} (hp : 0 < p) : sgI (z * p) = sgI z := by
  have := sgn_mul_pos (a := z) hp
  unfold sgI
  simp only [this.1, this.2]
theorem sgI_scaled {x x2 : Bool} {A B z z2 n : Nat} (hn : max (z : Int) (z2 : Int) = (n : Int)) : sgI (Dm.sgn x A * Dm.p10 z2 - Dm.sgn x2 B * Dm.p10 z) = sgI (Dm.sgn x (A * 10 ^ (n - z)) - Dm.sgn x2 (B * 10 ^ (n - z2))) := by
  have e2 : ((10 ^ (n - z) : Nat) : Int) * Dm.p10 (z + z2 - n) = Dm.p10 z2 := by
    show Dm.p10 (n - z) * _ = _
    rw [← Dm.p10_add]; congr 1; omega
  have e3 : ((10 ^ (n - z2) : Nat) : Int) * Dm.p10 (z + z2 - n) = Dm.p10 z := by
    show Dm.p10 (n - z2) * _ = _
    rw [← Dm.p10_add]; congr 1; omega
  rw [← sgI_pos (z := Dm.sgn x (A * 10 ^ (n - z)) - Dm.sgn x2 (B * 10 ^ (n - z2))) (Dm.p10_pos (z + z2 - n)), Int.sub_mul, Dm.sgn_mul, Dm.sgn_mul, Int.mul_assoc, Int.mul_assoc, e2, e3]
end Go.Proofs.YtigpfbfkdccdaaaDoor
