/- What is proved here: the document's examples, as the head of all statements of the layer asks them, hold; conditions: none. -/
import Derived.Test.YtijelgmmmceflaaDoorWn
namespace Go.Proofs.YtijelgmmmceflaaDoor
open Go.RowKit
set_option linter.unusedVariables false
set_option linter.unusedSimpArgs false

theorem may_of {ng : Bool} {l : List UInt8} {n : Nat} (h : Dm.mayB ng l n = true) : Dm.May ⟨ng, l, n⟩ := by
  have := (Dm.mayB_iff.1 h).2
  rwa [Int.toNat_natCast] at this
/-- A block of three cells. -/
def Has3 (b : Nat) (x y z : Value) (w : World) : Prop := b < w.heap.size ∧ w.cell? ⟨b, 0, none⟩ = some x ∧ w.cell? ⟨b, 1, none⟩ = some y ∧ w.cell? ⟨b, 2, none⟩ = some z
theorem Has3.start (w : World) (x y z : Value) (t : Nat) : Has3 w.heap.size x y z (w.alloc (.cells #[x, y, z] t)) := ⟨by simp, by go_simp, by go_simp, by go_simp⟩
theorem Has3.next {b : Nat} {x y z : Value} {w w' : World} (h : Has3 b x y z w) (hb : Below w.heap.size w w') : Has3 b x y z w' := by
  obtain ⟨h0, h1, h2, h3⟩ := h
  obtain ⟨hc, _⟩ := bcell hb
  exact ⟨Nat.lt_of_lt_of_le h0 hb.size, by rw [hc _ _ h0]; exact h1, by rw [hc _ _ h0]; exact h2, by rw [hc _ _ h0]; exact h3⟩

theorem ex1 : Dm.parseL [45, 48, 49] = none := by kernel_rfl
theorem ex2 : Dm.parseL [49, 46, 53, 48, 101, 49] = some (some ⟨false, [49, 53], 0⟩) := by kernel_rfl
theorem shown1 (w : World) : Calls Tryd.prog 12 #[.string ⟨#[45, 48, 49]⟩] w fun e w' => e = .returned (.tuple #[.agg #[.bool false, .string ⟨#[]⟩, .int .i64 0], .int .i64 4]) ∧ Below w.heap.size w w' := by
  have := parse_any ⟨#[45, 48, 49]⟩ w (by decide)
  have e : (⟨#[45, 48, 49]⟩ : ByteArray).data.toList = [45, 48, 49] := rfl
  rw [e, ex1] at this
  exact this
theorem shown2 (w : World) : Calls Tryd.prog 12 #[.string ⟨#[49, 46, 53, 48, 101, 49]⟩] w fun e w' => e = .returned (.tuple #[.agg #[.bool false, .string ⟨#[49, 53]⟩, .int .i64 0], .int .i64 0]) ∧ Below w.heap.size w w' := by
  have := parse_any ⟨#[49, 46, 53, 48, 101, 49]⟩ w (by decide)
  have e : (⟨#[49, 46, 53, 48, 101, 49]⟩ : ByteArray).data.toList = [49, 46, 53, 48, 101, 49] := rfl
  rw [e, ex2] at this
  exact this
theorem d1 (c : UInt8) : (⟨#[c]⟩ : ByteArray).data.toList = [c] := rfl
theorem shown3 (w : World) : Calls Tryd.prog 21 #[.agg #[.bool false, .string ⟨#[49]⟩, .int .i64 1], .agg #[.bool false, .string ⟨#[50]⟩, .int .i64 1]] w fun e w' => e = .returned (.tuple #[.agg #[.bool false, .string ⟨#[51]⟩, .int .i64 1], .int .i64 0]) ∧ Below w.heap.size w w' := by
  have := add_same false ⟨#[49]⟩ ⟨#[50]⟩ 1 1 1 w (by decide) (by decide) (by decide) (by decide) (by decide) (by decide) (by intro c hc; rw [d1] at hc; simp at hc; rw [hc]; rfl) (by intro c hc; rw [d1] at hc; simp at hc; rw [hc]; rfl)
  refine this.mono ?_
  rintro e w' ⟨r, rfl, hrep, hb⟩
  have h2 : Dm.Rep (Dm.sgn false (Dm.num (⟨#[49]⟩ : ByteArray).data.toList * 10 ^ (1 - 1) + Dm.num (⟨#[50]⟩ : ByteArray).data.toList * 10 ^ (1 - 1))) 1 (some ⟨false, [51], 1⟩) := ⟨may_of (by decide), by decide⟩
  have hr := hrep.uniq h2
  subst hr
  exact ⟨rfl, hb⟩
theorem shown4 (w : World) : Calls Tryd.prog 25 #[.agg #[.bool true, .string ⟨#[53]⟩, .int .i64 1], .agg #[.bool false, .string ⟨#[52]⟩, .int .i64 0]] w fun e w' => e = .returned (.tuple #[.agg #[.bool true, .string ⟨#[50]⟩, .int .i64 0], .int .i64 0]) ∧ Below w.heap.size w w' := by
  have := mul_walk true false ⟨#[53]⟩ ⟨#[52]⟩ 1 0 w (by decide) (by decide) (by decide) (by decide) (by decide) (by decide) (by decide) (by intro c hc; rw [d1] at hc; simp at hc; rw [hc]; rfl) (by intro c hc; rw [d1] at hc; simp at hc; rw [hc]; rfl)
  refine this.mono ?_
  rintro e w' ⟨r, rfl, hrep, hb⟩
  have h2 : Dm.Rep (Dm.sgn (true != false) (Dm.num (⟨#[53]⟩ : ByteArray).data.toList * Dm.num (⟨#[52]⟩ : ByteArray).data.toList)) (1 + 0) (some ⟨true, [50], 0⟩) := ⟨may_of (by decide), by decide⟩
  have hr := hrep.uniq h2
  subst hr
  exact ⟨rfl, hb⟩
theorem shown5 (w : World) : Calls Tryd.prog 16 #[.agg #[.bool false, .string ⟨#[49, 53]⟩, .int .i64 0]] w fun e w' => e = .returned (.string ⟨#[49, 53]⟩) ∧ Below w.heap.size w w' :=
  print_any ⟨false, [49, 53], 0⟩ w (may_of (by decide))
theorem shown6 (w : World) : Calls Tryd.prog 16 #[.agg #[.bool false, .string ⟨#[51]⟩, .int .i64 1]] w fun e w' => e = .returned (.string ⟨#[48, 46, 51]⟩) ∧ Below w.heap.size w w' :=
  print_any ⟨false, [51], 1⟩ w (may_of (by decide))
theorem shown7 (w : World) : Calls Tryd.prog 16 #[.agg #[.bool true, .string ⟨#[50]⟩, .int .i64 0]] w fun e w' => e = .returned (.string ⟨#[45, 50]⟩) ∧ Below w.heap.size w w' :=
  print_any ⟨true, [50], 0⟩ w (may_of (by decide))

set_option maxRecDepth 100000 in
set_option maxHeartbeats 1000000 in
theorem shown_any (w : World) : Calls Tryd.prog 11 #[] w fun e w' => e = .returned (.bool true) ∧ Below w.heap.size w w' := by
  go_enter Tryd.func11, Tryd.ntmps11
  go_wp2_with fail
  refine (shown1 w).mono ?_
  rintro e w1 ⟨rfl, hb1⟩
  go_wp2_with fail
  refine (shown2 _).mono ?_
  rintro e w2 ⟨rfl, hb2⟩
  have hB2 : Below w.heap.size w w2 := (hb1.alloc hb1.size _).trans (hb2.mono (by have := hb1.size; simp; omega))
  clear hb1 hb2
  have h2 := Has3.start w2 (.bool false) (.string ⟨#[49, 53]⟩) (.int .i64 0) 23
  go_wp2_with fail
  refine (shown3 _).mono ?_
  rintro e w3 ⟨rfl, hb3⟩
  have h2' := h2.next hb3
  have hB3 : Below w.heap.size w w3 := (hB2.alloc hB2.size _).trans (hb3.mono (by have := hB2.size; simp; omega))
  clear h2 hb3 hB2
  have h3 := Has3.start w3 (.bool false) (.string ⟨#[51]⟩) (.int .i64 1) 23
  have h2 := h2'.next ((Below.refl _ _).alloc (Nat.le_refl _) (.cells #[.bool false, .string ⟨#[51]⟩, .int .i64 1] 23))
  clear h2'
  go_wp2_with fail
  refine (shown4 _).mono ?_
  rintro e w4 ⟨rfl, hb4⟩
  have h2' := h2.next hb4
  have h3' := h3.next hb4
  have hB4 : Below w.heap.size w w4 := (hB3.alloc hB3.size _).trans (hb4.mono (by have := hB3.size; simp; omega))
  clear h2 h3 hb4 hB3
  have h4 := Has3.start w4 (.bool true) (.string ⟨#[50]⟩) (.int .i64 0) 23
  have h2 := h2'.next ((Below.refl _ _).alloc (Nat.le_refl _) (.cells #[.bool true, .string ⟨#[50]⟩, .int .i64 0] 23))
  have h3 := h3'.next ((Below.refl _ _).alloc (Nat.le_refl _) (.cells #[.bool true, .string ⟨#[50]⟩, .int .i64 0] 23))
  clear h2' h3'
  obtain ⟨_, a0, a1, a2⟩ := id h2
  go_wp2_with fail
  refine (shown5 _).mono ?_
  rintro e w5 ⟨rfl, hb5⟩
  have h3' := h3.next hb5
  have h4' := h4.next hb5
  have hB5 : Below w.heap.size w w5 := (hB4.alloc hB4.size _).trans (hb5.mono (by have := hB4.size; simp; omega))
  clear h2 h3 h4 hb5 hB4 a0 a1 a2
  obtain ⟨_, b0, b1, b2⟩ := id h3'
  go_wp2_with fail
  refine (shown6 _).mono ?_
  rintro e w6 ⟨rfl, hb6⟩
  have h4 := h4'.next hb6
  have hB6 : Below w.heap.size w w6 := hB5.trans (hb6.mono hB5.size)
  clear h3' h4' hb6 hB5 b0 b1 b2
  obtain ⟨_, e0, e1, e2⟩ := id h4
  go_wp2_with fail
  refine (shown7 _).mono ?_
  rintro e w7 ⟨rfl, hb7⟩
  have hB7 : Below w.heap.size w w7 := hB6.trans (hb7.mono hB6.size)
  clear h4 hb7 hB6 e0 e1 e2
  go_wp2
  go_ret
  exact ⟨rfl, hB7⟩
end Go.Proofs.YtijelgmmmceflaaDoor
