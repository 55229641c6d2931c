/- What is proved here: what Floor, Ceil and Round of package divide do with a decimal that may be, walked; condition: the table of powers of ten lies in the world. -/
import Derived.Test.YtmlmplmghlbdmaaGreatDoorDo
namespace Go.Proofs.YtmlmplmghlbdmaaGreatDoor
open Go.RowKit
set_option linter.unusedVariables false
set_option linter.unusedSimpArgs false

theorem whole_b (x : Bool) (y : List UInt8) (z : Nat) (far : Bool) (w : World) (h : Dm.May ⟨x, y, z⟩) (hfz : 0 < z ∨ far = false) (htab : Pow w) :
    Calls Tryz.prog 47 #[.agg #[.bool x, .string ⟨y.toArray⟩, .int .i64 (z : Int)], .bool far] w fun e w' => ∃ r, e = .returned (.tuple #[.agg #[.bool (rx r), .string (ry r), .int .i64 (rz r)], .int .i64 (re r)]) ∧ Hid (Dm.Rep (Dm.sgn x (Dm.num y / 10 ^ z + far.toNat)) 0 r) ∧ Below w.heap.size w w' := by
  refine (whole_r x y z far w h hfz htab).mono ?_
  rintro e w' ⟨r, rfl, hr, hB⟩
  exact ⟨r, rfl, hide hr, hB⟩
theorem half_b (x : Bool) (y : List UInt8) (z : Nat) (b : Bool) (w : World) (h : Dm.May ⟨x, y, z⟩) (hb : Hid ((decide (0 < z) && (decide (z ≤ y.length) && decide (53 ≤ (y.getD (y.length - z) 0).toNat))) = b)) :
    Calls Tryz.prog 50 #[.agg #[.bool x, .string ⟨y.toArray⟩, .int .i64 (z : Int)]] w fun e w' => e = .returned (.bool b) ∧ Below w.heap.size w w' := by
  have := half_any x y z w h
  rw [unhide hb] at this
  exact this
/-- A decimal that is handed in, and the block of the result. -/
def Pair3 (w0 : World) (x y z : Value) (w : World) : Prop := Box3 w0 x y z w ∧ Own3 (w0.heap.size + 1) (.bool false) (.string ⟨#[]⟩) (.int .i64 0) w
theorem Pair3.start (w : World) (x y z : Value) (t : Nat) : Pair3 w x y z ((w.alloc (.cells #[x, y, z] t)).alloc (.cells #[.bool false, .string ⟨#[]⟩, .int .i64 0] 23)) := by
  refine ⟨(Box3.start w x y z t).alloc _, ?_⟩
  have := Own3.start (w.alloc (.cells #[x, y, z] t)) (.bool false) (.string ⟨#[]⟩) (.int .i64 0) 23
  have hsz : (w.alloc (.cells #[x, y, z] t)).heap.size = w.heap.size + 1 := by simp
  rw [hsz] at this
  exact this
theorem Pair3.next {w0 w w' : World} {x y z : Value} (h : Pair3 w0 x y z w) (hb : Below w.heap.size w w') : Pair3 w0 x y z w' := ⟨h.1.next hb, h.2.next hb⟩
theorem Pair3.drew {w0 w : World} {x y z : Value} (h : Pair3 w0 x y z w) : Pair3 w0 x y z w.drew := h.next (Below.refl _ _).drew
theorem Pair3.cells {w0 w : World} {x y z : Value} (h : Pair3 w0 x y z w) : w.cell? ⟨w0.heap.size, 0, none⟩ = some x ∧ w.cell? ⟨w0.heap.size, 1, none⟩ = some y ∧ w.cell? ⟨w0.heap.size, 2, none⟩ = some z := h.1.2.2
theorem Pair3.out {w0 w : World} {x y z : Value} (h : Pair3 w0 x y z w) : (w.cell? ⟨w0.heap.size + 1, 0, none⟩ = some (.bool false) ∧ w.cell? ⟨w0.heap.size + 1, 1, none⟩ = some (.string ⟨#[]⟩) ∧ w.cell? ⟨w0.heap.size + 1, 2, none⟩ = some (.int .i64 0)) ∧
  (w.frozen? ⟨w0.heap.size + 1, 0, none⟩ = false ∧ w.frozen? ⟨w0.heap.size + 1, 1, none⟩ = false ∧ w.frozen? ⟨w0.heap.size + 1, 2, none⟩ = false) := ⟨h.2.1.2, h.2.2⟩
theorem Pair3.end {w0 w : World} {x y z : Value} (h : Pair3 w0 x y z w) (p q r : Value) : Below w0.heap.size w0 (((w.setCell ⟨w0.heap.size + 1, 0, none⟩ p).setCell ⟨w0.heap.size + 1, 1, none⟩ q).setCell ⟨w0.heap.size + 1, 2, none⟩ r) := set3_below h.1.1 (by omega) p q r
theorem Pair3.cells_s {w0 w : World} {x y z : Value} (h : Pair3 w0 x y z w) (p q r : Value) : (((w.setCell ⟨w0.heap.size + 1, 0, none⟩ p).setCell ⟨w0.heap.size + 1, 1, none⟩ q).setCell ⟨w0.heap.size + 1, 2, none⟩ r).cell? ⟨w0.heap.size, 0, none⟩ = some x ∧ (((w.setCell ⟨w0.heap.size + 1, 0, none⟩ p).setCell ⟨w0.heap.size + 1, 1, none⟩ q).setCell ⟨w0.heap.size + 1, 2, none⟩ r).cell? ⟨w0.heap.size, 1, none⟩ = some y ∧ (((w.setCell ⟨w0.heap.size + 1, 0, none⟩ p).setCell ⟨w0.heap.size + 1, 1, none⟩ q).setCell ⟨w0.heap.size + 1, 2, none⟩ r).cell? ⟨w0.heap.size, 2, none⟩ = some z := Box3.cells_s h.1 (by omega) p q r

set_option maxRecDepth 100000 in
set_option maxHeartbeats 2000000 in
theorem floor_r (x : Bool) (y : List UInt8) (z : Nat) (w : World) (h : Dm.May ⟨x, y, z⟩) (htab : Pow w) :
    Calls Tryz.prog 17 #[.agg #[.bool x, .string ⟨y.toArray⟩, .int .i64 (z : Int)]] w fun e w' => ∃ r, e = .returned (.tuple #[.agg #[.bool (rx r), .string (ry r), .int .i64 (rz r)], .int .i64 (re r)]) ∧ Hid (Dm.Rep (Dm.sgn x (Dm.num y / 10 ^ z + (decide (0 < z) && x).toNat)) 0 r) ∧ Below w.heap.size w w' := by
  have hS := Pair3.start w (.bool x) (.string ⟨y.toArray⟩) (.int .i64 (z : Int)) 23
  have hP := htab.next hS.1.1
  obtain ⟨a0, a1, a2⟩ := hS.cells
  by_cases h0 : 0 < z
  · have g1 : (0 : Int) < (z : Int) := by omega
    have ew : ∀ W, Pow W → _ := fun W hW => whole_b x y z x W h (.inl h0) hW
    have EW := hide ew
    rw [decide_eq_true h0, Bool.true_and]
    go_enter Tryz.func17, Tryz.ntmps17
    go_wp2_with (go_at_call 47; refine (unhide EW _ hP).mono ?_; rintro e w1 ⟨r, rfl, HR, hb⟩; replace hS := hS.next hb; clear a0 a1 a2; obtain ⟨⟨o0, o1, o2⟩, f0, f1, f2⟩ := hS.out)
    exact bodyPost_ret (v := tV r) (by simp [results, Tryz.results17, go_sem, o0, o1, o2, tV]) rfl ⟨r, rfl, HR, hS.end _ _ _⟩
  · have hz : z = 0 := by omega
    subst hz
    have ew : ∀ W, Pow W → _ := fun W hW => whole_b x y 0 false W h (.inr rfl) hW
    have EW := hide ew
    rw [decide_eq_false h0, Bool.false_and]
    go_enter Tryz.func17, Tryz.ntmps17
    go_wp2_with (go_at_call 47; refine (unhide EW _ hP).mono ?_; rintro e w1 ⟨r, rfl, HR, hb⟩; replace hS := hS.next hb; clear a0 a1 a2; obtain ⟨⟨o0, o1, o2⟩, f0, f1, f2⟩ := hS.out)
    exact bodyPost_ret (v := tV r) (by simp [results, Tryz.results17, go_sem, o0, o1, o2, tV]) rfl ⟨r, rfl, HR, hS.end _ _ _⟩
set_option maxRecDepth 100000 in
set_option maxHeartbeats 2000000 in
theorem ceil_r (x : Bool) (y : List UInt8) (z : Nat) (w : World) (h : Dm.May ⟨x, y, z⟩) (htab : Pow w) :
    Calls Tryz.prog 19 #[.agg #[.bool x, .string ⟨y.toArray⟩, .int .i64 (z : Int)]] w fun e w' => ∃ r, e = .returned (.tuple #[.agg #[.bool (rx r), .string (ry r), .int .i64 (rz r)], .int .i64 (re r)]) ∧ Hid (Dm.Rep (Dm.sgn x (Dm.num y / 10 ^ z + (decide (0 < z) && !x).toNat)) 0 r) ∧ Below w.heap.size w w' := by
  have hS := Pair3.start w (.bool x) (.string ⟨y.toArray⟩) (.int .i64 (z : Int)) 23
  have hP := htab.next hS.1.1
  obtain ⟨a0, a1, a2⟩ := hS.cells
  by_cases h0 : 0 < z
  · have g1 : (0 : Int) < (z : Int) := by omega
    have ew : ∀ W, Pow W → _ := fun W hW => whole_b x y z (!x) W h (.inl h0) hW
    have EW := hide ew
    rw [decide_eq_true h0, Bool.true_and]
    go_enter Tryz.func19, Tryz.ntmps19
    go_wp2_with (go_at_call 47; refine (unhide EW _ hP).mono ?_; rintro e w1 ⟨r, rfl, HR, hb⟩; replace hS := hS.next hb; clear a0 a1 a2; obtain ⟨⟨o0, o1, o2⟩, f0, f1, f2⟩ := hS.out)
    exact bodyPost_ret (v := tV r) (by simp [results, Tryz.results19, go_sem, o0, o1, o2, tV]) rfl ⟨r, rfl, HR, hS.end _ _ _⟩
  · have hz : z = 0 := by omega
    subst hz
    have ew : ∀ W, Pow W → _ := fun W hW => whole_b x y 0 false W h (.inr rfl) hW
    have EW := hide ew
    rw [decide_eq_false h0, Bool.false_and]
    go_enter Tryz.func19, Tryz.ntmps19
    go_wp2_with (go_at_call 47; refine (unhide EW _ hP).mono ?_; rintro e w1 ⟨r, rfl, HR, hb⟩; replace hS := hS.next hb; clear a0 a1 a2; obtain ⟨⟨o0, o1, o2⟩, f0, f1, f2⟩ := hS.out)
    exact bodyPost_ret (v := tV r) (by simp [results, Tryz.results19, go_sem, o0, o1, o2, tV]) rfl ⟨r, rfl, HR, hS.end _ _ _⟩
set_option maxRecDepth 100000 in
set_option maxHeartbeats 2000000 in
theorem round_r (x : Bool) (y : List UInt8) (z : Nat) (b : Bool) (w : World) (h : Dm.May ⟨x, y, z⟩) (hb : (decide (0 < z) && (decide (z ≤ y.length) && decide (53 ≤ (y.getD (y.length - z) 0).toNat))) = b) (htab : Pow w) :
    Calls Tryz.prog 21 #[.agg #[.bool x, .string ⟨y.toArray⟩, .int .i64 (z : Int)]] w fun e w' => ∃ r, e = .returned (.tuple #[.agg #[.bool (rx r), .string (ry r), .int .i64 (rz r)], .int .i64 (re r)]) ∧ Hid (Dm.Rep (Dm.sgn x (Dm.num y / 10 ^ z + b.toNat)) 0 r) ∧ Below w.heap.size w w' := by
  have hS := Pair3.start w (.bool x) (.string ⟨y.toArray⟩) (.int .i64 (z : Int)) 23
  have hfz : 0 < z ∨ b = false := by
    by_cases h0 : 0 < z
    · exact .inl h0
    · right; rw [← hb, decide_eq_false h0, Bool.false_and]
  have HB := hide hb
  have EH := hide (fun W => half_b x y z b W h HB)
  have EW := hide (fun W hW => whole_b x y z b W h hfz hW)
  clear hb
  obtain ⟨a0, a1, a2⟩ := hS.cells
  go_enter Tryz.func21, Tryz.ntmps21
  go_wp2_with fail
  go_region_held3 (fun w' => w'.cell? ⟨w.heap.size, 0, none⟩ = some (.bool x) ∧ w'.cell? ⟨w.heap.size, 1, none⟩ = some (.string ⟨y.toArray⟩) ∧ w'.cell? ⟨w.heap.size, 2, none⟩ = some (.int .i64 (z : Int))) (first | exact hS.cells | exact hS.drew.cells | exact Pair3.cells_s hS _ _ _) (first | (go_at_call 50; refine (unhide EH _).mono ?_; rintro e w1 ⟨rfl, hb1⟩; replace hS := Pair3.next (by first | exact hS | exact hS.drew) hb1; clear hb1) | (go_at_call 47; refine (unhide EW _ (htab.next (by first | exact hS.1.1 | exact hS.drew.1.1))).mono ?_; rintro e w2 ⟨r, rfl, HR, hb2⟩; replace hS := Pair3.next (by first | exact hS | exact hS.drew) hb2; clear hb2; obtain ⟨⟨o0, o1, o2⟩, f0, f1, f2⟩ := hS.out))
  all_goals
    go_wp2
    exact bodyPost_ret (v := tV r) (by simp [results, Tryz.results21, go_sem, o0, o1, o2, tV]) rfl ⟨r, rfl, HR, hS.end _ _ _⟩
end Go.Proofs.YtmlmplmghlbdmaaGreatDoor
