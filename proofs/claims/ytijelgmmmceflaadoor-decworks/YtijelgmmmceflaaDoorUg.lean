/- What is proved here: what Turn, Sub and Cmp of the document's own answers do, walked; conditions: both decimals may be. -/
import Derived.Test.YtijelgmmmceflaaDoorUf
namespace Go.Proofs.YtijelgmmmceflaaDoor
open Go.RowKit
set_option linter.unusedVariables false
set_option linter.unusedSimpArgs false

set_option maxRecDepth 100000 in
set_option maxHeartbeats 1000000 in
theorem turn_zero (x : Bool) (z : Nat) (w : World) :
    Calls Tryd.prog 48 #[.agg #[.bool x, .string ⟨#[48]⟩, .int .i64 (z : Int)]] w fun e w' => e = .returned (.agg #[.bool x, .string ⟨#[48]⟩, .int .i64 (z : Int)]) ∧ Below w.heap.size w w' := by
  go_enter Tryd.func48, Tryd.ntmps48
  go_wp2
  refine bodyPost_ret (v := .agg #[.bool x, .string ⟨#[48]⟩, .int .i64 (z : Int)]) (by simp [results, Tryd.results48, go_sem]) rfl ⟨rfl, ((Below.refl _ _).alloc (Nat.le_refl _) _).alloc (by simp) _⟩
set_option maxRecDepth 100000 in
set_option maxHeartbeats 1000000 in
theorem turn_some (x : Bool) (y : List UInt8) (z : Nat) (w : World) (hb : (y == [48]) = false) :
    Calls Tryd.prog 48 #[.agg #[.bool x, .string ⟨y.toArray⟩, .int .i64 (z : Int)]] w fun e w' => e = .returned (.agg #[.bool !x, .string ⟨y.toArray⟩, .int .i64 (z : Int)]) ∧ Below w.heap.size w w' := by
  have hbn : (!y == [48]) = true := by rw [hb]; rfl
  go_enter Tryd.func48, Tryd.ntmps48
  go_wp2
  refine bodyPost_ret (v := .agg #[.bool !x, .string ⟨y.toArray⟩, .int .i64 (z : Int)]) (by simp [results, Tryd.results48, go_sem]) rfl ⟨rfl, ((Below.refl _ _).alloc (Nat.le_refl _) _).alloc (by simp) _⟩
/-- What a decimal turned below 0 is. -/
theorem turn_r (x : Bool) (y : List UInt8) (z : Nat) (w : World) (h : Dm.May ⟨x, y, z⟩) :
    Calls Tryd.prog 48 #[.agg #[.bool x, .string ⟨y.toArray⟩, .int .i64 (z : Int)]] w fun e w' => ∃ t, e = .returned (.agg #[.bool t, .string ⟨y.toArray⟩, .int .i64 (z : Int)]) ∧ Dm.May ⟨t, y, z⟩ ∧ Dm.sg ⟨t, y, z⟩ = - Dm.sg ⟨x, y, z⟩ ∧ Below w.heap.size w w' := by
  by_cases hz : y = [48]
  · subst hz
    refine (turn_zero x z w).mono ?_
    rintro e w' ⟨rfl, hb⟩
    exact ⟨x, rfl, h, by rw [zero_sg]; rfl, hb⟩
  · obtain ⟨t1, t2⟩ := turn_may h hz
    refine (turn_some x y z w (beq_eq_false_iff_ne.2 hz)).mono ?_
    rintro e w' ⟨rfl, hb⟩
    exact ⟨!x, rfl, t1, t2, hb⟩
set_option maxRecDepth 100000 in
set_option maxHeartbeats 2000000 in
/-- Sub of the document's own answers. -/
theorem rsub_r (x : Bool) (y : List UInt8) (z : Nat) (x2 : Bool) (y2 : List UInt8) (z2 : Nat) (w : World) (h : Dm.May ⟨x, y, z⟩) (h2 : Dm.May ⟨x2, y2, z2⟩) :
    Calls Tryd.prog 24 #[.agg #[.bool x, .string ⟨y.toArray⟩, .int .i64 (z : Int)], .agg #[.bool x2, .string ⟨y2.toArray⟩, .int .i64 (z2 : Int)]] w fun e w' => ∃ r, e = .returned (.tuple #[.agg #[.bool (rx r), .string (ry r), .int .i64 (rz r)], .int .i64 (re r)]) ∧ Dm.Rep (Dm.sg ⟨x, y, z⟩ * Dm.p10 z2 - Dm.sg ⟨x2, y2, z2⟩ * Dm.p10 z) (z + z2) r ∧ Below w.heap.size w w' := by
  have ht1 := Tri.start w (.bool x) (.string ⟨y.toArray⟩) (.int .i64 (z : Int)) (.bool x2) (.string ⟨y2.toArray⟩) (.int .i64 (z2 : Int)) 23
  go_enter Tryd.func24, Tryd.ntmps24
  go_wp2_with fail
  generalize ((w.alloc (.cells #[.bool x, .string ⟨y.toArray⟩, .int .i64 (z : Int)] 23)).alloc (.cells #[.bool x2, .string ⟨y2.toArray⟩, .int .i64 (z2 : Int)] 23)).alloc (.cells #[.bool false, .string ⟨#[]⟩, .int .i64 0] 23) = W at ht1 ⊢
  obtain ⟨⟨c0, c1, c2⟩, ⟨d0, d1, d2⟩⟩ := ht1.cells
  go_region_held3 (fun w' => (w'.cell? ⟨w.heap.size, 0, none⟩ = some (.bool x) ∧ w'.cell? ⟨w.heap.size, 1, none⟩ = some (.string ⟨y.toArray⟩) ∧ w'.cell? ⟨w.heap.size, 2, none⟩ = some (.int .i64 (z : Int))) ∧ (w'.cell? ⟨w.heap.size + 1, 0, none⟩ = some (.bool x2) ∧ w'.cell? ⟨w.heap.size + 1, 1, none⟩ = some (.string ⟨y2.toArray⟩) ∧ w'.cell? ⟨w.heap.size + 1, 2, none⟩ = some (.int .i64 (z2 : Int)))) (first | exact (Two.store ht5.1 _ _ _).2.2 | exact ht5.cells | exact ht4.cells | exact ht1.cells | exact ht1.drew.cells) (first | (go_at_call 48; refine (turn_r x2 y2 z2 _ h2).mono ?_; rintro e w4 ⟨t, rfl, htM, htS, hbw⟩; have ht4 := Tri.next (by first | exact ht1 | exact ht1.drew) hbw; clear c0 c1 c2 d0 d1 d2; obtain ⟨⟨c0, c1, c2⟩, ⟨d0, d1, d2⟩⟩ := ht4.cells; have HS := hide htS; clear htS hbw) | (go_at_call 22; refine (radd_r x y z t y2 z2 _ h htM).mono ?_; rintro e w5 ⟨r, rfl, hrep, hb5⟩; have ht5 := Tri.next (by first | exact ht4 | exact ht4.drew) hb5; obtain ⟨⟨k0, k1, k2⟩, ⟨f0, f1, f2⟩⟩ := ht5.out; have HREP := hide hrep; clear hrep hb5))
  all_goals go_wp2
  all_goals
    refine bodyPost_ret (v := tV r) ?_ rfl ⟨r, rfl, ?_, ht5.end _ _ _⟩
    · simp [results, Tryd.results24, go_sem, k0, k1, k2, tV]
    · have := unhide HREP
      rw [unhide HS, Int.neg_mul] at this
      exact this
end Go.Proofs.YtijelgmmmceflaaDoor
