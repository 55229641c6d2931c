/- What is proved here: what Add and Sub of package dec do, in the words of numbers; conditions: both decimals may be. -/
import Derived.Test.YtijelgmmmceflaaDoorWx
namespace Go.Proofs.YtijelgmmmceflaaDoor
open Go.RowKit
set_option linter.unusedVariables false
set_option linter.unusedSimpArgs false

theorem add_r (x : Bool) (y : List UInt8) (z : Nat) (x2 : Bool) (y2 : List UInt8) (z2 : Nat) (w : World) (h : Dm.May ⟨x, y, z⟩) (h2 : Dm.May ⟨x2, y2, z2⟩) :
    Calls Tryd.prog 21 #[.agg #[.bool x, .string ⟨y.toArray⟩, .int .i64 (z : Int)], .agg #[.bool x2, .string ⟨y2.toArray⟩, .int .i64 (z2 : Int)]] w fun e w' => ∃ r, e = .returned (.tuple #[.agg #[.bool (rx r), .string (ry r), .int .i64 (rz r)], .int .i64 (re r)]) ∧ Dm.Rep (Dm.sg ⟨x, y, z⟩ * Dm.p10 z2 + Dm.sg ⟨x2, y2, z2⟩ * Dm.p10 z) (z + z2) r ∧ Below w.heap.size w w' := by
  obtain ⟨l1, l2, l3⟩ := may_len h
  obtain ⟨m1, m2, m3⟩ := may_len h2
  simp only at l1 l2 l3 m1 m2 m3
  obtain ⟨n, hn⟩ : ∃ n : Nat, max (z : Int) (z2 : Int) = (n : Int) := ⟨max z z2, by omega⟩
  cases hxx : (x != x2) with
  | true =>
    refine (add_diff x y z x2 y2 z2 n w h h2 hxx hn).mono ?_
    rintro e w' ⟨r, rfl, hr, hB⟩
    exact ⟨r, rfl, sum_up hn hr, hB⟩
  | false =>
    have hx : x = x2 := by cases x <;> cases x2 <;> simp at hxx ⊢
    subst hx
    refine (add_same x ⟨y.toArray⟩ ⟨y2.toArray⟩ z z2 n w (dV_may h) (dV_may h2) (by rw [mk_size]; exact l2) (by rw [mk_size]; exact m2) hn (by omega) (by rw [mk_list]; exact h.1) (by rw [mk_list]; exact h2.1)).mono ?_
    rintro e w' ⟨r, rfl, hr, hB⟩
    refine ⟨r, rfl, sum_up hn ?_, hB⟩
    rw [mk_list, mk_list] at hr
    have e : Dm.sgn x (Dm.num y * 10 ^ (n - z) + Dm.num y2 * 10 ^ (n - z2)) = Dm.sgn x (Dm.num y * 10 ^ (n - z)) + Dm.sgn x (Dm.num y2 * 10 ^ (n - z2)) := by
      unfold Dm.sgn; cases x <;> simp <;> omega
    rw [e] at hr; exact hr

set_option maxRecDepth 100000 in
set_option maxHeartbeats 1000000 in
/-- Sub of decimals that may be. -/
theorem sub_r (x : Bool) (y : List UInt8) (z : Nat) (x2 : Bool) (y2 : List UInt8) (z2 : Nat) (w : World) (h : Dm.May ⟨x, y, z⟩) (h2 : Dm.May ⟨x2, y2, z2⟩) :
    Calls Tryd.prog 23 #[.agg #[.bool x, .string ⟨y.toArray⟩, .int .i64 (z : Int)], .agg #[.bool x2, .string ⟨y2.toArray⟩, .int .i64 (z2 : Int)]] w fun e w' => ∃ r, e = .returned (.tuple #[.agg #[.bool (rx r), .string (ry r), .int .i64 (rz r)], .int .i64 (re r)]) ∧ Dm.Rep (Dm.sg ⟨x, y, z⟩ * Dm.p10 z2 - Dm.sg ⟨x2, y2, z2⟩ * Dm.p10 z) (z + z2) r ∧ Below w.heap.size w w' := by
  by_cases hz : y2 = [48]
  · subst hz
    have ht := Tri.start w (.bool x) (.string ⟨y.toArray⟩) (.int .i64 (z : Int)) (.bool x2) (.string ⟨#[48]⟩) (.int .i64 (z2 : Int)) 23
    go_enter Tryd.func23, Tryd.ntmps23
    go_wp2_with fail
    refine (add_r x y z x2 [48] z2 _ h h2).mono ?_
    rintro e w1 ⟨r, rfl, hr, hb1⟩
    have ht1 := ht.next hb1
    clear hb1
    obtain ⟨⟨k0, k1, k2⟩, ⟨f0, f1, f2⟩⟩ := ht1.out
    go_wp2
    refine bodyPost_ret (v := tV r) ?_ rfl ⟨r, rfl, ?_, ht1.end _ _ _⟩
    · simp [results, Tryd.results23, go_sem, k0, k1, k2, tV]
    · rw [zero_sg, Int.zero_mul, Int.add_zero] at hr
      rw [zero_sg, Int.zero_mul, Int.sub_zero]
      exact hr
  · have hb : (y2 == [48]) = false := beq_eq_false_iff_ne.2 hz
    have hbn : (!y2 == [48]) = true := by rw [hb]; rfl
    obtain ⟨t1, t2⟩ := turn_may h2 hz
    have ht := Tri.start w (.bool x) (.string ⟨y.toArray⟩) (.int .i64 (z : Int)) (.bool !x2) (.string ⟨y2.toArray⟩) (.int .i64 (z2 : Int)) 23
    have T2 := hide t2
    clear t2
    go_enter Tryd.func23, Tryd.ntmps23
    go_wp2_with fail
    refine (add_r x y z (!x2) y2 z2 _ h t1).mono ?_
    rintro e w1 ⟨r, rfl, hr, hb1⟩
    have ht1 := ht.next hb1
    clear hb1
    obtain ⟨⟨k0, k1, k2⟩, ⟨f0, f1, f2⟩⟩ := ht1.out
    have HR := hide hr
    clear hr
    go_wp2
    refine bodyPost_ret (v := tV r) ?_ rfl ⟨r, rfl, ?_, ht1.end _ _ _⟩
    · simp [results, Tryd.results23, go_sem, k0, k1, k2, tV]
    · have hr := unhide HR
      rw [unhide T2, Int.neg_mul] at hr
      exact hr
end Go.Proofs.YtijelgmmmceflaaDoor
