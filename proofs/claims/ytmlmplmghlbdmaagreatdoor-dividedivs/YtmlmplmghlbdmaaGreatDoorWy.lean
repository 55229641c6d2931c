/- What is proved here: what Add and Sub of package dec do, in the words of numbers; conditions: both decimals may be. -/
import Derived.Test.YtmlmplmghlbdmaaGreatDoorWx
namespace Go.Proofs.YtmlmplmghlbdmaaGreatDoor
open Go.RowKit
set_option linter.unusedVariables false
set_option linter.unusedSimpArgs false

theorem add_r (x : Bool) (y : List UInt8) (z : Nat) (x2 : Bool) (y2 : List UInt8) (z2 : Nat) (w : World) (h : Dm.May ⟨x, y, z⟩) (h2 : Dm.May ⟨x2, y2, z2⟩) :
    Calls Tryz.prog 68 #[.agg #[.bool x, .string ⟨y.toArray⟩, .int .i64 (z : Int)], .agg #[.bool x2, .string ⟨y2.toArray⟩, .int .i64 (z2 : Int)]] w fun e w' => ∃ r, e = .returned (.tuple #[.agg #[.bool (rx r), .string (ry r), .int .i64 (rz r)], .int .i64 (re r)]) ∧ Dm.Rep (Dm.sg ⟨x, y, z⟩ * Dm.p10 z2 + Dm.sg ⟨x2, y2, z2⟩ * Dm.p10 z) (z + z2) r ∧ Below w.heap.size w w' := by
  obtain ⟨l1, l2, l3⟩ := may_len h
  obtain ⟨m1, m2, m3⟩ := may_len h2
  simp only at l1 l2 l3 m1 m2 m3
  obtain ⟨n, hn⟩ : ∃ n : Nat, max (z : Int) (z2 : Int) = (n : Int) := ⟨max z z2, by omega⟩
  cases hxx : (x != x2) with
  | true =>
    refine (add_diff x y z x2 y2 z2 n w h h2 hxx hn).mono ?_
    rintro e w' ⟨r, rfl, hr, hB⟩
    exact ⟨r, rfl, sum_up hn hr, hB⟩
  | false =>
    have hx : x = x2 := by cases x <;> cases x2 <;> simp at hxx ⊢
    subst hx
    refine (add_same x ⟨y.toArray⟩ ⟨y2.toArray⟩ z z2 n w (dV_may h) (dV_may h2) (by rw [mk_size]; exact l2) (by rw [mk_size]; exact m2) hn (by omega) (by rw [mk_list]; exact h.1) (by rw [mk_list]; exact h2.1)).mono ?_
    rintro e w' ⟨r, rfl, hr, hB⟩
    refine ⟨r, rfl, sum_up hn ?_, hB⟩
    rw [mk_list, mk_list] at hr
    have e : Dm.sgn x (Dm.num y * 10 ^ (n - z) + Dm.num y2 * 10 ^ (n - z2)) = Dm.sgn x (Dm.num y * 10 ^ (n - z)) + Dm.sgn x (Dm.num y2 * 10 ^ (n - z2)) := by
      unfold Dm.sgn; cases x <;> simp <;> omega
    rw [e] at hr; exact hr

end Go.Proofs.YtmlmplmghlbdmaaGreatDoor
