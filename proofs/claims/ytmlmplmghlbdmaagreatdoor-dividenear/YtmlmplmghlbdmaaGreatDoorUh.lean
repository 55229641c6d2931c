/- What is proved here: what Cmp of the document's own answers does, walked; conditions: both decimals may be. -/
import Derived.Test.YtmlmplmghlbdmaaGreatDoorUg
namespace Go.Proofs.YtmlmplmghlbdmaaGreatDoor
open Go.RowKit
set_option linter.unusedVariables false
set_option linter.unusedSimpArgs false

/-- The lesser one, as the text finds it. -/
def lessB (x x2 : Bool) (M N : Nat) : Bool := if (x == x2) then (if x then decide (N < M) else decide (M < N)) else x
theorem lessB_sg {x x2 : Bool} {M N : Nat} (h : sgI (Dm.sgn x M - Dm.sgn x2 N) ≠ 0) : sgI (Dm.sgn x M - Dm.sgn x2 N) = if lessB x x2 M N then -1 else 1 := by
  unfold sgI at h ⊢
  by_cases g : Dm.sgn x M - Dm.sgn x2 N < 0
  · rw [if_pos g]
    rw [if_pos]
    cases x <;> cases x2 <;> simp [Dm.sgn, lessB] at g ⊢ <;> omega
  · rw [if_neg g] at h ⊢
    by_cases g2 : 0 < Dm.sgn x M - Dm.sgn x2 N
    · rw [if_pos g2, if_neg]
      cases x <;> cases x2 <;> simp [Dm.sgn, lessB] at g g2 ⊢ <;> omega
    · rw [if_neg g2] at h; exact absurd rfl h
theorem two_cases (x : Bool) (y : List UInt8) (z : Nat) (x2 : Bool) (y2 : List UInt8) (z2 : Nat) :
    ((⟨x, y, z⟩ : Dm.D) = ⟨x2, y2, z2⟩) ∨ ((⟨x, y, z⟩ : Dm.D) ≠ ⟨x2, y2, z2⟩ ∧ (((x == x2) = true ∧ (y == y2) = true ∧ ((z : Int) == (z2 : Int)) = false) ∨ ((x == x2) = true ∧ (y == y2) = false) ∨ (x == x2) = false)) := by
  by_cases e1 : x = x2
  · by_cases e2 : y = y2
    · by_cases e3 : z = z2
      · subst e1 e2 e3; left; rfl
      · right
        refine ⟨fun e => by injection e with _ _ e; exact e3 e, .inl ⟨beq_iff_eq.2 e1, beq_iff_eq.2 e2, ?_⟩⟩
        rw [beq_eq_false_iff_ne]; omega
    · right
      exact ⟨fun e => by injection e with _ e _; exact e2 e, .inr (.inl ⟨beq_iff_eq.2 e1, beq_eq_false_iff_ne.2 e2⟩)⟩
  · right
    exact ⟨fun e => by injection e with e _ _; exact e1 e, .inr (.inr (beq_eq_false_iff_ne.2 e1))⟩
set_option maxRecDepth 100000 in
set_option maxHeartbeats 1000000 in
theorem rcmp_same (x : Bool) (y : List UInt8) (z : Nat) (w : World) :
    Calls Tryz.prog 25 #[.agg #[.bool x, .string ⟨y.toArray⟩, .int .i64 (z : Int)], .agg #[.bool x, .string ⟨y.toArray⟩, .int .i64 (z : Int)]] w fun e w' => e = .returned (.int .i64 0) ∧ Below w.heap.size w w' := by
  go_enter Tryz.func25, Tryz.ntmps25
  go_wp2
  go_ret
  exact ⟨rfl, ((Below.refl _ _).alloc (Nat.le_refl _) _).alloc (by simp) _⟩
set_option maxRecDepth 100000 in
set_option maxHeartbeats 4000000 in
theorem rcmp_other (x : Bool) (a : List UInt8) (ja : Nat) (x2 : Bool) (b : List UInt8) (jb S n p q : Nat) (bl : Bool) (w : World) (ha : a.length ≤ 60) (hb : b.length ≤ 60) (da : Dm.allD a) (db : Dm.allD b) (hp : ja + p = S) (hq : jb + q = S) (hS60 : S ≤ 60) (hS : p = 0 ∨ q = 0) (hn1 : a.length + p ≤ n) (hn2 : b.length + q ≤ n) (hn : n = a.length + p ∨ n = b.length + q)
    (hbl : lessB x x2 (Dm.num a * 10 ^ p) (Dm.num b * 10 ^ q) = bl)
    (hne : (((x == x2) = true ∧ (a == b) = true ∧ ((ja : Int) == (jb : Int)) = false) ∨ ((x == x2) = true ∧ (a == b) = false) ∨ (x == x2) = false)) :
    Calls Tryz.prog 25 #[.agg #[.bool x, .string ⟨a.toArray⟩, .int .i64 (ja : Int)], .agg #[.bool x2, .string ⟨b.toArray⟩, .int .i64 (jb : Int)]] w fun e w' => e = .returned (.int .i64 (if bl then -1 else 1)) ∧ Below w.heap.size w w' := by
  have ht := Two.start w (.bool x) (.string ⟨a.toArray⟩) (.int .i64 (ja : Int)) (.bool x2) (.string ⟨b.toArray⟩) (.int .i64 (jb : Int)) 23
  obtain ⟨X, hX⟩ : ∃ X, alignL a p n = X := ⟨_, rfl⟩
  obtain ⟨Y, hY⟩ : ∃ Y, alignL b q n = Y := ⟨_, rfl⟩
  have hXl : X.length = n := by rw [← hX]; exact align_len hn1
  have hYl : Y.length = n := by rw [← hY]; exact align_len hn2
  have hXd : Dm.allD X := by rw [← hX]; exact align_allD _ _ da
  have hYd : Dm.allD Y := by rw [← hY]; exact align_allD _ _ db
  have e1 : Dm.num X = Dm.num a * 10 ^ p := by rw [← hX]; exact align_num _ _ _
  have e2 : Dm.num Y = Dm.num b * 10 ^ q := by rw [← hY]; exact align_num _ _ _
  have q1 := less_num X Y hXd hYd (by omega)
  have q2 := less_num Y X hYd hXd (by omega)
  rw [e1, e2] at q1 q2
  rw [toList_eq, toList_eq] at q1 q2
  have q1 : Op.bytesLess X Y = decide (Dm.num a * 10 ^ p < Dm.num b * 10 ^ q) := q1
  have q2 : Op.bytesLess Y X = decide (Dm.num b * 10 ^ q < Dm.num a * 10 ^ p) := q2
  generalize Dm.num a * 10 ^ p = M at *
  generalize Dm.num b * 10 ^ q = N at *
  generalize hd1 : decide (M < N) = m1 at *
  generalize hd2 : decide (N < M) = m2 at *
  have hbl2 : bl = if (x == x2) then (if x then m2 else m1) else x := by rw [← hbl, ← hd1, ← hd2]; rfl
  clear hd1 hd2 hbl e1 e2 hXl hYl
  rcases hne with ⟨g1, g2, g3⟩ | ⟨g1, g2⟩ | g1
  all_goals
    go_enter Tryz.func25, Tryz.ntmps25
    go_wp2_with fail
    refine (align_any x x2 a b ja jb S n p q _ ha hb hp hq hS60 hS hn1 hn2 hn).mono ?_
    rw [hX, hY]
    rintro e w1 ⟨rfl, hb1⟩
    have ht1 := ht.next hb1
    clear hb1 hX hY ht
    obtain ⟨hB, _, ⟨c0, c1, c2⟩, ⟨d0, d1, d2⟩⟩ := ht1
    have HBL := hide hbl2
    clear hbl2
    cases x <;> cases x2 <;> first | (exfalso; simp at g1; done) | skip
    all_goals
      go_wp2
      all_goals
        go_ret
        refine ⟨ret_i ?_, hB⟩
        have hb9 := unhide HBL
        clear HBL hB c0 c1 c2 d0 d1 d2 hXd hYd da db
        first | rfl | (exfalso; simp_all; done)
/-- Cmp of the document's own answers. -/
theorem rcmp_r (x : Bool) (y : List UInt8) (z : Nat) (x2 : Bool) (y2 : List UInt8) (z2 : Nat) (q : Int) (w : World) (h : Dm.May ⟨x, y, z⟩) (h2 : Dm.May ⟨x2, y2, z2⟩) (hq : sgI (Dm.sg ⟨x, y, z⟩ * Dm.p10 z2 - Dm.sg ⟨x2, y2, z2⟩ * Dm.p10 z) = q) :
    Calls Tryz.prog 25 #[.agg #[.bool x, .string ⟨y.toArray⟩, .int .i64 (z : Int)], .agg #[.bool x2, .string ⟨y2.toArray⟩, .int .i64 (z2 : Int)]] w fun e w' => e = .returned (.int .i64 q) ∧ Below w.heap.size w w' := by
  obtain ⟨l1, l2, l3⟩ := may_len h
  obtain ⟨m1, m2, m3⟩ := may_len h2
  simp only at l1 l2 l3 m1 m2 m3
  rcases two_cases x y z x2 y2 z2 with e | ⟨hne, hc⟩
  · injection e with e1 e2 e3
    subst e1 e2 e3
    rw [Int.sub_self] at hq
    refine (rcmp_same x y z w).mono ?_
    rintro e w' ⟨rfl, hB⟩
    exact ⟨by rw [← hq]; rfl, hB⟩
  · obtain ⟨S, hS⟩ : ∃ S : Nat, max (z : Int) (z2 : Int) = (S : Int) := ⟨max z z2, by omega⟩
    obtain ⟨n, hn⟩ : ∃ n : Nat, max (y.length + (S - z)) (y2.length + (S - z2)) = n := ⟨_, rfl⟩
    have hq0 : q ≠ 0 := by
      intro g
      apply hne
      apply Dm.may_inj h h2
      rw [← hq] at g
      unfold sgI at g
      by_cases g1 : Dm.sg ⟨x, y, z⟩ * Dm.p10 z2 - Dm.sg ⟨x2, y2, z2⟩ * Dm.p10 z < 0
      · rw [if_pos g1] at g; omega
      · by_cases g2 : 0 < Dm.sg ⟨x, y, z⟩ * Dm.p10 z2 - Dm.sg ⟨x2, y2, z2⟩ * Dm.p10 z
        · rw [if_neg g1, if_pos g2] at g; omega
        · show Dm.sg ⟨x, y, z⟩ * Dm.p10 z2 = Dm.sg ⟨x2, y2, z2⟩ * Dm.p10 z
          omega
    have hq2 : sgI (Dm.sgn x (Dm.num y) * Dm.p10 z2 - Dm.sgn x2 (Dm.num y2) * Dm.p10 z) = q := hq
    rw [sgI_scaled hS] at hq2
    have hq3 := lessB_sg (x := x) (x2 := x2) (M := Dm.num y * 10 ^ (S - z)) (N := Dm.num y2 * 10 ^ (S - z2)) (by rw [hq2]; exact hq0)
    rw [hq2] at hq3
    refine (rcmp_other x y z x2 y2 z2 S n (S - z) (S - z2) _ w l2 m2 h.1 h2.1 (by omega) (by omega) (by omega) (by omega) (by omega) (by omega) (by omega) rfl hc).mono ?_
    rintro e w' ⟨rfl, hB⟩
    exact ⟨by rw [← hq3], hB⟩
end Go.Proofs.YtmlmplmghlbdmaaGreatDoor
