/- What is proved here: what Turn, Sub and Cmp of the document's own answers do, walked; conditions: both decimals may be. What is proved here: what Cmp of the document's own answers does, walked; conditions: both decimals may be. What is proved here: what Int of the document's own answers does, walked; conditions: the number is an int. What is proved here: plain facts on sums of places, the highest first; conditions: as each theorem states. What is proved here: what Mul of the document's own answers does, walked; conditions: both decimals may be. -/
import Derived.Test.YtmlmplmghlbdmaaGreatDoorUf
import Derived.Test.YtmlmplmghlbdmaaGreatDoorMg
import Derived.Test.YtmlmplmghlbdmaaGreatDoorMh
import Derived.Test.YtmlmplmghlbdmaaGreatDoorRb
import Derived.Test.YtmlmplmghlbdmaaGreatDoorM
import Derived.Deep.OwnRows
import Derived.BigRegion
namespace Go.Proofs.YtmlmplmghlbdmaaGreatDoor
open Go.RowKit
set_option linter.unusedVariables false
set_option linter.unusedSimpArgs false

set_option maxRecDepth 100000 in
set_option maxHeartbeats 1000000 in
theorem turn_zero (x : Bool) (z : Nat) (w : World) :
    Calls Tryz.prog 28 #[.agg #[.bool x, .string ⟨#[48]⟩, .int .i64 (z : Int)]] w fun e w' => e = .returned (.agg #[.bool x, .string ⟨#[48]⟩, .int .i64 (z : Int)]) ∧ Below w.heap.size w w' := by
  go_enter Tryz.func28, Tryz.ntmps28
  go_wp2
  refine bodyPost_ret (v := .agg #[.bool x, .string ⟨#[48]⟩, .int .i64 (z : Int)]) (by simp [results, Tryz.results28, go_sem]) rfl ⟨rfl, ((Below.refl _ _).alloc (Nat.le_refl _) _).alloc (by simp) _⟩
set_option maxRecDepth 100000 in
set_option maxHeartbeats 1000000 in
theorem turn_some (x : Bool) (y : List UInt8) (z : Nat) (w : World) (hb : (y == [48]) = false) :
    Calls Tryz.prog 28 #[.agg #[.bool x, .string ⟨y.toArray⟩, .int .i64 (z : Int)]] w fun e w' => e = .returned (.agg #[.bool !x, .string ⟨y.toArray⟩, .int .i64 (z : Int)]) ∧ Below w.heap.size w w' := by
  have hbn : (!y == [48]) = true := by rw [hb]; rfl
  go_enter Tryz.func28, Tryz.ntmps28
  go_wp2
  refine bodyPost_ret (v := .agg #[.bool !x, .string ⟨y.toArray⟩, .int .i64 (z : Int)]) (by simp [results, Tryz.results28, go_sem]) rfl ⟨rfl, ((Below.refl _ _).alloc (Nat.le_refl _) _).alloc (by simp) _⟩
/-- What a decimal turned below 0 is. -/
theorem turn_r (x : Bool) (y : List UInt8) (z : Nat) (w : World) (h : Dm.May ⟨x, y, z⟩) :
    Calls Tryz.prog 28 #[.agg #[.bool x, .string ⟨y.toArray⟩, .int .i64 (z : Int)]] w fun e w' => ∃ t, e = .returned (.agg #[.bool t, .string ⟨y.toArray⟩, .int .i64 (z : Int)]) ∧ Dm.May ⟨t, y, z⟩ ∧ Dm.sg ⟨t, y, z⟩ = - Dm.sg ⟨x, y, z⟩ ∧ Below w.heap.size w w' := by
  by_cases hz : y = [48]
  · subst hz
    refine (turn_zero x z w).mono ?_
    rintro e w' ⟨rfl, hb⟩
    exact ⟨x, rfl, h, by rw [zero_sg]; rfl, hb⟩
  · obtain ⟨t1, t2⟩ := turn_may h hz
    refine (turn_some x y z w (beq_eq_false_iff_ne.2 hz)).mono ?_
    rintro e w' ⟨rfl, hb⟩
    exact ⟨!x, rfl, t1, t2, hb⟩
end Go.Proofs.YtmlmplmghlbdmaaGreatDoor

namespace Go.Proofs.YtmlmplmghlbdmaaGreatDoor
open Go.RowKit
set_option linter.unusedVariables false
set_option linter.unusedSimpArgs false

/-- The lesser one, as the text finds it. -/
def lessB (x x2 : Bool) (M N : Nat) : Bool := if (x == x2) then (if x then decide (N < M) else decide (M < N)) else x
theorem lessB_sg {x x2 : Bool} {M N : Nat} (h : sgI (Dm.sgn x M - Dm.sgn x2 N) ≠ 0) : sgI (Dm.sgn x M - Dm.sgn x2 N) = if lessB x x2 M N then -1 else 1 := by
  unfold sgI at h ⊢
  by_cases g : Dm.sgn x M - Dm.sgn x2 N < 0
  · rw [if_pos g]
    rw [if_pos]
    cases x <;> cases x2 <;> simp [Dm.sgn, lessB] at g ⊢ <;> omega
  · rw [if_neg g] at h ⊢
    by_cases g2 : 0 < Dm.sgn x M - Dm.sgn x2 N
    · rw [if_pos g2, if_neg]
      cases x <;> cases x2 <;> simp [Dm.sgn, lessB] at g g2 ⊢ <;> omega
    · rw [if_neg g2] at h; exact absurd rfl h
theorem two_cases (x : Bool) (y : List UInt8) (z : Nat) (x2 : Bool) (y2 : List UInt8) (z2 : Nat) :
    ((⟨x, y, z⟩ : Dm.D) = ⟨x2, y2, z2⟩) ∨ ((⟨x, y, z⟩ : Dm.D) ≠ ⟨x2, y2, z2⟩ ∧ (((x == x2) = true ∧ (y == y2) = true ∧ ((z : Int) == (z2 : Int)) = false) ∨ ((x == x2) = true ∧ (y == y2) = false) ∨ (x == x2) = false)) := by
  by_cases e1 : x = x2
  · by_cases e2 : y = y2
    · by_cases e3 : z = z2
      · subst e1 e2 e3; left; rfl
      · right
        refine ⟨fun e => by injection e with _ _ e; exact e3 e, .inl ⟨beq_iff_eq.2 e1, beq_iff_eq.2 e2, ?_⟩⟩
        rw [beq_eq_false_iff_ne]; omega
    · right
      exact ⟨fun e => by injection e with _ e _; exact e2 e, .inr (.inl ⟨beq_iff_eq.2 e1, beq_eq_false_iff_ne.2 e2⟩)⟩
  · right
    exact ⟨fun e => by injection e with e _ _; exact e1 e, .inr (.inr (beq_eq_false_iff_ne.2 e1))⟩
set_option maxRecDepth 100000 in
set_option maxHeartbeats 1000000 in
theorem rcmp_same (x : Bool) (y : List UInt8) (z : Nat) (w : World) :
    Calls Tryz.prog 25 #[.agg #[.bool x, .string ⟨y.toArray⟩, .int .i64 (z : Int)], .agg #[.bool x, .string ⟨y.toArray⟩, .int .i64 (z : Int)]] w fun e w' => e = .returned (.int .i64 0) ∧ Below w.heap.size w w' := by
  go_enter Tryz.func25, Tryz.ntmps25
  go_wp2
  go_ret
  exact ⟨rfl, ((Below.refl _ _).alloc (Nat.le_refl _) _).alloc (by simp) _⟩
set_option maxRecDepth 100000 in
set_option maxHeartbeats 4000000 in
theorem rcmp_other (x : Bool) (a : List UInt8) (ja : Nat) (x2 : Bool) (b : List UInt8) (jb S n p q : Nat) (bl : Bool) (w : World) (ha : a.length ≤ 60) (hb : b.length ≤ 60) (da : Dm.allD a) (db : Dm.allD b) (hp : ja + p = S) (hq : jb + q = S) (hS60 : S ≤ 60) (hS : p = 0 ∨ q = 0) (hn1 : a.length + p ≤ n) (hn2 : b.length + q ≤ n) (hn : n = a.length + p ∨ n = b.length + q)
    (hbl : lessB x x2 (Dm.num a * 10 ^ p) (Dm.num b * 10 ^ q) = bl)
    (hne : (((x == x2) = true ∧ (a == b) = true ∧ ((ja : Int) == (jb : Int)) = false) ∨ ((x == x2) = true ∧ (a == b) = false) ∨ (x == x2) = false)) :
    Calls Tryz.prog 25 #[.agg #[.bool x, .string ⟨a.toArray⟩, .int .i64 (ja : Int)], .agg #[.bool x2, .string ⟨b.toArray⟩, .int .i64 (jb : Int)]] w fun e w' => e = .returned (.int .i64 (if bl then -1 else 1)) ∧ Below w.heap.size w w' := by
  have ht := Two.start w (.bool x) (.string ⟨a.toArray⟩) (.int .i64 (ja : Int)) (.bool x2) (.string ⟨b.toArray⟩) (.int .i64 (jb : Int)) 23
  obtain ⟨X, hX⟩ : ∃ X, alignL a p n = X := ⟨_, rfl⟩
  obtain ⟨Y, hY⟩ : ∃ Y, alignL b q n = Y := ⟨_, rfl⟩
  have hXl : X.length = n := by rw [← hX]; exact align_len hn1
  have hYl : Y.length = n := by rw [← hY]; exact align_len hn2
  have hXd : Dm.allD X := by rw [← hX]; exact align_allD _ _ da
  have hYd : Dm.allD Y := by rw [← hY]; exact align_allD _ _ db
  have e1 : Dm.num X = Dm.num a * 10 ^ p := by rw [← hX]; exact align_num _ _ _
  have e2 : Dm.num Y = Dm.num b * 10 ^ q := by rw [← hY]; exact align_num _ _ _
  have q1 := less_num X Y hXd hYd (by omega)
  have q2 := less_num Y X hYd hXd (by omega)
  rw [e1, e2] at q1 q2
  rw [toList_eq, toList_eq] at q1 q2
  have q1 : Op.bytesLess X Y = decide (Dm.num a * 10 ^ p < Dm.num b * 10 ^ q) := q1
  have q2 : Op.bytesLess Y X = decide (Dm.num b * 10 ^ q < Dm.num a * 10 ^ p) := q2
  generalize Dm.num a * 10 ^ p = M at *
  generalize Dm.num b * 10 ^ q = N at *
  generalize hd1 : decide (M < N) = m1 at *
  generalize hd2 : decide (N < M) = m2 at *
  have hbl2 : bl = if (x == x2) then (if x then m2 else m1) else x := by rw [← hbl, ← hd1, ← hd2]; rfl
  clear hd1 hd2 hbl e1 e2 hXl hYl
  rcases hne with ⟨g1, g2, g3⟩ | ⟨g1, g2⟩ | g1
  all_goals
    go_enter Tryz.func25, Tryz.ntmps25
    go_wp2_with fail
    refine (align_any x x2 a b ja jb S n p q _ ha hb hp hq hS60 hS hn1 hn2 hn).mono ?_
    rw [hX, hY]
    rintro e w1 ⟨rfl, hb1⟩
    have ht1 := ht.next hb1
    clear hb1 hX hY ht
    obtain ⟨hB, _, ⟨c0, c1, c2⟩, ⟨d0, d1, d2⟩⟩ := ht1
    have HBL := hide hbl2
    clear hbl2
    cases x <;> cases x2 <;> first | (exfalso; simp at g1; done) | skip
    all_goals
      go_wp2
      all_goals
        go_ret
        refine ⟨ret_i ?_, hB⟩
        have hb9 := unhide HBL
        clear HBL hB c0 c1 c2 d0 d1 d2 hXd hYd da db
        first | rfl | (exfalso; simp_all; done)
/-- Cmp of the document's own answers. -/
theorem rcmp_r (x : Bool) (y : List UInt8) (z : Nat) (x2 : Bool) (y2 : List UInt8) (z2 : Nat) (q : Int) (w : World) (h : Dm.May ⟨x, y, z⟩) (h2 : Dm.May ⟨x2, y2, z2⟩) (hq : sgI (Dm.sg ⟨x, y, z⟩ * Dm.p10 z2 - Dm.sg ⟨x2, y2, z2⟩ * Dm.p10 z) = q) :
    Calls Tryz.prog 25 #[.agg #[.bool x, .string ⟨y.toArray⟩, .int .i64 (z : Int)], .agg #[.bool x2, .string ⟨y2.toArray⟩, .int .i64 (z2 : Int)]] w fun e w' => e = .returned (.int .i64 q) ∧ Below w.heap.size w w' := by
  obtain ⟨l1, l2, l3⟩ := may_len h
  obtain ⟨m1, m2, m3⟩ := may_len h2
  simp only at l1 l2 l3 m1 m2 m3
  rcases two_cases x y z x2 y2 z2 with e | ⟨hne, hc⟩
  · injection e with e1 e2 e3
    subst e1 e2 e3
    rw [Int.sub_self] at hq
    refine (rcmp_same x y z w).mono ?_
    rintro e w' ⟨rfl, hB⟩
    exact ⟨by rw [← hq]; rfl, hB⟩
  · obtain ⟨S, hS⟩ : ∃ S : Nat, max (z : Int) (z2 : Int) = (S : Int) := ⟨max z z2, by omega⟩
    obtain ⟨n, hn⟩ : ∃ n : Nat, max (y.length + (S - z)) (y2.length + (S - z2)) = n := ⟨_, rfl⟩
    have hq0 : q ≠ 0 := by
      intro g
      apply hne
      apply Dm.may_inj h h2
      rw [← hq] at g
      unfold sgI at g
      by_cases g1 : Dm.sg ⟨x, y, z⟩ * Dm.p10 z2 - Dm.sg ⟨x2, y2, z2⟩ * Dm.p10 z < 0
      · rw [if_pos g1] at g; omega
      · by_cases g2 : 0 < Dm.sg ⟨x, y, z⟩ * Dm.p10 z2 - Dm.sg ⟨x2, y2, z2⟩ * Dm.p10 z
        · rw [if_neg g1, if_pos g2] at g; omega
        · show Dm.sg ⟨x, y, z⟩ * Dm.p10 z2 = Dm.sg ⟨x2, y2, z2⟩ * Dm.p10 z
          omega
    have hq2 : sgI (Dm.sgn x (Dm.num y) * Dm.p10 z2 - Dm.sgn x2 (Dm.num y2) * Dm.p10 z) = q := hq
    rw [sgI_scaled hS] at hq2
    have hq3 := lessB_sg (x := x) (x2 := x2) (M := Dm.num y * 10 ^ (S - z)) (N := Dm.num y2 * 10 ^ (S - z2)) (by rw [hq2]; exact hq0)
    rw [hq2] at hq3
    refine (rcmp_other x y z x2 y2 z2 S n (S - z) (S - z2) _ w l2 m2 h.1 h2.1 (by omega) (by omega) (by omega) (by omega) (by omega) (by omega) (by omega) rfl hc).mono ?_
    rintro e w' ⟨rfl, hB⟩
    exact ⟨by rw [← hq3], hB⟩
end Go.Proofs.YtmlmplmghlbdmaaGreatDoor

namespace Go.Proofs.YtmlmplmghlbdmaaGreatDoor
open Go.RowKit
set_option linter.unusedVariables false
set_option linter.unusedSimpArgs false

/-- What the digits have come to. -/
def IntInv (U v : Nat) (L : List UInt8) : Prop := Dm.allD L ∧ Dm.num L + v * 10 ^ L.length = U ∧ L.length ≤ 20
theorem IntInv.next {U v : Nat} {L : List UInt8} (h : IntInv U v L) (hU : U < 18446744073709551616) (hv : 0 < v) {c : UInt8} (hc : c.toNat = 48 + v % 10) : IntInv U (v / 10) (c :: L) := by
  obtain ⟨h1, h2, h3⟩ := h
  have hd : Dm.isD c = true := Dm.isD_iff.2 (by omega)
  have hdv : Dm.dv c = v % 10 := by unfold Dm.dv; omega
  refine ⟨Dm.allD_cons.2 ⟨hd, h1⟩, ?_, ?_⟩
  · rw [Dm.num_cons, hdv, List.length_cons, Nat.pow_succ]
    have e : v % 10 * 10 ^ L.length + v / 10 * (10 ^ L.length * 10) = v * 10 ^ L.length := by
      rw [Nat.mul_comm (10 ^ L.length) 10, ← Nat.mul_assoc, ← Nat.add_mul]; congr 1; omega
    omega
  · have g1 : 10 ^ L.length ≤ v * 10 ^ L.length := Nat.le_mul_of_pos_left _ hv
    have g2 : 10 ^ L.length < 10 ^ 20 := by
      have : (18446744073709551616 : Nat) ≤ 10 ^ 20 := by decide
      omega
    have := (Nat.pow_lt_pow_iff_right (by decide : 1 < 10)).1 g2
    simp; omega
theorem norm_int (n : Int) (L : List UInt8) (b : Bool) (w : World) (hb : b = decide (n < 0)) (hL : L.length ≤ 20) (hd : Dm.allD L) (hn : Dm.num L = n.natAbs) (h64 : n.natAbs < 18446744073709551616) :
    Calls Tryz.prog 43 #[.bool b, .string ⟨L.toArray⟩, .int .i64 0] w fun e w' => e = .returned (.tuple #[.agg #[.bool (Dm.ofInt n).ng, .string ⟨(Dm.ofInt n).ds.toArray⟩, .int .i64 0], .int .i64 0]) ∧ Below w.heap.size w w' := by
  refine (norm_r b L 0 n w (by omega) (by omega) hd ?_).mono ?_
  · rw [hn, hb]; unfold Dm.sgn
    by_cases g : n < 0
    · rw [if_pos (decide_eq_true g)]; omega
    · rw [if_neg (by simpa using g)]; omega
  · rintro e w' ⟨r, rfl, hr, hB⟩
    obtain rfl := (Dm.ofInt_rep h64).1 hr
    exact ⟨rfl, hB⟩
set_option maxRecDepth 100000 in
set_option maxHeartbeats 2000000 in
theorem rint_any (n : Int) (w : World) (h0 : -9223372036854775808 ≤ n) (h1 : n ≤ 9223372036854775807) :
    Calls Tryz.prog 29 #[.int .i64 n] w fun e w' => e = .returned (.agg #[.bool (Dm.ofInt n).ng, .string ⟨(Dm.ofInt n).ds.toArray⟩, .int .i64 0]) ∧ Below w.heap.size w w' := by
  obtain ⟨o1, o2, o3, o4, o5, o6⟩ := (Own.start w).facts
  have hO := Own.start w
  clear o1 o2 o3 o4 o5 o6
  by_cases hneg : n < 0
  · obtain ⟨U, hU⟩ : ∃ U : Nat, -(n + 1) = (U : Int) := ⟨(-(n + 1)).toNat, by omega⟩
    have hUb : (U : Int) ≤ 9223372036854775807 := by omega
    obtain ⟨V, hV2⟩ : ∃ V : Nat, U + 1 = V := ⟨_, rfl⟩
    have hV : (U : Int) + 1 = (V : Int) := by omega
    have hVn : V = n.natAbs := by omega
    have hV64 : V ≤ 9223372036854775808 := by omega
    have HV := hide hVn
    clear hV2 hVn
    go_enter Tryz.func29, Tryz.ntmps29
    go_wp2
    go_loopw [3, 4] (fun u s wr => ∃ (v : Nat) (L : List UInt8), u = .int .u64 (v : Int) ∧ v ≤ V ∧ s = .string ⟨L.toArray⟩ ∧ IntInv V v L ∧ Own w wr) (fun u _ _ => (intOf u).toNat)
    case atStart => exact ⟨V, [], rfl, Nat.le_refl _, rfl, ⟨Dm.allD_nil, by simp [Dm.num], by simp⟩, hO⟩
    case round =>
      clear hO
      obtain ⟨v, L, rfl, hvU, rfl, hI, hO⟩ := hrel
      have hLl := hI.2.2
      have hv64 : (v : Int) ≤ 9223372036854775808 := by omega
      by_cases hv : (0 : Int) < (v : Int)
      · obtain ⟨c, hc⟩ : ∃ c : UInt8, c.toNat = 48 + v % 10 := ⟨_, byte_of (by omega)⟩
        have hI2 := hI.next (by omega) (by omega) hc
        have cv := conv_v (48 + (v : Int) % 10) c (by omega) wr
        have HC := hide hc
        clear hc hI
        go_wp2
        go_roundw
        case rel => exact ⟨v / 10, _, rfl, by omega, congrArg Value.string (cons_join _ _), hI2, hO.step ((Below.refl _ _).alloc (Nat.le_refl _) _)⟩
        case measure => simp only [intOf]; omega
      · have hn : Hid (Dm.num L = n.natAbs) := by
          have := hI.2.1
          obtain rfl : v = 0 := by omega
          have := unhide HV
          show _ = _; omega
        have hd := hI.1
        clear hI
        go_wp2_with (go_at_call 43; refine (norm_int n L _ _ (by simp [hneg]) hLl hd (unhide hn) (by have := unhide HV; omega)).mono ?_; rintro e w5 ⟨rfl, hb5⟩; have hO5 := (hO.step hb5).step ((Below.refl _ _).alloc (Nat.le_refl _) (.cells #[.bool (Dm.ofInt n).ng, .string ⟨(Dm.ofInt n).ds.toArray⟩, .int .i64 0] 23)); obtain ⟨o1, o2, o3, o4, o5, o6⟩ := hO5.facts)
        refine bodyPost_ret (v := .agg #[.bool (Dm.ofInt n).ng, .string ⟨(Dm.ofInt n).ds.toArray⟩, .int .i64 0]) (by simp [results, Tryz.results29, go_sem, o1, o2, o3]) rfl ⟨rfl, hO5.end _ _ _⟩
  · obtain ⟨U, rfl⟩ : ∃ U : Nat, n = (U : Int) := ⟨n.toNat, by omega⟩
    go_enter Tryz.func29, Tryz.ntmps29
    go_wp2
    go_loopw [3, 4] (fun u s wr => ∃ (v : Nat) (L : List UInt8), u = .int .u64 (v : Int) ∧ v ≤ U ∧ s = .string ⟨L.toArray⟩ ∧ IntInv U v L ∧ Own w wr) (fun u _ _ => (intOf u).toNat)
    case atStart => exact ⟨U, [], rfl, Nat.le_refl _, rfl, ⟨Dm.allD_nil, by simp [Dm.num], by simp⟩, hO⟩
    case round =>
      clear hO
      obtain ⟨v, L, rfl, hvU, rfl, hI, hO⟩ := hrel
      have hLl := hI.2.2
      have hv64 : (v : Int) ≤ 9223372036854775808 := by omega
      by_cases hv : (0 : Int) < (v : Int)
      · obtain ⟨c, hc⟩ : ∃ c : UInt8, c.toNat = 48 + v % 10 := ⟨_, byte_of (by omega)⟩
        have hI2 := hI.next (by omega) (by omega) hc
        have cv := conv_v (48 + (v : Int) % 10) c (by omega) wr
        have HC := hide hc
        clear hc hI
        go_wp2
        go_roundw
        case rel => exact ⟨v / 10, _, rfl, by omega, congrArg Value.string (cons_join _ _), hI2, hO.step ((Below.refl _ _).alloc (Nat.le_refl _) _)⟩
        case measure => simp only [intOf]; omega
      · have hn : Hid (Dm.num L = (U : Int).natAbs) := by
          have := hI.2.1
          obtain rfl : v = 0 := by omega
          show _ = _; omega
        have hd := hI.1
        clear hI
        go_wp2_with (go_at_call 43; refine (norm_int (U : Int) L _ _ (by simp) hLl hd (unhide hn) (by omega)).mono ?_; rintro e w5 ⟨rfl, hb5⟩; have hO5 := (hO.step hb5).step ((Below.refl _ _).alloc (Nat.le_refl _) (.cells #[.bool (Dm.ofInt (U : Int)).ng, .string ⟨(Dm.ofInt (U : Int)).ds.toArray⟩, .int .i64 0] 23)); obtain ⟨o1, o2, o3, o4, o5, o6⟩ := hO5.facts)
        refine bodyPost_ret (v := .agg #[.bool (Dm.ofInt (U : Int)).ng, .string ⟨(Dm.ofInt (U : Int)).ds.toArray⟩, .int .i64 0]) (by simp [results, Tryz.results29, go_sem, o1, o2, o3]) rfl ⟨rfl, hO5.end _ _ _⟩
end Go.Proofs.YtmlmplmghlbdmaaGreatDoor

namespace Go.Proofs.YtmlmplmghlbdmaaGreatDoor
set_option linter.unusedVariables false
set_option linter.unusedSimpArgs false
namespace Dm

/-- What sums of places are worth, the highest place first. -/
def VR : List Nat → Nat
  | [] => 0
  | x :: t => x * 10 ^ t.length + VR t
theorem VR_zero (n : Nat) : VR (List.replicate n 0) = 0 := by
  induction n with
  | zero => rfl
  | succ n ih => rw [List.replicate_succ, VR, ih]; simp
theorem VR_set (S : List Nat) (p x : Nat) (h : p < S.length) : VR (S.set p (S.getD p 0 + x)) = VR S + x * 10 ^ (S.length - 1 - p) := by
  induction S generalizing p with
  | nil => simp at h
  | cons y t ih =>
    cases p with
    | zero =>
      simp only [List.set_cons_zero, VR, List.getD_cons_zero, List.length_cons]
      rw [show t.length + 1 - 1 - 0 = t.length by omega, Nat.add_mul]; omega
    | succ p =>
      have h' : p < t.length := by simpa using h
      have := ih p h'
      simp only [List.set_cons_succ, VR, List.getD_cons_succ, this, List.length_cons, List.length_set]
      rw [show t.length + 1 - 1 - (p + 1) = t.length - 1 - p by omega]; omega
theorem VR_drop (S : List Nat) (j : Nat) (h : j < S.length) : VR (S.drop j) = S.getD j 0 * 10 ^ (S.length - 1 - j) + VR (S.drop (j + 1)) := by
  have e2 : S.getD j 0 = S[j] := by simp [List.getD, h]
  rw [List.drop_eq_getElem_cons h, VR, List.length_drop, e2, show S.length - (j + 1) = S.length - 1 - j by omega]
theorem num_take_next {l : List UInt8} {k : Nat} (h : k < l.length) : num (l.take (k + 1)) * 10 ^ (l.length - (k + 1)) = num (l.take k) * 10 ^ (l.length - k) + dv l[k] * 10 ^ (l.length - 1 - k) := by
  rw [List.take_succ_eq_append_getElem h, num_snoc, show l.length - (k + 1) = l.length - 1 - k by omega, Nat.add_mul, show l.length - k = (l.length - 1 - k) + 1 by omega, Nat.pow_succ]
  congr 1
  rw [Nat.mul_comm (10 ^ (l.length - 1 - k)) 10, ← Nat.mul_assoc, Nat.mul_comm (num _) 10]
/-- The part that i digits of the first, and k digits of the next one, have made. -/
theorem rmul_inner {A B d X e u v w : Nat} (hB : B = X + e * 10 ^ v) : d * 10 ^ u * X + d * e * 10 ^ (u + v) = d * 10 ^ u * B := by
  subst hB
  rw [Nat.mul_add, Nat.pow_add]
  congr 1
  rw [Nat.mul_assoc, Nat.mul_assoc]
  congr 1
  rw [← Nat.mul_assoc, ← Nat.mul_assoc, Nat.mul_comm e]
theorem rmul_outer {A X d B u : Nat} (hA : A = X + d * 10 ^ u) : X * B + d * 10 ^ u * B = A * B := by
  subst hA; rw [Nat.add_mul]
end Dm
end Go.Proofs.YtmlmplmghlbdmaaGreatDoor

namespace Go.Proofs.YtmlmplmghlbdmaaGreatDoor
open Go.RowKit
set_option linter.unusedVariables false
set_option linter.unusedSimpArgs false

theorem Tri.step {w0 w w' : World} {a b c x y z : Value} {B : Nat} (h : Tri w0 a b c x y z w) (hB : w0.heap.size + 2 < B) (hb : Below B w w') : Tri w0 a b c x y z w' := by
  obtain ⟨h1, h2, ⟨p, q, r⟩, ⟨s, t, u⟩⟩ := h
  refine ⟨h1.step (by omega) hb, Nat.lt_of_lt_of_le h2 hb.size, ⟨?_, ?_, ?_⟩, ⟨?_, ?_, ?_⟩⟩
  · rw [hb.cell (p := ⟨w0.heap.size + 2, 0, none⟩) hB]; exact p
  · rw [hb.cell (p := ⟨w0.heap.size + 2, 1, none⟩) hB]; exact q
  · rw [hb.cell (p := ⟨w0.heap.size + 2, 2, none⟩) hB]; exact r
  · rw [hb.frozen (p := ⟨w0.heap.size + 2, 0, none⟩) hB]; exact s
  · rw [hb.frozen (p := ⟨w0.heap.size + 2, 1, none⟩) hB]; exact t
  · rw [hb.frozen (p := ⟨w0.heap.size + 2, 2, none⟩) hB]; exact u
/-- Where the sums have come to. -/
def RSum (w0 : World) (a b c x y z : Value) (g n X m : Nat) (wr : World) : Prop :=
  ∃ S : List Nat, S.length = n ∧ Dm.VR S = X ∧ (∀ p, p < n → S.getD p 0 ≤ m) ∧ Ints wr g S ∧ (∀ j, j < n → wr.frozen? ⟨g, j, none⟩ = false) ∧ Tri w0 a b c x y z wr ∧ w0.heap.size + 2 < g ∧ g < wr.heap.size
theorem RSum.next {w0 : World} {a b c x y z : Value} {g n X m : Nat} {wr w' : World} (h : RSum w0 a b c x y z g n X m wr) (hb : Below wr.heap.size wr w') : RSum w0 a b c x y z g n X m w' := by
  obtain ⟨S, h1, h2, h3, h4, h5, h6, h7, h8⟩ := h
  refine ⟨S, h1, h2, h3, h4.below hb, ?_, h6.next hb, h7, Nat.lt_of_lt_of_le h8 hb.size⟩
  intro j hj
  rw [hb.frozen (p := ⟨g, j, none⟩) h8]
  exact h5 j hj
theorem RSum.more {w0 : World} {a b c x y z : Value} {g n X m m' : Nat} {wr : World} (h : RSum w0 a b c x y z g n X m wr) (hm : m ≤ m') : RSum w0 a b c x y z g n X m' wr := by
  obtain ⟨S, h1, h2, h3, h4⟩ := h
  exact ⟨S, h1, h2, fun p hp => Nat.le_trans (h3 p hp) hm, h4⟩
theorem RSum.step {w0 : World} {a b c x y z : Value} {g n X m : Nat} {wr : World} (h : RSum w0 a b c x y z g n X m wr) {p d e s : Nat} (hp : p < n) (hd : d ≤ 9) (he : e ≤ 9) (hs : wr.cell? ⟨g, p, none⟩ = some (.int .i64 (s : Int))) (v : Int) (hv : v = (s : Int) + (d : Int) * (e : Int)) :
    RSum w0 a b c x y z g n (X + d * e * 10 ^ (n - 1 - p)) (m + 81) (wr.setCell ⟨g, p, none⟩ (.int .i64 v)) := by
  obtain ⟨S, h1, h2, h3, h4, h5, h6, h7, h8⟩ := h
  have hS : S.getD p 0 = s := by
    have := h4 p (by omega)
    rw [hs] at this
    injection this with this
    injection this with _ this
    omega
  have hv2 : v = ((S.getD p 0 + d * e : Nat) : Int) := by rw [hv, hS]; simp
  refine ⟨S.set p (S.getD p 0 + d * e), by rw [List.length_set]; exact h1, ?_, ?_, ?_, ?_, ?_, h7, by simpa [World.setCell] using h8⟩
  · rw [Dm.VR_set S p _ (by omega), h2, h1]
  · intro q hq
    have hde : d * e ≤ 9 * 9 := Nat.mul_le_mul hd he
    by_cases g1 : p = q
    · subst g1
      have := h3 p hq
      simp only [List.getD, List.getElem?_set_self (show p < S.length by omega), Option.getD_some] at this ⊢
      omega
    · have := h3 q hq
      simp only [List.getD, List.getElem?_set_ne g1] at this ⊢
      omega
  · rw [hv2]; exact h4.set p _
  · intro j hj
    rw [World.frozen?_setCell]
    exact h5 j hj
  · exact h6.step h7 ((Below.refl g wr).setCell (Nat.le_refl _) _)
theorem wrap_ok {n : Int} (h1 : -1000000000 ≤ n) (h2 : n ≤ 1000000000) : IntKind.i64.wrap n = n := by
  rw [IntKind.wrap_i64]; omega
/-- Where the digits have come to: those from j on are laid, cy is carried. -/
def RDig (w0 : World) (a b c x y z : Value) (g g2 n : Nat) (S : List Nat) (j cy : Nat) (wr : World) : Prop :=
  ∃ L : List UInt8, L.length = n ∧ Dm.allD (L.drop j) ∧ Dm.VR (S.drop j) = Dm.num (L.drop j) + cy * 10 ^ (n - j) ∧ Row wr g2 0 L ∧ (∀ i, i < n → wr.frozen? ⟨g2, i, none⟩ = false) ∧ Ints wr g S ∧ Tri w0 a b c x y z wr ∧ w0.heap.size + 2 < g ∧ g < g2
theorem RDig.step {w0 : World} {a b c x y z : Value} {g g2 n : Nat} {S : List Nat} {m cy : Nat} {wr : World} (h : RDig w0 a b c x y z g g2 n S (m + 1) cy wr) (hS : S.length = n) (hm : m < n) {t : Nat} (v : Int) (ht : t = S.getD m 0 + cy) (hv : v = 48 + ((t % 10 : Nat) : Int)) :
    RDig w0 a b c x y z g g2 n S m (t / 10) (wr.setCell ⟨g2, m, none⟩ (.int .u8 v)) := by
  obtain ⟨L, hL, hLd, heq, hrow, hfz, hI, hT, hg1, hg2⟩ := h
  obtain ⟨q, hq⟩ : ∃ q : UInt8, q.toNat = 48 + t % 10 := ⟨_, byte_of (by omega)⟩
  have hv2 : v = (q.toNat : Int) := by omega
  subst hv2
  have hdv : Dm.dv q = t % 10 := by unfold Dm.dv; omega
  have hdD : Dm.isD q = true := Dm.isD_iff.2 (by omega)
  have hdrop := Dm.drop_set_len (l := L) (j := m) (by omega) q
  refine ⟨L.set m q, by rw [List.length_set]; exact hL, ?_, ?_, hrow.set m q, ?_, ?_, hT.step (B := g2) (by omega) ((Below.refl g2 wr).setCell (Nat.le_refl _) _), hg1, hg2⟩
  · rw [hdrop]; exact Dm.allD_cons.2 ⟨hdD, hLd⟩
  · rw [hdrop, Dm.num_cons, hdv, Dm.VR_drop S m (by omega), heq, List.length_drop, hL, hS, show n - 1 - m = n - (m + 1) by omega, show n - m = n - (m + 1) + 1 by omega, Nat.pow_succ]
    have e1 : t / 10 * (10 ^ (n - (m + 1)) * 10) = (t / 10 * 10) * 10 ^ (n - (m + 1)) := by rw [Nat.mul_comm (10 ^ (n - (m + 1))) 10, Nat.mul_assoc]
    have e2 : (t % 10) * 10 ^ (n - (m + 1)) + (t / 10 * 10) * 10 ^ (n - (m + 1)) = (S.getD m 0) * 10 ^ (n - (m + 1)) + cy * 10 ^ (n - (m + 1)) := by
      rw [← Nat.add_mul, ← Nat.add_mul]; congr 1; omega
    omega
  · intro i hi
    rw [World.frozen?_setCell]
    exact hfz i hi
  · intro p hp
    rw [World.cell?_setCell_other (w := wr) (a := ⟨g2, m, none⟩) (b := ⟨g, p, none⟩) (h := by intro q; injection q with q1; omega)]
    exact hI p hp
theorem RDig.start {w0 : World} {a b c x y z : Value} {g n : Nat} {S : List Nat} {wr : World} (hS : S.length = n) (hI : Ints wr g S) (hT : Tri w0 a b c x y z wr) (h1 : w0.heap.size + 2 < g) (h2 : g < wr.heap.size) :
    RDig w0 a b c x y z g wr.heap.size n S n 0 (wr.alloc (.cells (madeCells #[.int .u8 0] n) 5)) := by
  refine ⟨List.replicate n 0, by simp, ?_, ?_, row_made wr n, fun j hj => frozen_made wr _ 5 j, hI.below ((Below.refl _ _).alloc (Nat.le_refl _) _), hT.next ((Below.refl _ _).alloc (Nat.le_refl _) _), h1, h2⟩
  · rw [List.drop_of_length_le (by simp)]; exact Dm.allD_nil
  · rw [List.drop_of_length_le (by omega), List.drop_of_length_le (by simp)]; simp [Dm.VR, Dm.num]
theorem RDig.fin {w0 : World} {a b c x y z : Value} {g g2 n : Nat} {S : List Nat} {cy A B : Nat} {wr : World} (h : RDig w0 a b c x y z g g2 n S 0 cy wr) (hV : Dm.VR S = A * B) (hAB : A * B < 10 ^ n) : ∃ L : List UInt8, L.length = n ∧ Dm.allD L ∧ Dm.num L = A * B ∧ Row wr g2 0 L ∧ Tri w0 a b c x y z wr := by
  obtain ⟨L, h1, h2, h3, h4, h5, h6, h7, h8⟩ := h
  simp only [List.drop_zero, Nat.sub_zero] at h2 h3
  have hl := Dm.num_lt h2
  rw [h1] at hl
  refine ⟨L, h1, h2, ?_, h4, h7⟩
  rw [hV] at h3
  cases cy with
  | zero => omega
  | succ c => exfalso; rw [Nat.add_mul] at h3; omega
/-- The three blocks, as the sums' relation holds them. -/
theorem RSum.tri {w0 : World} {a b c x y z : Value} {g n X m : Nat} {wr : World} (h : RSum w0 a b c x y z g n X m wr) : Tri w0 a b c x y z wr := by
  obtain ⟨S, _, _, _, _, _, h, _⟩ := h; exact h
theorem RSum.at {w0 : World} {a b c x y z : Value} {g n X m : Nat} {wr : World} (h : RSum w0 a b c x y z g n X m wr) {p : Nat} (hp : p < n) : ∃ s : Nat, wr.cell? ⟨g, p, none⟩ = some (.int .i64 (s : Int)) ∧ s ≤ m ∧ wr.frozen? ⟨g, p, none⟩ = false := by
  obtain ⟨S, h1, h2, h3, h4, h5, _⟩ := h
  exact ⟨_, h4 p (by omega), h3 p hp, h5 p hp⟩
theorem RSum.start (w : World) (x1 x2 : Bool) (s1 s2 : ByteArray) (ja jb n : Nat) : RSum w (.bool x1) (.string s1) (.int .i64 (ja : Int)) (.bool x2) (.string s2) (.int .i64 (jb : Int)) (w.heap.size + 1 + 1 + 1) n 0 0 ((((w.alloc (.cells #[.bool x1, .string s1, .int .i64 (ja : Int)] 23)).alloc (.cells #[.bool x2, .string s2, .int .i64 (jb : Int)] 23)).alloc (.cells #[.bool false, .string ⟨#[]⟩, .int .i64 0] 23)).alloc (.cells (madeCells #[.int .i64 0] n) 3)) := by
  have ht1 := Tri.start w (.bool x1) (.string s1) (.int .i64 (ja : Int)) (.bool x2) (.string s2) (.int .i64 (jb : Int)) 23
  have hz : (((w.alloc (.cells #[.bool x1, .string s1, .int .i64 (ja : Int)] 23)).alloc (.cells #[.bool x2, .string s2, .int .i64 (jb : Int)] 23)).alloc (.cells #[.bool false, .string ⟨#[]⟩, .int .i64 0] 23)).heap.size = w.heap.size + 1 + 1 + 1 := by simp
  generalize ((w.alloc (.cells #[.bool x1, .string s1, .int .i64 (ja : Int)] 23)).alloc (.cells #[.bool x2, .string s2, .int .i64 (jb : Int)] 23)).alloc (.cells #[.bool false, .string ⟨#[]⟩, .int .i64 0] 23) = W at ht1 hz ⊢
  refine ⟨List.replicate n 0, by simp, Dm.VR_zero n, fun p hp => by simp [List.getD, hp], ?_, ?_, ht1.next ((Below.refl _ _).alloc (Nat.le_refl _) _), by omega, by simp [hz]⟩
  · rw [← hz]; exact ints_made W n 3
  · intro j hj; rw [← hz]; exact frozen_made W (madeCells #[.int .i64 0] n) 3 j
theorem dv_of {s : ByteArray} {l : List UInt8} {k d : Nat} (e : s.data.toList = l) (hk : k < s.size) (hk2 : k < l.length) (h : (s[k].toNat : Int) - 48 = (d : Int)) : Dm.dv l[k] = d := by
  subst e
  rw [ba_get s k hk] at h
  unfold Dm.dv; omega
theorem rmul_in {s1 s2 : ByteArray} {a b : List UInt8} {k q n t dA dB X : Nat} (eb : s2.data.toList = b) (hla : a.length = s1.size) (hlb : b.length = s2.size) (h1 : k < s1.size) (h2 : q < s2.size) (hn : s1.size + s2.size = n) (ht : t = k + q + 1) (hdB : (s2[q].toNat : Int) - 48 = (dB : Int)) :
    X + dA * 10 ^ (a.length - 1 - k) * (Dm.num (b.take q) * 10 ^ (b.length - q)) + dA * dB * 10 ^ (n - 1 - t) = X + dA * 10 ^ (a.length - 1 - k) * (Dm.num (b.take (q + 1)) * 10 ^ (b.length - (q + 1))) := by
  have hv := dv_of eb h2 (by omega) hdB
  have e := Dm.num_take_next (l := b) (k := q) (by omega)
  rw [hv] at e
  have e2 := Dm.rmul_inner (A := 0) (B := Dm.num (b.take (q + 1)) * 10 ^ (b.length - (q + 1))) (d := dA) (X := Dm.num (b.take q) * 10 ^ (b.length - q)) (e := dB) (u := a.length - 1 - k) (v := b.length - 1 - q) (w := 0) e
  rw [show n - 1 - t = (a.length - 1 - k) + (b.length - 1 - q) by omega, Nat.add_assoc, e2]
theorem rmul_out {s1 s2 : ByteArray} {a b : List UInt8} {k dA : Nat} (ea : s1.data.toList = a) (hla : a.length = s1.size) (hlb : b.length = s2.size) (h1 : k < s1.size) (hdA : (s1[k].toNat : Int) - 48 = (dA : Int)) :
    Dm.num (a.take k) * 10 ^ (a.length - k) * Dm.num b + dA * 10 ^ (a.length - 1 - k) * (Dm.num (b.take s2.size) * 10 ^ (b.length - s2.size)) = Dm.num (a.take (k + 1)) * 10 ^ (a.length - (k + 1)) * Dm.num b := by
  have hv := dv_of ea h1 (by omega) hdA
  have e := Dm.num_take_next (l := a) (k := k) (by omega)
  rw [hv] at e
  rw [← hlb, List.take_length, Nat.sub_self, Nat.pow_zero, Nat.mul_one]
  exact Dm.rmul_outer e
set_option maxRecDepth 100000 in
set_option maxHeartbeats 4000000 in
theorem rmul_walk (x1 x2 : Bool) (s1 s2 : ByteArray) (a b : List UInt8) (ja jb : Nat) (w : World) (ha1 : 1 ≤ s1.size) (ha : s1.size ≤ 60) (hb : s2.size ≤ 60) (hja : ja ≤ 60) (hjb : jb ≤ 60) (da : Dm.allD s1.data.toList) (db : Dm.allD s2.data.toList) (ea : Hid (s1.data.toList = a)) (eb : Hid (s2.data.toList = b)) :
    Calls Tryz.prog 26 #[.agg #[.bool x1, .string s1, .int .i64 (ja : Int)], .agg #[.bool x2, .string s2, .int .i64 (jb : Int)]] w fun e w' => ∃ r, e = .returned (.tuple #[.agg #[.bool (rx r), .string (ry r), .int .i64 (rz r)], .int .i64 (re r)]) ∧ Dm.Rep (Dm.sgn (x1 != x2) (Dm.num a * Dm.num b)) (ja + jb) r ∧ Below w.heap.size w w' := by
  obtain ⟨n, hn⟩ : ∃ n : Nat, (s1.size : Int) + (s2.size : Int) = (n : Int) := ⟨s1.size + s2.size, by omega⟩
  have hn1 : n ≤ 120 := by omega
  have hS0 := RSum.start w x1 x2 s1 s2 ja jb n
  have hla : Hid (a.length = s1.size) := by show _ = _; rw [← unhide ea, ← size_len]
  have hlb : Hid (b.length = s2.size) := by show _ = _; rw [← unhide eb, ← size_len]
  have mk := fun W => run_make_row' (P := Tryz.prog) 60 3 (.int .i64 0) 8 Tryz.underlying60 (by kernel_rfl) rfl .i64 .i64 n (by omega) (by omega) W
  go_enter Tryz.func26, Tryz.ntmps26
  go_wp2
  have HN := hide hn
  clear hn mk
  go_loopw [8, 9, 10] (fun i _ _ wr => ∃ k : Nat, k ≤ s1.size ∧ i = .int .i64 k ∧ RSum w (.bool x1) (.string s1) (.int .i64 (ja : Int)) (.bool x2) (.string s2) (.int .i64 (jb : Int)) (w.heap.size + 1 + 1 + 1) n (Dm.num (a.take k) * 10 ^ (a.length - k) * Dm.num b) (81 * 60 * k) wr) (fun i _ _ _ => s1.size - (intOf i).toNat)
  case atStart => exact ⟨0, Nat.zero_le _, rfl, by simpa [Dm.num] using hS0⟩
  case round =>
    clear hS0
    obtain ⟨k, hk, rfl, hinv⟩ := hrel
    obtain ⟨wo, rfl⟩ : ∃ wo : World, wo = wr := ⟨_, rfl⟩
    obtain ⟨⟨c0, c1, c2⟩, ⟨d0, d1, d2⟩⟩ := hinv.tri.cells
    have HINV := hide hinv
    clear hinv
    by_cases hlt : k < s1.size
    · obtain ⟨dA, hdA⟩ : ∃ dA : Nat, (s1[k].toNat : Int) - 48 = (dA : Int) := ⟨((s1[k].toNat : Int) - 48).toNat, by have := digit_bd da hlt; omega⟩
      have HDA := hide hdA
      clear hdA
      go_wp2
      clear c0 c1 c2 d0 d1 d2
      go_loopw [9, 10] (fun j _ wr => ∃ q : Nat, q ≤ s2.size ∧ j = .int .i64 q ∧ RSum w (.bool x1) (.string s1) (.int .i64 (ja : Int)) (.bool x2) (.string s2) (.int .i64 (jb : Int)) (w.heap.size + 1 + 1 + 1) n (Dm.num (a.take k) * 10 ^ (a.length - k) * Dm.num b + dA * 10 ^ (a.length - 1 - k) * (Dm.num (b.take q) * 10 ^ (b.length - q))) (81 * 60 * k + 81 * q) wr) (fun j _ _ => s2.size - (intOf j).toNat)
      case atStart => exact ⟨0, Nat.zero_le _, rfl, by simpa [Dm.num] using unhide HINV⟩
      case round =>
        obtain ⟨q, hq, rfl, hinv⟩ := hrel
        obtain ⟨⟨c0, c1, c2⟩, ⟨d0, d1, d2⟩⟩ := hinv.tri.cells
        have HI := hide hinv
        clear hinv
        by_cases hlt2 : q < s2.size
        · have hn3 : s1.size + s2.size = n := by have := unhide HN; omega
          obtain ⟨t, ht⟩ : ∃ t : Nat, (n : Int) - 1 - ((s1.size : Int) - 1 - (k : Int)) - ((s2.size : Int) - 1 - (q : Int)) = (t : Int) := ⟨k + q + 1, by omega⟩
          have htn : t < n := by omega
          obtain ⟨dB, hdB⟩ : ∃ dB : Nat, (s2[q].toNat : Int) - 48 = (dB : Int) := ⟨((s2[q].toNat : Int) - 48).toNat, by have := digit_bd db hlt2; omega⟩
          obtain ⟨s, hs1, hs2, hsf⟩ := (unhide HI).at htn
          have hdA := unhide HDA
          have b1 := digit_bd da hlt
          have b2 := digit_bd db hlt2
          have hA9 : dA ≤ 9 := by omega
          have hB9 : dB ≤ 9 := by omega
          have hpr : (dA : Int) * (dB : Int) ≤ 81 := by
            have : dA * dB ≤ 9 * 9 := Nat.mul_le_mul (by omega) (by omega)
            have e : ((dA * dB : Nat) : Int) = (dA : Int) * (dB : Int) := Int.natCast_mul dA dB
            omega
          have hpr0 : (0 : Int) ≤ (dA : Int) * (dB : Int) := Int.mul_nonneg (by omega) (by omega)
          have hs9 : (s : Int) ≤ 1000000 := by omega
          have hw1 : IntKind.i64.wrap ((dA : Int) * (dB : Int)) = (dA : Int) * (dB : Int) := wrap_ok (by omega) (by omega)
          have hw2 : IntKind.i64.wrap ((s : Int) + (dA : Int) * (dB : Int)) = (s : Int) + (dA : Int) * (dB : Int) := wrap_ok (by omega) (by omega)
          have i1 : (k : Int) < (s1.size : Int) := by omega
          have i2 : (q : Int) < (s2.size : Int) := by omega
          have i3 : (t : Int) < (n : Int) := by omega
          obtain ⟨b11, b12⟩ := b1
          obtain ⟨b21, b22⟩ := b2
          go_wp2_with fail
          go_region
          all_goals go_wp2
          all_goals
            go_roundw
            case rel =>
              refine ⟨q + 1, by omega, by go_num, ?_⟩
              have hst := (unhide HI).step htn hA9 hB9 hs1 _ rfl
              rw [rmul_in (unhide eb) (unhide hla) (unhide hlb) hlt hlt2 hn3 (by omega) hdB] at hst
              exact (hst.more (by omega)).next (Below.refl _ _).drew
            case measure => simp [intOf]; omega
        · obtain rfl : q = s2.size := by omega
          go_wp2
          go_roundw
          case rel =>
            refine ⟨k + 1, by omega, by go_num, ?_⟩
            have h := unhide HI
            rw [rmul_out (unhide ea) (unhide hla) (unhide hlb) hlt (unhide HDA)] at h
            exact h.more (by omega)
          case measure => simp [intOf]; omega
    · obtain rfl : k = s1.size := by omega
      obtain ⟨S, h1, h2, h3, h4, h5, h6, h7, h8⟩ := unhide HINV
      have hV : Hid (Dm.VR S = Dm.num a * Dm.num b) := by
        show _ = _
        rw [h2, ← unhide hla, List.take_length, Nat.sub_self, Nat.pow_zero, Nat.mul_one]
      have hAB : Hid (Dm.num a * Dm.num b < 10 ^ n) := by
        show _ < _
        have g1 := Dm.num_lt (l := a) (by rw [← unhide ea]; exact da)
        have g2 := Dm.num_lt (l := b) (by rw [← unhide eb]; exact db)
        have g3 : Dm.num a * Dm.num b < 10 ^ a.length * 10 ^ b.length := Nat.mul_lt_mul'' g1 g2
        rw [← Nat.pow_add, unhide hla, unhide hlb] at g3
        have := unhide HN
        rw [show s1.size + s2.size = n by omega] at g3; exact g3
      have hR := RDig.start h1 h4 h6 h7 h8
      have mk2 := run_make_row' (P := Tryz.prog) 38 5 (.int .u8 0) 1 Tryz.underlying38 (by kernel_rfl) rfl .i64 .i64 n (by omega) (by omega) wo
      have HS := hide h1
      clear h1 h2 h4 h5 h6 HINV
      go_wp2
      clear mk2 c0 c1 c2 d0 d1 d2
      go_loopw [12, 13, 14] (fun c i _ wr => ∃ j cy : Nat, j ≤ n ∧ i = .int .i64 ((j : Int) - 1) ∧ c = .int .i64 (cy : Int) ∧ (cy : Int) ≤ 1000000 ∧ RDig w (.bool x1) (.string s1) (.int .i64 (ja : Int)) (.bool x2) (.string s2) (.int .i64 (jb : Int)) (w.heap.size + 1 + 1 + 1) wo.heap.size n S j cy wr) (fun _ i _ _ => (intOf i + 1).toNat)
      case atStart => exact ⟨n, 0, Nat.le_refl _, rfl, rfl, by omega, hR⟩
      case round =>
        clear hR
        obtain ⟨j, cy, hj, rfl, rfl, hcy, hinv⟩ := hrel
        cases j with
        | zero =>
          obtain ⟨L, f1, f2, f3, f4, f5⟩ := hinv.fin (unhide hV) (unhide hAB)
          obtain ⟨⟨c0, c1, c2⟩, ⟨d0, d1, d2⟩⟩ := f5.cells
          have cv := conv_row wo.heap.size 0 n n L wr f1 f4
          obtain ⟨J, hJ⟩ : ∃ J : Nat, (ja : Int) + (jb : Int) = (J : Int) := ⟨ja + jb, by omega⟩
          have hJ2 : Hid (ja + jb = J) := by show _ = _; omega
          have hJ3 : J ≤ 120 := by omega
          have F1 := hide f1
          have F3 := hide f3
          clear hinv f1 f3 f4
          go_wp2_with (go_at_call 43; refine (norm_r _ L J _ _ (by have := unhide F1; omega) (by omega) f2 rfl).mono ?_; rintro e w5 ⟨r, rfl, hrep, hb5⟩; have ht5 := f5.next hb5; obtain ⟨⟨k0, k1, k2⟩, ⟨f0, f01, f02⟩⟩ := ht5.out; have HREP := hide hrep; clear hrep hb5)
          refine bodyPost_ret (v := tV r) ?_ rfl ⟨r, rfl, ?_, ht5.end _ _ _⟩
          · simp [results, Tryz.results26, go_sem, k0, k1, k2, tV]
          · have := unhide HREP
            rw [unhide F3, ← unhide hJ2] at this
            exact this
        | succ m =>
          have e1 : (((m + 1 : Nat) : Int) - 1) = (m : Int) := by omega
          rw [e1]
          clear e1
          obtain ⟨L, i1, i2, i3, i4, i5, i6, i7, i8, i9⟩ := id hinv
          obtain ⟨s, hs1, hs2⟩ : ∃ s : Nat, wr.cell? ⟨w.heap.size + 1 + 1 + 1, m, none⟩ = some (.int .i64 (s : Int)) ∧ (s : Int) ≤ 1000000 := ⟨_, i6 m (by have := unhide HS; omega), by have := h3 m (by omega); omega⟩
          have hst : wr.cell? ⟨wo.heap.size, m, none⟩ = some (.int .u8 ((L.getD m 0).toNat : Int)) := by
            have := i4 m (by omega)
            rw [Nat.zero_add] at this; exact this
          have hsf : wr.frozen? ⟨wo.heap.size, m, none⟩ = false := i5 _ (by omega)
          have hmn : (m : Int) < (n : Int) := by omega
          have hSm : Hid (s = S.getD m 0) := by
            have := i6 m (by have := unhide HS; omega)
            rw [hs1] at this
            injection this with this
            injection this with _ this
            show _ = _; omega
          have HI := hide hinv
          clear hinv i1 i2 i3 i4 i5 i6 i7 i8 i9
          go_wp2
          go_roundw
          case rel =>
            refine ⟨m, (s + cy) / 10, by omega, by go_num, by go_num, by omega, ?_⟩
            exact (unhide HI).step (unhide HS) (by omega) (t := s + cy) _ (by rw [unhide hSm]) (by omega)
          case measure => simp only [intOf]; omega
end Go.Proofs.YtmlmplmghlbdmaaGreatDoor
