/- What is proved here: what the law DecInts does with any two numbers and any decimal, walked; conditions: the table of powers of ten lies in the world. -/
import Derived.Test.YtijelgmmmceflaaDoorTi
import Derived.Test.YtijelgmmmceflaaDoorXh
import Derived.Test.YtijelgmmmceflaaDoorXo
import Derived.Deep.CutRange
namespace Go.Proofs.YtijelgmmmceflaaDoor
open Go.RowKit
set_option linter.unusedVariables false
set_option linter.unusedSimpArgs false

theorem rem_bd (x : Int) : -2147483648 < x.tmod 2147483648 ∧ x.tmod 2147483648 < 2147483648 := by
  have h := Int.tmod_lt_of_pos x (b := 2147483648) (by decide)
  have h2 := Int.lt_tmod_of_pos x (b := 2147483648) (by decide)
  omega
theorem prod_bd {a b : Int} (ha : -2147483648 < a ∧ a < 2147483648) (hb : -2147483648 < b ∧ b < 2147483648) : -4611686018427387904 ≤ a * b ∧ a * b ≤ 4611686018427387904 := by
  have h : (a * b).natAbs ≤ 2147483648 * 2147483648 := by
    rw [Int.natAbs_mul]; exact Nat.mul_le_mul (by omega) (by omega)
  omega
theorem mul_d (x : Bool) (l : List UInt8) (j : Nat) (y : Bool) (m : List UInt8) (k : Nat) (w : World) (ha : Dm.May ⟨x, l, j⟩) (hb : Dm.May ⟨y, m, k⟩) :
    Calls Tryd.prog 25 #[.agg #[.bool x, .string ⟨l.toArray⟩, .int .i64 (j : Int)], .agg #[.bool y, .string ⟨m.toArray⟩, .int .i64 (k : Int)]] w fun e w' => ∃ r, e = .returned (.tuple #[.agg #[.bool (rx r), .string (ry r), .int .i64 (rz r)], .int .i64 (re r)]) ∧ Dm.Rep (Dm.sg ⟨x, l, j⟩ * Dm.sg ⟨y, m, k⟩) (j + k) r ∧ Below w.heap.size w w' :=
  mul_r ⟨x, l, j⟩ ⟨y, m, k⟩ w ha hb
theorem mul_ten' (x : Bool) (l : List UInt8) (j : Nat) (w : World) (ha : Dm.May ⟨x, l, j⟩) :
    Calls Tryd.prog 25 #[.agg #[.bool x, .string ⟨l.toArray⟩, .int .i64 (j : Int)], .agg #[.bool false, .string ⟨#[49, 48]⟩, .int .i64 0]] w fun e w' => ∃ r, e = .returned (.tuple #[.agg #[.bool (rx r), .string (ry r), .int .i64 (rz r)], .int .i64 (re r)]) ∧ Dm.Rep (Dm.sg ⟨x, l, j⟩ * Dm.sg ⟨false, [49, 48], 0⟩) (j + 0) r ∧ Below w.heap.size w w' :=
  mul_d x l j false [49, 48] 0 w ha ten_may
theorem mul_tenth' (x : Bool) (l : List UInt8) (j : Nat) (w : World) (ha : Dm.May ⟨x, l, j⟩) :
    Calls Tryd.prog 25 #[.agg #[.bool x, .string ⟨l.toArray⟩, .int .i64 (j : Int)], .agg #[.bool false, .string ⟨#[49]⟩, .int .i64 1]] w fun e w' => ∃ r, e = .returned (.tuple #[.agg #[.bool (rx r), .string (ry r), .int .i64 (rz r)], .int .i64 (re r)]) ∧ Dm.Rep (Dm.sg ⟨x, l, j⟩ * Dm.sg ⟨false, [49], 1⟩) (j + 1) r ∧ Below w.heap.size w w' :=
  mul_d x l j false [49] 1 w ha tenth_may
theorem mul_one' (x : Bool) (l : List UInt8) (j : Nat) (w : World) (ha : Dm.May ⟨x, l, j⟩) :
    Calls Tryd.prog 25 #[.agg #[.bool x, .string ⟨l.toArray⟩, .int .i64 (j : Int)], .agg #[.bool false, .string ⟨#[49]⟩, .int .i64 0]] w fun e w' => e = .returned (.tuple #[.agg #[.bool x, .string ⟨l.toArray⟩, .int .i64 (j : Int)], .int .i64 0]) ∧ Below w.heap.size w w' := by
  refine (mul_d x l j false [49] 0 w ha one_may).mono ?_
  rintro e w' ⟨r, rfl, hr, hB⟩
  have := one_rep (d := ⟨x, l, j⟩) ha hr
  subst this
  exact ⟨rfl, hB⟩
theorem mul_nought' (x : Bool) (l : List UInt8) (j : Nat) (w : World) (ha : Dm.May ⟨x, l, j⟩) :
    Calls Tryd.prog 25 #[.agg #[.bool x, .string ⟨l.toArray⟩, .int .i64 (j : Int)], .agg #[.bool false, .string ⟨#[48]⟩, .int .i64 0]] w fun e w' => e = .returned (.tuple #[.agg #[.bool false, .string ⟨#[48]⟩, .int .i64 0], .int .i64 0]) ∧ Below w.heap.size w w' := by
  refine (mul_d x l j false [48] 0 w ha Dm.zero_may).mono ?_
  rintro e w' ⟨r, rfl, hr, hB⟩
  have := nought_rep (d := ⟨x, l, j⟩) hr
  subst this
  exact ⟨rfl, hB⟩
theorem Box3.lt {w0 w : World} {x y z : Value} (h : Box3 w0 x y z w) : w0.heap.size < w.heap.size := h.2.1
theorem Box3.cells {w0 w : World} {x y z : Value} (h : Box3 w0 x y z w) : w.cell? ⟨w0.heap.size, 0, none⟩ = some x ∧ w.cell? ⟨w0.heap.size, 1, none⟩ = some y ∧ w.cell? ⟨w0.heap.size, 2, none⟩ = some z := h.2.2
theorem Box3.cells_d {w0 w : World} {x y z : Value} (h : Box3 w0 x y z w) : w.drew.cell? ⟨w0.heap.size, 0, none⟩ = some x ∧ w.drew.cell? ⟨w0.heap.size, 1, none⟩ = some y ∧ w.drew.cell? ⟨w0.heap.size, 2, none⟩ = some z := h.drew.2.2
theorem Box3.cells_a {w0 w : World} {x y z : Value} (h : Box3 w0 x y z w) (o : Obj) : (w.alloc o).cell? ⟨w0.heap.size, 0, none⟩ = some x ∧ (w.alloc o).cell? ⟨w0.heap.size, 1, none⟩ = some y ∧ (w.alloc o).cell? ⟨w0.heap.size, 2, none⟩ = some z := (h.alloc o).2.2
theorem Box3.cells_s {w0 w : World} {x y z : Value} {g : Nat} (h : Box3 w0 x y z w) (hg : w0.heap.size < g) (p q r : Value) : (((w.setCell ⟨g, 0, none⟩ p).setCell ⟨g, 1, none⟩ q).setCell ⟨g, 2, none⟩ r).cell? ⟨w0.heap.size, 0, none⟩ = some x ∧ (((w.setCell ⟨g, 0, none⟩ p).setCell ⟨g, 1, none⟩ q).setCell ⟨g, 2, none⟩ r).cell? ⟨w0.heap.size, 1, none⟩ = some y ∧ (((w.setCell ⟨g, 0, none⟩ p).setCell ⟨g, 1, none⟩ q).setCell ⟨g, 2, none⟩ r).cell? ⟨w0.heap.size, 2, none⟩ = some z :=
  (h.step (B := g) hg (set3_below (Below.refl g w) (Nat.le_refl _) p q r)).2.2
theorem Box3.cells_ad {w0 w : World} {x y z : Value} (h : Box3 w0 x y z w) (o : Obj) : (w.alloc o).drew.cell? ⟨w0.heap.size, 0, none⟩ = some x ∧ (w.alloc o).drew.cell? ⟨w0.heap.size, 1, none⟩ = some y ∧ (w.alloc o).drew.cell? ⟨w0.heap.size, 2, none⟩ = some z := (h.alloc o).drew.2.2
theorem Box3.made {w0 w : World} {x y z : Value} (h : Box3 w0 x y z w) (o : Obj) (p q r : Value) : Box3 w0 x y z ((((w.alloc o).setCell ⟨w.heap.size, 0, none⟩ p).setCell ⟨w.heap.size, 1, none⟩ q).setCell ⟨w.heap.size, 2, none⟩ r) :=
  h.step h.2.1 (((((Below.refl w.heap.size w).alloc (Nat.le_refl _) o).setCell (p := ⟨w.heap.size, 0, none⟩) (Nat.le_refl _) _).setCell (p := ⟨w.heap.size, 1, none⟩) (Nat.le_refl _) _).setCell (p := ⟨w.heap.size, 2, none⟩) (Nat.le_refl _) _)
set_option maxRecDepth 100000 in
set_option maxHeartbeats 1000000 in
theorem mul_bad (b1 : Bool) (b2 : ByteArray) (b3 : Int) (w : World) :
    Calls Tryd.prog 25 #[.agg #[.bool false, .string ⟨#[]⟩, .int .i64 0], .agg #[.bool b1, .string b2, .int .i64 b3]] w fun e w' => e = .returned (.tuple #[.agg #[.bool false, .string ⟨#[]⟩, .int .i64 0], .int .i64 3]) ∧ Below w.heap.size w w' := by
  have ht := Tri.start w (.bool false) (.string ⟨#[]⟩) (.int .i64 0) (.bool b1) (.string b2) (.int .i64 b3) 23
  go_enter Tryd.func25, Tryd.ntmps25
  go_wp2_with fail
  refine (may_b false ⟨#[]⟩ 0 false _ (by unfold maxLen; decide) (by rfl)).mono ?_
  rintro e w1 ⟨rfl, hb1⟩
  have ht1 := ht.next hb1
  clear hb1
  obtain ⟨⟨k0, k1, k2⟩, ⟨f0, f1, f2⟩⟩ := ht1.out
  go_wp2
  refine bodyPost_ret (v := tV none) (by simp [results, Tryd.results25, go_sem, k0, k1, k2, tV, rx, ry, rz, re]) rfl ⟨rfl, ht1.end _ _ _⟩
theorem int_10 (w : World) (h : Pow w) : Calls Tryd.prog 19 #[.int .i64 10] w fun e w' => e = .returned (.agg #[.bool false, .string ⟨#[49, 48]⟩, .int .i64 0]) ∧ Below w.heap.size w w' := int_v 10 false [49, 48] w (by decide) (by decide) h ofInt_10
theorem int_1 (w : World) (h : Pow w) : Calls Tryd.prog 19 #[.int .i64 1] w fun e w' => e = .returned (.agg #[.bool false, .string ⟨#[49]⟩, .int .i64 0]) ∧ Below w.heap.size w w' := int_v 1 false [49] w (by decide) (by decide) h ofInt_1
theorem int_0 (w : World) (h : Pow w) : Calls Tryd.prog 19 #[.int .i64 0] w fun e w' => e = .returned (.agg #[.bool false, .string ⟨#[48]⟩, .int .i64 0]) ∧ Below w.heap.size w w' := int_v 0 false [48] w (by decide) (by decide) h ofInt_0

set_option maxRecDepth 100000 in
set_option maxHeartbeats 4000000 in
theorem ints_walk (x y : Int) (ng : Bool) (t : ByteArray) (z : Int) (w : World) (hx0 : -9223372036854775808 ≤ x) (hx1 : x ≤ 9223372036854775807) (hy0 : -9223372036854775808 ≤ y) (hy1 : y ≤ 9223372036854775807) (ht : t.size ≤ maxLen) (htab : Pow w) :
    Calls Tryd.prog 8 #[.int .i64 x, .int .i64 y, .agg #[.bool ng, .string t, .int .i64 z]] w fun e w' => e = .returned (.bool true) ∧ Below w.heap.size w w' := by
  have hS := Box3.start w (.bool ng) (.string t) (.int .i64 z) 23
  obtain ⟨m, hm⟩ : ∃ m, Dm.mayB ng t.data.toList z = m := ⟨_, rfl⟩
  have HM := hide hm
  clear hm
  have ha := rem_bd x
  have hb := rem_bd y
  have hc := prod_bd ha hb
  go_enter Tryd.func8, Tryd.ntmps8
  obtain ⟨_, _, a0, a1, a2⟩ := id hS
  go_wp2_with fail
  clear a0 a1 a2
  refine (shown_any _).mono ?_
  rintro e w1 ⟨rfl, hbx⟩
  replace hS := hS.next hbx
  clear hbx
  obtain ⟨_, _, a0, a1, a2⟩ := id hS
  go_upto_region 4 with fail
  clear a0 a1 a2
  generalize x.tmod 2147483648 = a at *
  generalize y.tmod 2147483648 = b at *
  clear hx0 hx1 hy0 hy1
  obtain ⟨a0', a1'⟩ := ha
  obtain ⟨b0', b1'⟩ := hb
  obtain ⟨c0', c1'⟩ := hc
  have na : a.natAbs < 4294967296 := by omega
  have nb : b.natAbs < 4294967296 := by omega
  have nc : (a * b).natAbs < 18446744073709551616 := by omega
  obtain ⟨xa, la, ea⟩ := ofInt_eta a
  have Ea := hide ea
  clear ea
  obtain ⟨xb, lb, eb⟩ := ofInt_eta b
  have Eb := hide eb
  clear eb
  obtain ⟨xs, ls, es⟩ := ofInt_eta (a + b)
  have Es := hide es
  clear es
  obtain ⟨xd, ld, ed⟩ := ofInt_eta (a - b)
  have Ed := hide ed
  clear ed
  obtain ⟨xp, lp, ep⟩ := ofInt_eta (a * b)
  have Ep := hide ep
  clear ep
  obtain ⟨_, _, a0, a1, a2⟩ := id hS
  go_wp2_with fail
  clear a0 a1 a2
  refine (int_v a xa la _ (by omega) (by omega) (htab.next hS.1) (unhide Ea)).mono ?_
  rintro e w2 ⟨rfl, hbx⟩
  replace hS := hS.next hbx
  clear hbx
  obtain ⟨_, _, a0, a1, a2⟩ := id hS
  go_wp2_with fail
  clear a0 a1 a2
  refine (int_v b xb lb _ (by omega) (by omega) (htab.next hS.1) (unhide Eb)).mono ?_
  rintro e w3 ⟨rfl, hbx⟩
  replace hS := hS.next hbx
  clear hbx
  obtain ⟨_, _, a0, a1, a2⟩ := id hS
  go_wp2_with fail
  clear a0 a1 a2
  refine (add_i a b _ xa la xb lb xs ls _ na nb rfl (unhide Ea) (unhide Eb) (unhide Es)).mono ?_
  rintro e w4 ⟨rfl, hbx⟩
  replace hS := hS.next hbx
  clear hbx
  replace hS := hS.next ((Below.refl _ _).alloc (Nat.le_refl _) (.cells #[.bool xs, .string ⟨ls.toArray⟩, .int .i64 0] 23))
  have S := Has3.start w4 (.bool xs) (.string ⟨ls.toArray⟩) (.int .i64 0) 23
  obtain ⟨_, _, a0, a1, a2⟩ := id hS
  obtain ⟨_, S0, S1, S2⟩ := id S
  go_wp2_with fail
  clear a0 a1 a2
  clear S0 S1 S2
  refine (int_v a xa la _ (by omega) (by omega) (htab.next hS.1) (unhide Ea)).mono ?_
  rintro e w5 ⟨rfl, hbx⟩
  replace hS := hS.next hbx
  replace S := S.next hbx
  clear hbx
  obtain ⟨_, _, a0, a1, a2⟩ := id hS
  obtain ⟨_, S0, S1, S2⟩ := id S
  go_wp2_with fail
  clear a0 a1 a2
  clear S0 S1 S2
  refine (int_v b xb lb _ (by omega) (by omega) (htab.next hS.1) (unhide Eb)).mono ?_
  rintro e w6 ⟨rfl, hbx⟩
  replace hS := hS.next hbx
  replace S := S.next hbx
  clear hbx
  obtain ⟨_, _, a0, a1, a2⟩ := id hS
  obtain ⟨_, S0, S1, S2⟩ := id S
  go_wp2_with fail
  clear a0 a1 a2
  clear S0 S1 S2
  refine (sub_i a b _ xa la xb lb xd ld _ na nb rfl (unhide Ea) (unhide Eb) (unhide Ed)).mono ?_
  rintro e w7 ⟨rfl, hbx⟩
  replace hS := hS.next hbx
  replace S := S.next hbx
  clear hbx
  replace hS := hS.next ((Below.refl _ _).alloc (Nat.le_refl _) (.cells #[.bool xd, .string ⟨ld.toArray⟩, .int .i64 0] 23))
  replace S := S.next ((Below.refl _ _).alloc (Nat.le_refl _) (.cells #[.bool xd, .string ⟨ld.toArray⟩, .int .i64 0] 23))
  have D := Has3.start w7 (.bool xd) (.string ⟨ld.toArray⟩) (.int .i64 0) 23
  obtain ⟨_, _, a0, a1, a2⟩ := id hS
  obtain ⟨_, S0, S1, S2⟩ := id S
  obtain ⟨_, D0, D1, D2⟩ := id D
  go_wp2_with fail
  clear a0 a1 a2
  clear S0 S1 S2
  clear D0 D1 D2
  refine (int_v a xa la _ (by omega) (by omega) (htab.next hS.1) (unhide Ea)).mono ?_
  rintro e w8 ⟨rfl, hbx⟩
  replace hS := hS.next hbx
  replace S := S.next hbx
  replace D := D.next hbx
  clear hbx
  obtain ⟨_, _, a0, a1, a2⟩ := id hS
  obtain ⟨_, S0, S1, S2⟩ := id S
  obtain ⟨_, D0, D1, D2⟩ := id D
  go_wp2_with fail
  clear a0 a1 a2
  clear S0 S1 S2
  clear D0 D1 D2
  refine (int_v b xb lb _ (by omega) (by omega) (htab.next hS.1) (unhide Eb)).mono ?_
  rintro e w9 ⟨rfl, hbx⟩
  replace hS := hS.next hbx
  replace S := S.next hbx
  replace D := D.next hbx
  clear hbx
  obtain ⟨_, _, a0, a1, a2⟩ := id hS
  obtain ⟨_, S0, S1, S2⟩ := id S
  obtain ⟨_, D0, D1, D2⟩ := id D
  go_wp2_with fail
  clear a0 a1 a2
  clear S0 S1 S2
  clear D0 D1 D2
  refine (mul_i a b _ xa la xb lb xp lp _ na nb nc rfl (unhide Ea) (unhide Eb) (unhide Ep)).mono ?_
  rintro e w10 ⟨rfl, hbx⟩
  replace hS := hS.next hbx
  replace S := S.next hbx
  replace D := D.next hbx
  clear hbx
  replace hS := hS.next ((Below.refl _ _).alloc (Nat.le_refl _) (.cells #[.bool xp, .string ⟨lp.toArray⟩, .int .i64 0] 23))
  replace S := S.next ((Below.refl _ _).alloc (Nat.le_refl _) (.cells #[.bool xp, .string ⟨lp.toArray⟩, .int .i64 0] 23))
  replace D := D.next ((Below.refl _ _).alloc (Nat.le_refl _) (.cells #[.bool xp, .string ⟨lp.toArray⟩, .int .i64 0] 23))
  have P := Has3.start w10 (.bool xp) (.string ⟨lp.toArray⟩) (.int .i64 0) 23
  have hw1 : IntKind.i64.wrap (a + b) = a + b := by rw [IntKind.wrap_i64]; omega
  have hw2 : IntKind.i64.wrap (a - b) = a - b := by rw [IntKind.wrap_i64]; omega
  have hw3 : IntKind.i64.wrap (a * b) = a * b := by rw [IntKind.wrap_i64]; omega
  have tok1 : True := trivial
  have tok2 : True := trivial
  have tok3 : True := trivial
  obtain ⟨_, _, a0, a1, a2⟩ := id hS
  obtain ⟨_, S0, S1, S2⟩ := id S
  obtain ⟨_, D0, D1, D2⟩ := id D
  obtain ⟨_, P0, P1, P2⟩ := id P
  go_upto_region 7 with fail
  clear a0 a1 a2
  clear S0 S1 S2
  clear D0 D1 D2
  clear P0 P1 P2
  go_cut [86] from 24 to 114 (fun c wx => c = .bool false ∧ Box3 w (.bool ng) (.string t) (.int .i64 z) wx)
  case first =>
    as_aux_lemma =>
      obtain ⟨_, _, a0, a1, a2⟩ := id hS
      obtain ⟨_, S0, S1, S2⟩ := id S
      obtain ⟨_, D0, D1, D2⟩ := id D
      obtain ⟨_, P0, P1, P2⟩ := id P
      go_region_held3 (fun w' => (w'.cell? ⟨w4.heap.size, 0, none⟩ = some (.bool xs) ∧ w'.cell? ⟨w4.heap.size, 1, none⟩ = some (.string ⟨ls.toArray⟩) ∧ w'.cell? ⟨w4.heap.size, 2, none⟩ = some (.int .i64 0)) ∧ (w'.cell? ⟨w7.heap.size, 0, none⟩ = some (.bool xd) ∧ w'.cell? ⟨w7.heap.size, 1, none⟩ = some (.string ⟨ld.toArray⟩) ∧ w'.cell? ⟨w7.heap.size, 2, none⟩ = some (.int .i64 0)) ∧ (w'.cell? ⟨w10.heap.size, 0, none⟩ = some (.bool xp) ∧ w'.cell? ⟨w10.heap.size, 1, none⟩ = some (.string ⟨lp.toArray⟩) ∧ w'.cell? ⟨w10.heap.size, 2, none⟩ = some (.int .i64 0))) (first | exact ⟨S.2, D.2, P.2⟩ | exact ⟨S.drew.2, D.drew.2, P.drew.2⟩) (first | (go_at_call 19; have _t := tok1; refine (int_v (a + b) xs ls _ (by omega) (by omega) (htab.next (by first | exact hS.1 | exact hS.drew.1)) (unhide Es)).mono ?_; rintro e w' ⟨rfl, hbw⟩; replace hS := Box3.next (by first | exact hS | exact hS.drew) hbw; clear a0 a1 a2; obtain ⟨_, _, a0, a1, a2⟩ := id hS; replace S := Has3.next (by first | exact S | exact S.drew) hbw; clear S0 S1 S2; obtain ⟨_, S0, S1, S2⟩ := id S; replace D := Has3.next (by first | exact D | exact D.drew) hbw; clear D0 D1 D2; obtain ⟨_, D0, D1, D2⟩ := id D; replace P := Has3.next (by first | exact P | exact P.drew) hbw; clear P0 P1 P2; obtain ⟨_, P0, P1, P2⟩ := id P; clear tok1 _t; clear hbw) | (go_at_call 19; have _t := tok2; refine (int_v (a - b) xd ld _ (by omega) (by omega) (htab.next (by first | exact hS.1 | exact hS.drew.1)) (unhide Ed)).mono ?_; rintro e w' ⟨rfl, hbw⟩; replace hS := Box3.next (by first | exact hS | exact hS.drew) hbw; clear a0 a1 a2; obtain ⟨_, _, a0, a1, a2⟩ := id hS; replace S := Has3.next (by first | exact S | exact S.drew) hbw; clear S0 S1 S2; obtain ⟨_, S0, S1, S2⟩ := id S; replace D := Has3.next (by first | exact D | exact D.drew) hbw; clear D0 D1 D2; obtain ⟨_, D0, D1, D2⟩ := id D; replace P := Has3.next (by first | exact P | exact P.drew) hbw; clear P0 P1 P2; obtain ⟨_, P0, P1, P2⟩ := id P; clear tok2 _t; clear hbw) | (go_at_call 19; have _t := tok3; refine (int_v (a * b) xp lp _ (by omega) (by omega) (htab.next (by first | exact hS.1 | exact hS.drew.1)) (unhide Ep)).mono ?_; rintro e w' ⟨rfl, hbw⟩; replace hS := Box3.next (by first | exact hS | exact hS.drew) hbw; clear a0 a1 a2; obtain ⟨_, _, a0, a1, a2⟩ := id hS; replace S := Has3.next (by first | exact S | exact S.drew) hbw; clear S0 S1 S2; obtain ⟨_, S0, S1, S2⟩ := id S; replace D := Has3.next (by first | exact D | exact D.drew) hbw; clear D0 D1 D2; obtain ⟨_, D0, D1, D2⟩ := id D; replace P := Has3.next (by first | exact P | exact P.drew) hbw; clear P0 P1 P2; obtain ⟨_, P0, P1, P2⟩ := id P; clear tok3 _t; clear hbw))
      all_goals
        go_wp2_with fail
        go_meet
        case rel => exact ⟨rfl, hS⟩
  case rest =>
    as_aux_lemma =>
      clear hw1 hw2 hw3
      clear hS S D P Ea Eb Es Ed Ep na nb nc a0' a1' b0' b1' c0' c1' tok1 tok2 tok3
      obtain ⟨rfl, hS⟩ := hcut
      obtain ⟨_, _, a0, a1, a2⟩ := id hS
      go_wp2_with fail
      clear a0 a1 a2
      refine (may_b ng t z m _ ht (unhide HM)).mono ?_
      rintro e w11 ⟨rfl, hbx⟩
      replace hS := hS.next hbx
      clear hbx
      cases m with
      | false =>
        obtain ⟨_, _, a0, a1, a2⟩ := id hS
        go_wp2
        go_ret
        exact ⟨rfl, hS.1⟩
      | true =>
        obtain ⟨l, j, rfl, rfl, hj⟩ := may_split4 (unhide HM)
        clear HM ht
        obtain ⟨_, _, a0, a1, a2⟩ := id hS
        go_upto_region 11 with fail
        have hP := htab.next hS.1
        obtain ⟨_, _, a0, a1, a2⟩ := id hS
        go_upto_region 11 with fail
        clear a0 a1 a2
        go_cut [16, 17] from 24 to 114 (fun v4 v5 wx => ∃ (g : Nat) (r : Option Dm.D), v4 = .pointer (some ⟨g, 0, none⟩) ∧ v5 = .int .i64 (re r) ∧ Hid (Dm.Rep (Dm.sg ⟨ng, l, j⟩ * Dm.sg ⟨false, [49, 48], 0⟩) (j + 0) r) ∧ Below w11.heap.size w11 wx ∧ Has3 g (.bool (rx r)) (.string (ry r)) (.int .i64 (rz r)) wx)
        case first =>
          as_aux_lemma =>
            have hB : Below w11.heap.size w11 w11.drew := (Below.refl _ _).drew
            obtain ⟨_, _, a0, a1, a2⟩ := id hS
            go_region_held3 (fun w' => (w'.cell? ⟨w.heap.size, 0, none⟩ = some (.bool ng) ∧ w'.cell? ⟨w.heap.size, 1, none⟩ = some (.string ⟨l.toArray⟩) ∧ w'.cell? ⟨w.heap.size, 2, none⟩ = some (.int .i64 (j : Int)))) (first | with_reducible exact Box3.cells (hS.next hB) | with_reducible exact Box3.cells_a (hS.next hB) _ | with_reducible exact Box3.cells_ad hS _ | with_reducible exact Box3.cells_s (hS.next hB) (Nat.lt_of_lt_of_le (Box3.lt hS) hg) _ _ _) (first | (go_at_call 19; first | ((fail_if_success have := hA); refine (int_10 _ (hP.next hB)).mono ?_; rintro e w' ⟨rfl, hbw⟩; replace hB := hB.trans (hbw.mono hB.size); clear hbw) | ((fail_if_success have := hA); refine (int_10 _ (hP.next ((Below.refl _ _).alloc (Nat.le_refl _) _).drew)).mono ?_; rintro e w' ⟨rfl, hbw⟩; have hg := Nat.le_refl w11.heap.size; have hA := Own3.next (Own3.next (Own3.start _ (.bool false) (.string ⟨#[]⟩) (.int .i64 0) 23) (Below.refl _ _).drew) hbw; replace hB := (((Below.refl _ _).alloc (Nat.le_refl _) _).drew).trans (hbw.mono (((Below.refl w11.heap.size w11).alloc (Nat.le_refl _) (.cells #[.bool false, .string ⟨#[]⟩, .int .i64 0] 23)).drew).size); obtain ⟨⟨_, k0, k1, k2⟩, f0, f1, f2⟩ := id hA; clear hbw)) | (go_at_call 25; first | ((fail_if_success have := hA); refine (mul_ten' ng l j _ hj).mono ?_; rintro e w' ⟨r, rfl, hr, hbw⟩; replace hB := hB.trans (hbw.mono hB.size); clear hbw) | (have := hA; refine (mul_ten' ng l j _ hj).mono ?_; rintro e w' ⟨r, rfl, hr, hbw⟩; replace hA := hA.next hbw; replace hB := hB.trans (hbw.mono hB.size); clear k0 k1 k2 f0 f1 f2; obtain ⟨⟨_, k0, k1, k2⟩, f0, f1, f2⟩ := id hA; clear hbw) | ((fail_if_success have := hA); refine (mul_ten' ng l j _ hj).mono ?_; rintro e w' ⟨r, rfl, hr, hbw⟩; have hg := hB.size; have hA := Own3.next (Own3.start _ (.bool false) (.string ⟨#[]⟩) (.int .i64 0) 23) hbw; replace hB := (hB.alloc hB.size _).trans (hbw.mono (hB.alloc hB.size (.cells #[.bool false, .string ⟨#[]⟩, .int .i64 0] 23)).size); obtain ⟨⟨_, k0, k1, k2⟩, f0, f1, f2⟩ := id hA; clear hbw)))
            all_goals
              go_wp2_with fail
              go_meet
              case rel =>
                first
                | exact ⟨_, r, rfl, rfl, hide hr, hB.alloc hB.size _, Has3.start _ _ _ _ _⟩
                | exact ⟨_, r, rfl, rfl, hide hr, set3_below hB hg _ _ _, (hA.store _ _ _).1⟩
        case rest =>
          as_aux_lemma =>
            clear hP
            obtain ⟨g1, r, rfl, rfl, HR, hbx, X⟩ := hcut
            replace hS := hS.next hbx
            clear hbx
            obtain ⟨_, _, a0, a1, a2⟩ := id hS
            obtain ⟨_, X0, X1, X2⟩ := id X
            go_upto_region 12 with fail
            clear a0 a1 a2
            clear X0 X1 X2
            go_cut [18, 19] from 24 to 114 (fun v4 v5 wx => ∃ (g : Nat) (r2 : Option Dm.D), v4 = .pointer (some ⟨g, 0, none⟩) ∧ v5 = .int .i64 (re r2) ∧ Hid (r = none ∨ ((∃ q, r = some q) ∧ r2 = some ⟨ng, l, j⟩)) ∧ Below wc.heap.size wc wx ∧ Has3 g (.bool (rx r2)) (.string (ry r2)) (.int .i64 (rz r2)) wx)
            case first =>
              as_aux_lemma =>
                cases r with
                | none =>
                  simp only [rx, ry, rz, re] at X ⊢
                  obtain ⟨_, _, a0, a1, a2⟩ := id hS
                  obtain ⟨_, X0, X1, X2⟩ := id X
                  go_wp2_with fail
                  clear a0 a1 a2
                  clear X0 X1 X2
                  refine (mul_bad false ⟨#[49]⟩ 1 _).mono ?_
                  rintro e w12 ⟨rfl, hbx⟩
                  go_wp2_with fail
                  go_meet
                  case rel => exact ⟨_, none, rfl, rfl, hide (.inl (by first | rfl | trivial)), hbx.alloc hbx.size _, Has3.start _ _ _ _ _⟩
                | some q =>
                  obtain ⟨q1, q2, q3⟩ := q
                  simp only [rx, ry, rz, re] at X ⊢
                  obtain ⟨_, _, a0, a1, a2⟩ := id hS
                  obtain ⟨_, X0, X1, X2⟩ := id X
                  go_wp2_with fail
                  clear a0 a1 a2
                  clear X0 X1 X2
                  refine (mul_tenth' q1 q2 q3 _ (unhide HR).1).mono ?_
                  rintro e w12 ⟨r2, rfl, hr2, hbx⟩
                  have e2 := ten_back (d := ⟨ng, l, j⟩) (t := ⟨q1, q2, q3⟩) hj (unhide HR) hr2
                  have E2 := hide e2
                  clear e2 hr2
                  go_wp2_with fail
                  go_meet
                  case rel => exact ⟨_, r2, rfl, rfl, hide (.inr ⟨⟨_, rfl⟩, unhide E2⟩), hbx.alloc hbx.size _, Has3.start _ _ _ _ _⟩
            case rest =>
              as_aux_lemma =>
                obtain ⟨g2, r2, rfl, rfl, HR2, hbx, Y⟩ := hcut
                replace hS := hS.next hbx
                replace X := X.next hbx
                clear hbx
                have hP := htab.next hS.1
                obtain ⟨_, _, a0, a1, a2⟩ := id hS
                obtain ⟨_, X0, X1, X2⟩ := id X
                obtain ⟨_, Y0, Y1, Y2⟩ := id Y
                go_upto_region 13 with fail
                clear a0 a1 a2
                clear X0 X1 X2
                clear Y0 Y1 Y2
                go_cut [20, 21] from 24 to 114 (fun v4 v5 wx => ∃ g : Nat, v4 = .pointer (some ⟨g, 0, none⟩) ∧ v5 = .int .i64 0 ∧ Below wc.heap.size wc wx ∧ Has3 g (.bool ng) (.string ⟨l.toArray⟩) (.int .i64 (j : Int)) wx)
                case first =>
                  as_aux_lemma =>
                    have hB : Below wc.heap.size wc wc.drew := (Below.refl _ _).drew
                    obtain ⟨_, _, a0, a1, a2⟩ := id hS
                    go_region_held3 (fun w' => (w'.cell? ⟨w.heap.size, 0, none⟩ = some (.bool ng) ∧ w'.cell? ⟨w.heap.size, 1, none⟩ = some (.string ⟨l.toArray⟩) ∧ w'.cell? ⟨w.heap.size, 2, none⟩ = some (.int .i64 (j : Int)))) (first | with_reducible exact Box3.cells (hS.next hB) | with_reducible exact Box3.cells_a (hS.next hB) _ | with_reducible exact Box3.cells_ad hS _ | with_reducible exact Box3.cells_s (hS.next hB) (Nat.lt_of_lt_of_le (Box3.lt hS) hg) _ _ _) (first | (go_at_call 19; first | ((fail_if_success have := hA); refine (int_1 _ (hP.next hB)).mono ?_; rintro e w' ⟨rfl, hbw⟩; replace hB := hB.trans (hbw.mono hB.size); clear hbw) | ((fail_if_success have := hA); refine (int_1 _ (hP.next ((Below.refl _ _).alloc (Nat.le_refl _) _).drew)).mono ?_; rintro e w' ⟨rfl, hbw⟩; have hg := Nat.le_refl wc.heap.size; have hA := Own3.next (Own3.next (Own3.start _ (.bool false) (.string ⟨#[]⟩) (.int .i64 0) 23) (Below.refl _ _).drew) hbw; replace hB := (((Below.refl _ _).alloc (Nat.le_refl _) _).drew).trans (hbw.mono (((Below.refl wc.heap.size wc).alloc (Nat.le_refl _) (.cells #[.bool false, .string ⟨#[]⟩, .int .i64 0] 23)).drew).size); obtain ⟨⟨_, k0, k1, k2⟩, f0, f1, f2⟩ := id hA; clear hbw)) | (go_at_call 25; first | ((fail_if_success have := hA); refine (mul_one' ng l j _ hj).mono ?_; rintro e w' ⟨rfl, hbw⟩; replace hB := hB.trans (hbw.mono hB.size); clear hbw) | (have := hA; refine (mul_one' ng l j _ hj).mono ?_; rintro e w' ⟨rfl, hbw⟩; replace hA := hA.next hbw; replace hB := hB.trans (hbw.mono hB.size); clear k0 k1 k2 f0 f1 f2; obtain ⟨⟨_, k0, k1, k2⟩, f0, f1, f2⟩ := id hA; clear hbw) | ((fail_if_success have := hA); refine (mul_one' ng l j _ hj).mono ?_; rintro e w' ⟨rfl, hbw⟩; have hg := hB.size; have hA := Own3.next (Own3.start _ (.bool false) (.string ⟨#[]⟩) (.int .i64 0) 23) hbw; replace hB := (hB.alloc hB.size _).trans (hbw.mono (hB.alloc hB.size (.cells #[.bool false, .string ⟨#[]⟩, .int .i64 0] 23)).size); obtain ⟨⟨_, k0, k1, k2⟩, f0, f1, f2⟩ := id hA; clear hbw)))
                    all_goals
                      go_wp2_with fail
                      go_meet
                      case rel =>
                        first
                        | exact ⟨_, rfl, rfl, hB.alloc hB.size _, Has3.start _ _ _ _ _⟩
                        | exact ⟨_, rfl, rfl, set3_below hB hg _ _ _, (hA.store _ _ _).1⟩
                case rest =>
                  as_aux_lemma =>
                    clear hP
                    obtain ⟨g3, rfl, rfl, hbx, U⟩ := hcut
                    replace hS := hS.next hbx
                    replace X := X.next hbx
                    replace Y := Y.next hbx
                    clear hbx
                    have hP := htab.next hS.1
                    obtain ⟨_, _, a0, a1, a2⟩ := id hS
                    obtain ⟨_, X0, X1, X2⟩ := id X
                    obtain ⟨_, Y0, Y1, Y2⟩ := id Y
                    obtain ⟨_, U0, U1, U2⟩ := id U
                    go_upto_region 14 with fail
                    clear a0 a1 a2
                    clear X0 X1 X2
                    clear Y0 Y1 Y2
                    clear U0 U1 U2
                    go_cut [22, 23] from 24 to 114 (fun v4 v5 wx => ∃ g : Nat, v4 = .pointer (some ⟨g, 0, none⟩) ∧ v5 = .int .i64 0 ∧ Below wc.heap.size wc wx ∧ Has3 g (.bool false) (.string ⟨#[48]⟩) (.int .i64 0) wx)
                    case first =>
                      as_aux_lemma =>
                        have hB : Below wc.heap.size wc wc.drew := (Below.refl _ _).drew
                        obtain ⟨_, _, a0, a1, a2⟩ := id hS
                        go_region_held3 (fun w' => (w'.cell? ⟨w.heap.size, 0, none⟩ = some (.bool ng) ∧ w'.cell? ⟨w.heap.size, 1, none⟩ = some (.string ⟨l.toArray⟩) ∧ w'.cell? ⟨w.heap.size, 2, none⟩ = some (.int .i64 (j : Int)))) (first | with_reducible exact Box3.cells (hS.next hB) | with_reducible exact Box3.cells_a (hS.next hB) _ | with_reducible exact Box3.cells_ad hS _ | with_reducible exact Box3.cells_s (hS.next hB) (Nat.lt_of_lt_of_le (Box3.lt hS) hg) _ _ _) (first | (go_at_call 19; first | ((fail_if_success have := hA); refine (int_0 _ (hP.next hB)).mono ?_; rintro e w' ⟨rfl, hbw⟩; replace hB := hB.trans (hbw.mono hB.size); clear hbw) | ((fail_if_success have := hA); refine (int_0 _ (hP.next ((Below.refl _ _).alloc (Nat.le_refl _) _).drew)).mono ?_; rintro e w' ⟨rfl, hbw⟩; have hg := Nat.le_refl wc.heap.size; have hA := Own3.next (Own3.next (Own3.start _ (.bool false) (.string ⟨#[]⟩) (.int .i64 0) 23) (Below.refl _ _).drew) hbw; replace hB := (((Below.refl _ _).alloc (Nat.le_refl _) _).drew).trans (hbw.mono (((Below.refl wc.heap.size wc).alloc (Nat.le_refl _) (.cells #[.bool false, .string ⟨#[]⟩, .int .i64 0] 23)).drew).size); obtain ⟨⟨_, k0, k1, k2⟩, f0, f1, f2⟩ := id hA; clear hbw)) | (go_at_call 25; first | ((fail_if_success have := hA); refine (mul_nought' ng l j _ hj).mono ?_; rintro e w' ⟨rfl, hbw⟩; replace hB := hB.trans (hbw.mono hB.size); clear hbw) | (have := hA; refine (mul_nought' ng l j _ hj).mono ?_; rintro e w' ⟨rfl, hbw⟩; replace hA := hA.next hbw; replace hB := hB.trans (hbw.mono hB.size); clear k0 k1 k2 f0 f1 f2; obtain ⟨⟨_, k0, k1, k2⟩, f0, f1, f2⟩ := id hA; clear hbw) | ((fail_if_success have := hA); refine (mul_nought' ng l j _ hj).mono ?_; rintro e w' ⟨rfl, hbw⟩; have hg := hB.size; have hA := Own3.next (Own3.start _ (.bool false) (.string ⟨#[]⟩) (.int .i64 0) 23) hbw; replace hB := (hB.alloc hB.size _).trans (hbw.mono (hB.alloc hB.size (.cells #[.bool false, .string ⟨#[]⟩, .int .i64 0] 23)).size); obtain ⟨⟨_, k0, k1, k2⟩, f0, f1, f2⟩ := id hA; clear hbw)))
                        all_goals
                          go_wp2_with fail
                          go_meet
                          case rel =>
                            first
                            | exact ⟨_, rfl, rfl, hB.alloc hB.size _, Has3.start _ _ _ _ _⟩
                            | exact ⟨_, rfl, rfl, set3_below hB hg _ _ _, (hA.store _ _ _).1⟩
                    case rest =>
                      as_aux_lemma =>
                        clear hP
                        obtain ⟨g4, rfl, rfl, hbx, O⟩ := hcut
                        replace hS := hS.next hbx
                        replace X := X.next hbx
                        replace Y := Y.next hbx
                        replace U := U.next hbx
                        clear hbx
                        have hP := htab.next hS.1
                        have hR : (r = none ∧ (re r != 0) = true) ∨ (∃ q, r = some q ∧ r2 = some ⟨ng, l, j⟩) := by
                          rcases unhide HR2 with rfl | ⟨⟨q, rfl⟩, rfl⟩
                          · exact .inl ⟨rfl, rfl⟩
                          · exact .inr ⟨q, rfl, rfl⟩
                        clear HR HR2
                        rcases hR with ⟨rfl, hne⟩ | ⟨q, rfl, rfl⟩
                        · as_aux_lemma =>
                            generalize re r2 = z2
                            generalize rx r2 = y1 at Y
                            generalize ry r2 = y2 at Y
                            generalize rz r2 = y3 at Y
                            simp only [re]
                            clear X hne
                            obtain ⟨_, _, a0, a1, a2⟩ := id hS
                            obtain ⟨_, Y0, Y1, Y2⟩ := id Y
                            obtain ⟨_, U0, U1, U2⟩ := id U
                            obtain ⟨_, O0, O1, O2⟩ := id O
                            go_wp2_with fail
                            refine wp_region_held_drew (S := (fun w' => (w'.cell? ⟨w.heap.size, 0, none⟩ = some (.bool ng) ∧ w'.cell? ⟨w.heap.size, 1, none⟩ = some (.string ⟨l.toArray⟩) ∧ w'.cell? ⟨w.heap.size, 2, none⟩ = some (.int .i64 (j : Int))) ∧ (w'.cell? ⟨g2, 0, none⟩ = some (.bool y1) ∧ w'.cell? ⟨g2, 1, none⟩ = some (.string y2) ∧ w'.cell? ⟨g2, 2, none⟩ = some (.int .i64 y3)) ∧ (w'.cell? ⟨g3, 0, none⟩ = some (.bool ng) ∧ w'.cell? ⟨g3, 1, none⟩ = some (.string ⟨l.toArray⟩) ∧ w'.cell? ⟨g3, 2, none⟩ = some (.int .i64 (j : Int))) ∧ (w'.cell? ⟨g4, 0, none⟩ = some (.bool false) ∧ w'.cell? ⟨g4, 1, none⟩ = some (.string ⟨#[48]⟩) ∧ w'.cell? ⟨g4, 2, none⟩ = some (.int .i64 0)))) (by kernel_rfl) ?hS0 (fun hHeld => ?rest0)
                            case hS0 => first | (dsimp only; (first | exact ⟨hS.2.2, Y.2, U.2, O.2⟩ | exact ⟨hS.drew.2.2, Y.drew.2, U.drew.2, O.drew.2⟩)) | (first | exact ⟨hS.2.2, Y.2, U.2, O.2⟩ | exact ⟨hS.drew.2.2, Y.drew.2, U.drew.2, O.drew.2⟩)
                            case rest0 =>
                            refine wpAnyH_take (i := 0) (v := ?v0) rfl (by kernel_rfl) (by kernel_rfl) (by kernel_rfl) (fun _ _ _ h => h) (Or.inl ⟨by rfl, ?hy0⟩) (by assumption) ?rest1
                            case hy0 => ((intro w hSw; (try dsimp only at hSw); go_simp) <;> with_reducible rfl)
                            case rest1 =>
                            try simp only [Act.put, List.getElem_toArray, List.getElem_cons_zero, List.getElem_cons_succ, List.setIfInBounds_toArray, List.set_cons_zero, List.set_cons_succ]
                            refine wpAnyH_take (i := 1) (v := ?v1) rfl (by kernel_rfl) (by kernel_rfl) (by kernel_rfl) (fun _ _ _ h => h) (Or.inl ⟨by rfl, ?hy1⟩) (by assumption) ?rest2
                            case hy1 => ((intro w hSw; (try dsimp only at hSw); go_simp) <;> with_reducible rfl)
                            case rest2 =>
                            try simp only [Act.put, List.getElem_toArray, List.getElem_cons_zero, List.getElem_cons_succ, List.setIfInBounds_toArray, List.set_cons_zero, List.set_cons_succ]
                            refine wpAnyH_take (i := 2) (v := ?v2) rfl (by kernel_rfl) (by kernel_rfl) (by kernel_rfl) (fun _ _ _ h => h) (Or.inl ⟨by rfl, ?hy2⟩) (by assumption) ?rest3
                            case hy2 => ((intro w hSw; (try dsimp only at hSw); go_simp) <;> with_reducible rfl)
                            case rest3 =>
                            try simp only [Act.put, List.getElem_toArray, List.getElem_cons_zero, List.getElem_cons_succ, List.setIfInBounds_toArray, List.set_cons_zero, List.set_cons_succ]
                            refine wpAnyH_take (i := 3) (v := ?v3) rfl (by kernel_rfl) (by kernel_rfl) (by kernel_rfl) (fun _ _ _ h => h) (Or.inl ⟨by rfl, ?hy3⟩) (by assumption) ?rest4
                            case hy3 => ((intro w hSw; (try dsimp only at hSw); go_simp) <;> with_reducible rfl)
                            case rest4 =>
                            try simp only [Act.put, List.getElem_toArray, List.getElem_cons_zero, List.getElem_cons_succ, List.setIfInBounds_toArray, List.set_cons_zero, List.set_cons_succ]
                            refine wpAnyH_take (i := 4) (v := ?v4) rfl (by kernel_rfl) (by kernel_rfl) (by kernel_rfl) (fun _ _ _ h => h) (Or.inl ⟨by rfl, ?hy4⟩) (by assumption) ?rest5
                            case hy4 => ((intro w hSw; (try dsimp only at hSw); go_simp) <;> with_reducible rfl)
                            case rest5 =>
                            try simp only [Act.put, List.getElem_toArray, List.getElem_cons_zero, List.getElem_cons_succ, List.setIfInBounds_toArray, List.set_cons_zero, List.set_cons_succ]
                            refine wpAnyH_take (i := 5) (v := undef) rfl (by kernel_rfl) (by kernel_rfl) (by kernel_rfl) (fun _ _ _ h => h) (Or.inr ⟨by kernel_rfl, rfl⟩) (by assumption) ?_
                            try simp only [Act.put, List.getElem_toArray, List.getElem_cons_zero, List.getElem_cons_succ, List.setIfInBounds_toArray, List.set_cons_zero, List.set_cons_succ]
                            refine wpAnyH_take (i := 6) (v := undef) rfl (by kernel_rfl) (by kernel_rfl) (by kernel_rfl) (fun _ _ _ h => h) (Or.inr ⟨by kernel_rfl, rfl⟩) (by assumption) ?_
                            try simp only [Act.put, List.getElem_toArray, List.getElem_cons_zero, List.getElem_cons_succ, List.setIfInBounds_toArray, List.set_cons_zero, List.set_cons_succ]
                            refine wpAnyH_take (i := 7) (v := undef) rfl (by kernel_rfl) (by kernel_rfl) (by kernel_rfl) (fun _ _ _ h => h) (Or.inr ⟨by kernel_rfl, rfl⟩) (by assumption) ?_
                            try simp only [Act.put, List.getElem_toArray, List.getElem_cons_zero, List.getElem_cons_succ, List.setIfInBounds_toArray, List.set_cons_zero, List.set_cons_succ]
                            refine wpAnyH_take (i := 8) (v := undef) rfl (by kernel_rfl) (by kernel_rfl) (by kernel_rfl) (fun _ _ _ h => h) (Or.inr ⟨by kernel_rfl, rfl⟩) (by assumption) ?_
                            try simp only [Act.put, List.getElem_toArray, List.getElem_cons_zero, List.getElem_cons_succ, List.setIfInBounds_toArray, List.set_cons_zero, List.set_cons_succ]
                            refine wpAnyH_take (i := 9) (v := undef) rfl (by kernel_rfl) (by kernel_rfl) (by kernel_rfl) (fun _ _ _ h => h) (Or.inr ⟨by kernel_rfl, rfl⟩) (by assumption) ?_
                            try simp only [Act.put, List.getElem_toArray, List.getElem_cons_zero, List.getElem_cons_succ, List.setIfInBounds_toArray, List.set_cons_zero, List.set_cons_succ]
                            refine wpAnyH_take (i := 10) (v := undef) rfl (by kernel_rfl) (by kernel_rfl) (by kernel_rfl) (fun _ _ _ h => h) (Or.inr ⟨by kernel_rfl, rfl⟩) (by assumption) ?_
                            try simp only [Act.put, List.getElem_toArray, List.getElem_cons_zero, List.getElem_cons_succ, List.setIfInBounds_toArray, List.set_cons_zero, List.set_cons_succ]
                            refine wpAnyH_take (i := 11) (v := undef) rfl (by kernel_rfl) (by kernel_rfl) (by kernel_rfl) (fun _ _ _ h => h) (Or.inr ⟨by kernel_rfl, rfl⟩) (by assumption) ?_
                            try simp only [Act.put, List.getElem_toArray, List.getElem_cons_zero, List.getElem_cons_succ, List.setIfInBounds_toArray, List.set_cons_zero, List.set_cons_succ]
                            refine wpAnyH_take (i := 12) (v := ?v12) rfl (by kernel_rfl) (by kernel_rfl) (by kernel_rfl) (fun _ _ _ h => h) (Or.inl ⟨by rfl, ?hy12⟩) (by assumption) ?rest13
                            case hy12 => ((intro w hSw; (try dsimp only at hSw); go_simp) <;> with_reducible rfl)
                            case rest13 =>
                            try simp only [Act.put, List.getElem_toArray, List.getElem_cons_zero, List.getElem_cons_succ, List.setIfInBounds_toArray, List.set_cons_zero, List.set_cons_succ]
                            refine wpAnyH_take (i := 13) (v := ?v13) rfl (by kernel_rfl) (by kernel_rfl) (by kernel_rfl) (fun _ _ _ h => h) (Or.inl ⟨by rfl, ?hy13⟩) (by assumption) ?rest14
                            case hy13 => ((intro w hSw; (try dsimp only at hSw); go_simp) <;> with_reducible rfl)
                            case rest14 =>
                            try simp only [Act.put, List.getElem_toArray, List.getElem_cons_zero, List.getElem_cons_succ, List.setIfInBounds_toArray, List.set_cons_zero, List.set_cons_succ]
                            refine wpAnyH_take (i := 14) (v := ?v14) rfl (by kernel_rfl) (by kernel_rfl) (by kernel_rfl) (fun _ _ _ h => h) (Or.inl ⟨by rfl, ?hy14⟩) (by assumption) ?rest15
                            case hy14 => ((intro w hSw; (try dsimp only at hSw); go_simp) <;> with_reducible rfl)
                            case rest15 =>
                            try simp only [Act.put, List.getElem_toArray, List.getElem_cons_zero, List.getElem_cons_succ, List.setIfInBounds_toArray, List.set_cons_zero, List.set_cons_succ]
                            refine wpAnyH_take (i := 15) (v := ?v15) rfl (by kernel_rfl) (by kernel_rfl) (by kernel_rfl) (fun _ _ _ h => h) (Or.inl ⟨by rfl, ?hy15⟩) (by assumption) ?rest16
                            case hy15 => ((intro w hSw; (try dsimp only at hSw); go_simp) <;> with_reducible rfl)
                            case rest16 =>
                            try simp only [Act.put, List.getElem_toArray, List.getElem_cons_zero, List.getElem_cons_succ, List.setIfInBounds_toArray, List.set_cons_zero, List.set_cons_succ]
                            refine wpAnyH_take (i := 16) (v := ?v16) rfl (by kernel_rfl) (by kernel_rfl) (by kernel_rfl) (fun _ _ _ h => h) (Or.inl ⟨by rfl, ?hy16⟩) (by assumption) ?rest17
                            case hy16 => ((intro w hSw; (try dsimp only at hSw); go_simp) <;> with_reducible rfl)
                            case rest17 =>
                            try simp only [Act.put, List.getElem_toArray, List.getElem_cons_zero, List.getElem_cons_succ, List.setIfInBounds_toArray, List.set_cons_zero, List.set_cons_succ]
                            refine wpAnyH_take (i := 17) (v := ?v17) rfl (by kernel_rfl) (by kernel_rfl) (by kernel_rfl) (fun _ _ _ h => h) (Or.inl ⟨by rfl, ?hy17⟩) (by assumption) ?rest18
                            case hy17 => ((intro w hSw; (try dsimp only at hSw); go_simp) <;> with_reducible rfl)
                            case rest18 =>
                            try simp only [Act.put, List.getElem_toArray, List.getElem_cons_zero, List.getElem_cons_succ, List.setIfInBounds_toArray, List.set_cons_zero, List.set_cons_succ]
                            refine wpAnyH_take (i := 18) (v := ?v18) rfl (by kernel_rfl) (by kernel_rfl) (by kernel_rfl) (fun _ _ _ h => h) (Or.inl ⟨by rfl, ?hy18⟩) (by assumption) ?rest19
                            case hy18 => ((intro w hSw; (try dsimp only at hSw); go_simp) <;> with_reducible rfl)
                            case rest19 =>
                            try simp only [Act.put, List.getElem_toArray, List.getElem_cons_zero, List.getElem_cons_succ, List.setIfInBounds_toArray, List.set_cons_zero, List.set_cons_succ]
                            refine wpAnyH_take (i := 19) (v := ?v19) rfl (by kernel_rfl) (by kernel_rfl) (by kernel_rfl) (fun _ _ _ h => h) (Or.inl ⟨by rfl, ?hy19⟩) (by assumption) ?rest20
                            case hy19 => ((intro w hSw; (try dsimp only at hSw); go_simp) <;> with_reducible rfl)
                            case rest20 =>
                            try simp only [Act.put, List.getElem_toArray, List.getElem_cons_zero, List.getElem_cons_succ, List.setIfInBounds_toArray, List.set_cons_zero, List.set_cons_succ]
                            refine wpAnyH_take (i := 20) (v := ?v20) rfl (by kernel_rfl) (by kernel_rfl) (by kernel_rfl) (fun _ _ _ h => h) (Or.inl ⟨by rfl, ?hy20⟩) (by assumption) ?rest21
                            case hy20 => ((intro w hSw; (try dsimp only at hSw); go_simp) <;> with_reducible rfl)
                            case rest21 =>
                            try simp only [Act.put, List.getElem_toArray, List.getElem_cons_zero, List.getElem_cons_succ, List.setIfInBounds_toArray, List.set_cons_zero, List.set_cons_succ]
                            refine wpAnyH_take (i := 21) (v := ?v21) rfl (by kernel_rfl) (by kernel_rfl) (by kernel_rfl) (fun _ _ _ h => h) (Or.inl ⟨by rfl, ?hy21⟩) (by assumption) ?rest22
                            case hy21 => ((intro w hSw; (try dsimp only at hSw); go_simp) <;> with_reducible rfl)
                            case rest22 =>
                            try simp only [Act.put, List.getElem_toArray, List.getElem_cons_zero, List.getElem_cons_succ, List.setIfInBounds_toArray, List.set_cons_zero, List.set_cons_succ]
                            refine wpAnyH_take (i := 22) (v := ?v22) rfl (by kernel_rfl) (by kernel_rfl) (by kernel_rfl) (fun _ _ _ h => h) (Or.inl ⟨by rfl, ?hy22⟩) (by assumption) ?rest23
                            case hy22 => ((intro w hSw; (try dsimp only at hSw); go_simp) <;> with_reducible rfl)
                            case rest23 =>
                            try simp only [Act.put, List.getElem_toArray, List.getElem_cons_zero, List.getElem_cons_succ, List.setIfInBounds_toArray, List.set_cons_zero, List.set_cons_succ]
                            refine wpAnyH_take (i := 23) (v := ?v23) rfl (by kernel_rfl) (by kernel_rfl) (by kernel_rfl) (fun _ _ _ h => h) (Or.inl ⟨by rfl, ?hy23⟩) (by assumption) ?rest24
                            case hy23 => ((intro w hSw; (try dsimp only at hSw); go_simp) <;> with_reducible rfl)
                            case rest24 =>
                            try simp only [Act.put, List.getElem_toArray, List.getElem_cons_zero, List.getElem_cons_succ, List.setIfInBounds_toArray, List.set_cons_zero, List.set_cons_succ]
                            refine wpAnyH_take (i := 24) (v := ?v24) rfl (by kernel_rfl) (by kernel_rfl) (by kernel_rfl) (fun _ _ _ h => h) (Or.inl ⟨by rfl, ?hy24⟩) (by assumption) ?rest25
                            case hy24 => ((intro w hSw; (try dsimp only at hSw); go_simp) <;> with_reducible rfl)
                            case rest25 =>
                            try simp only [Act.put, List.getElem_toArray, List.getElem_cons_zero, List.getElem_cons_succ, List.setIfInBounds_toArray, List.set_cons_zero, List.set_cons_succ]
                            refine wpAnyH_ready (rs := [25]) (by kernel_rfl) (by simp) ?_
                            refine AllReadyH.cons rfl (fun K hK => ?_) AllReadyH.nil
                            go_simp
                            (first | (go_at_call 19; refine (int_0 _ (by first | exact hP | exact hP.drew)).mono ?_; rintro e w' ⟨rfl, hbw⟩; replace hS := Box3.next (by first | exact hS | exact hS.drew) hbw; replace Y := Has3.next (by first | exact Y | exact Y.drew) hbw; replace U := Has3.next (by first | exact U | exact U.drew) hbw; replace O := Has3.next (by first | exact O | exact O.drew) hbw; clear hbw))
                            refine hK.out _ _ ?hS26 (fun hHeld2 => ?rest26)
                            case hS26 => first | (dsimp only; (first | exact ⟨hS.2.2, Y.2, U.2, O.2⟩ | exact ⟨hS.drew.2.2, Y.drew.2, U.drew.2, O.drew.2⟩)) | (first | exact ⟨hS.2.2, Y.2, U.2, O.2⟩ | exact ⟨hS.drew.2.2, Y.drew.2, U.drew.2, O.drew.2⟩)
                            case rest26 =>
                            clear hK K hHeld
                            try simp only [Act.put, List.getElem_toArray, List.getElem_cons_zero, List.getElem_cons_succ, List.setIfInBounds_toArray, List.set_cons_zero, List.set_cons_succ]
                            refine wpAnyH_take (i := 26) (v := ?v26) rfl (by kernel_rfl) (by kernel_rfl) (by kernel_rfl) (fun _ _ _ h => h) (Or.inl ⟨by rfl, ?hy26⟩) (by assumption) ?rest27
                            case hy26 => ((intro w hSw; (try dsimp only at hSw); go_simp) <;> with_reducible rfl)
                            case rest27 =>
                            try simp only [Act.put, List.getElem_toArray, List.getElem_cons_zero, List.getElem_cons_succ, List.setIfInBounds_toArray, List.set_cons_zero, List.set_cons_succ]
                            refine wpAnyH_take (i := 27) (v := ?v27) rfl (by kernel_rfl) (by kernel_rfl) (by kernel_rfl) (fun _ _ _ h => h) (Or.inl ⟨by rfl, ?hy27⟩) (by assumption) ?rest28
                            case hy27 => ((intro w hSw; (try dsimp only at hSw); go_simp) <;> with_reducible rfl)
                            case rest28 =>
                            try simp only [Act.put, List.getElem_toArray, List.getElem_cons_zero, List.getElem_cons_succ, List.setIfInBounds_toArray, List.set_cons_zero, List.set_cons_succ]
                            refine wpAnyH_take (i := 28) (v := ?v28) rfl (by kernel_rfl) (by kernel_rfl) (by kernel_rfl) (fun _ _ _ h => h) (Or.inl ⟨by rfl, ?hy28⟩) (by assumption) ?rest29
                            case hy28 => ((intro w hSw; (try dsimp only at hSw); go_simp) <;> with_reducible rfl)
                            case rest29 =>
                            try simp only [Act.put, List.getElem_toArray, List.getElem_cons_zero, List.getElem_cons_succ, List.setIfInBounds_toArray, List.set_cons_zero, List.set_cons_succ]
                            refine wpAnyH_take (i := 29) (v := ?v29) rfl (by kernel_rfl) (by kernel_rfl) (by kernel_rfl) (fun _ _ _ h => h) (Or.inl ⟨by rfl, ?hy29⟩) (by assumption) ?rest30
                            case hy29 => ((intro w hSw; (try dsimp only at hSw); go_simp) <;> with_reducible rfl)
                            case rest30 =>
                            try simp only [Act.put, List.getElem_toArray, List.getElem_cons_zero, List.getElem_cons_succ, List.setIfInBounds_toArray, List.set_cons_zero, List.set_cons_succ]
                            refine wpAnyH_take (i := 30) (v := ?v30) rfl (by kernel_rfl) (by kernel_rfl) (by kernel_rfl) (fun _ _ _ h => h) (Or.inl ⟨by rfl, ?hy30⟩) (by assumption) ?rest31
                            case hy30 => ((intro w hSw; (try dsimp only at hSw); go_simp) <;> with_reducible rfl)
                            case rest31 =>
                            try simp only [Act.put, List.getElem_toArray, List.getElem_cons_zero, List.getElem_cons_succ, List.setIfInBounds_toArray, List.set_cons_zero, List.set_cons_succ]
                            refine wpAnyH_take (i := 31) (v := ?v31) rfl (by kernel_rfl) (by kernel_rfl) (by kernel_rfl) (fun _ _ _ h => h) (Or.inl ⟨by rfl, ?hy31⟩) (by assumption) ?rest32
                            case hy31 => ((intro w hSw; (try dsimp only at hSw); go_simp) <;> with_reducible rfl)
                            case rest32 =>
                            try simp only [Act.put, List.getElem_toArray, List.getElem_cons_zero, List.getElem_cons_succ, List.setIfInBounds_toArray, List.set_cons_zero, List.set_cons_succ]
                            refine wpAnyH_take (i := 32) (v := ?v32) rfl (by kernel_rfl) (by kernel_rfl) (by kernel_rfl) (fun _ _ _ h => h) (Or.inl ⟨by rfl, ?hy32⟩) (by assumption) ?rest33
                            case hy32 => ((intro w hSw; (try dsimp only at hSw); go_simp) <;> with_reducible rfl)
                            case rest33 =>
                            try simp only [Act.put, List.getElem_toArray, List.getElem_cons_zero, List.getElem_cons_succ, List.setIfInBounds_toArray, List.set_cons_zero, List.set_cons_succ]
                            refine wpAnyH_done (by kernel_rfl) ?_ _
                            all_goals
                              go_wp2
                              go_ret
                              exact ⟨rfl, hS.1⟩
                        · as_aux_lemma =>
                            simp only [rx, ry, rz, re] at Y ⊢
                            clear X
                            obtain ⟨_, _, a0, a1, a2⟩ := id hS
                            obtain ⟨_, Y0, Y1, Y2⟩ := id Y
                            obtain ⟨_, U0, U1, U2⟩ := id U
                            obtain ⟨_, O0, O1, O2⟩ := id O
                            go_wp2_with fail
                            go_region_held3 (fun w' => (w'.cell? ⟨w.heap.size, 0, none⟩ = some (.bool ng) ∧ w'.cell? ⟨w.heap.size, 1, none⟩ = some (.string ⟨l.toArray⟩) ∧ w'.cell? ⟨w.heap.size, 2, none⟩ = some (.int .i64 (j : Int))) ∧ (w'.cell? ⟨g2, 0, none⟩ = some (.bool ng) ∧ w'.cell? ⟨g2, 1, none⟩ = some (.string ⟨l.toArray⟩) ∧ w'.cell? ⟨g2, 2, none⟩ = some (.int .i64 (j : Int))) ∧ (w'.cell? ⟨g3, 0, none⟩ = some (.bool ng) ∧ w'.cell? ⟨g3, 1, none⟩ = some (.string ⟨l.toArray⟩) ∧ w'.cell? ⟨g3, 2, none⟩ = some (.int .i64 (j : Int))) ∧ (w'.cell? ⟨g4, 0, none⟩ = some (.bool false) ∧ w'.cell? ⟨g4, 1, none⟩ = some (.string ⟨#[48]⟩) ∧ w'.cell? ⟨g4, 2, none⟩ = some (.int .i64 0))) (first | exact ⟨hS.2.2, Y.2, U.2, O.2⟩ | exact ⟨hS.drew.2.2, Y.drew.2, U.drew.2, O.drew.2⟩) (first | (go_at_call 19; refine (int_0 _ (by first | exact hP | exact hP.drew)).mono ?_; rintro e w' ⟨rfl, hbw⟩; replace hS := Box3.next (by first | exact hS | exact hS.drew) hbw; replace Y := Has3.next (by first | exact Y | exact Y.drew) hbw; replace U := Has3.next (by first | exact U | exact U.drew) hbw; replace O := Has3.next (by first | exact O | exact O.drew) hbw; clear hbw))
                            all_goals
                              go_wp2
                              go_ret
                              exact ⟨rfl, hS.1⟩
end Go.Proofs.YtijelgmmmceflaaDoor
