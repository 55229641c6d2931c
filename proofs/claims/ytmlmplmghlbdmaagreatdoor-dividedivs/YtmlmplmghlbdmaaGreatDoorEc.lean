/- What is proved here: what Pow of package divide does with a decimal that may be and a number from 0 to 99, walked; condition: the table of powers of ten lies in the world. What is proved here: what the law DividePows does with any decimal and any number, walked; condition: the table of powers of ten lies in the world. What is proved here: what the document's own answers for whole numbers and powers come to, walked; condition: a decimal that may be. What is proved here: what the law DivideWholes does with any decimal and any number, walked; condition: the table of powers of ten lies in the world. -/
import Derived.Test.YtmlmplmghlbdmaaGreatDoorDv
import Derived.Laws.BitsLemmas
import Derived.Deep.CutRange
import Derived.Deep.RegionHeld3
import Derived.Deep.RegionWith
namespace Go.Proofs.YtmlmplmghlbdmaaGreatDoor
open Go.RowKit
set_option linter.unusedVariables false
set_option linter.unusedSimpArgs false

/-- What the powers come to. -/
def PowR (a : Dm.D) : Nat → Option Dm.D → Prop
  | 0, r => r = some ⟨false, [49], 0⟩
  | k + 1, r => ∃ p, PowR a k p ∧ ((p = none ∧ r = none) ∨ (∃ q, p = some q ∧ Dm.Rep (Dm.sg q * Dm.sg a) (q.sc + a.sc) r))
theorem PowR.uniq {a : Dm.D} : ∀ (k : Nat) {r r' : Option Dm.D}, PowR a k r → PowR a k r' → r = r' := by
  intro k
  induction k with
  | zero => intro r r' h h'; unfold PowR at h h'; rw [h, h']
  | succ k ih =>
    intro r r' h h'
    unfold PowR at h h'
    obtain ⟨p, hp, h⟩ := h
    obtain ⟨p', hp', h'⟩ := h'
    have e := ih hp hp'
    subst e
    rcases h with ⟨g1, g2⟩ | ⟨q, g1, g2⟩
    · rcases h' with ⟨k1, k2⟩ | ⟨q', k1, k2⟩
      · rw [g2, k2]
      · rw [g1] at k1; cases k1
    · rcases h' with ⟨k1, k2⟩ | ⟨q', k1, k2⟩
      · rw [g1] at k1; cases k1
      · rw [g1] at k1
        injection k1 with k1
        subst k1
        exact g2.uniq k2
theorem PowR.step {a q : Dm.D} {k : Nat} {r : Option Dm.D} (h : PowR a k (some q)) (hr : Dm.Rep (Dm.sg q * Dm.sg a) (q.sc + a.sc) r) : PowR a (k + 1) r := ⟨some q, h, .inr ⟨q, rfl, hr⟩⟩
theorem PowR.none_on {a : Dm.D} {k : Nat} (h : PowR a k none) : ∀ j, PowR a (k + j) none := by
  intro j
  induction j with
  | zero => exact h
  | succ j ih => exact ⟨none, ih, .inl ⟨rfl, rfl⟩⟩
theorem PowR.stop {a q : Dm.D} {k n : Nat} (h : PowR a k (some q)) (hr : Dm.Rep (Dm.sg q * Dm.sg a) (q.sc + a.sc) none) (hk : k < n) : PowR a n none := by
  have := (h.step hr).none_on (n - (k + 1))
  rwa [show k + 1 + (n - (k + 1)) = n from by omega] at this
theorem PowR.may {a : Dm.D} {k : Nat} {q : Dm.D} (h : PowR a k (some q)) : Dm.May q := by
  cases k with
  | zero =>
    unfold PowR at h
    injection h with h
    subst h
    exact unit_may false
  | succ k =>
    unfold PowR at h
    obtain ⟨p, _, h⟩ := h
    rcases h with ⟨_, h⟩ | ⟨q', _, h⟩
    · cases h
    · exact h.1
def PwInv (w : World) (G : Nat) (x y z : Value) (p : Dm.D) (wr : World) : Prop := Pair3 w x y z wr ∧ w.heap.size + 1 < G ∧ Own3 G (.bool p.ng) (.string ⟨p.ds.toArray⟩) (.int .i64 (p.sc : Int)) wr
theorem PwInv.next {w : World} {G : Nat} {x y z : Value} {p : Dm.D} {wr w' : World} (h : PwInv w G x y z p wr) (hb : Below wr.heap.size wr w') : PwInv w G x y z p w' := ⟨h.1.next hb, h.2.1, h.2.2.next hb⟩
theorem Pair3.store {w0 w : World} {x y z : Value} (h : Pair3 w0 x y z w) {G : Nat} (hG : w0.heap.size + 1 < G) (p q r : Value) : Pair3 w0 x y z (set3 w G p q r) := by
  obtain ⟨h1, h2⟩ := h
  refine ⟨h1.step (B := w0.heap.size + 1) (by omega) (set3_below (Below.refl _ _) (by omega) p q r), h2.store_other (by omega) p q r⟩
theorem PwInv.store {w : World} {G : Nat} {x y z : Value} {p q : Dm.D} {wr : World} (h : PwInv w G x y z p wr) : PwInv w G x y z q (set3 wr G (.bool q.ng) (.string ⟨q.ds.toArray⟩) (.int .i64 (q.sc : Int))) := ⟨h.1.store h.2.1 _ _ _, h.2.1, h.2.2.store _ _ _⟩

set_option maxRecDepth 100000 in
set_option maxHeartbeats 2000000 in
theorem pow_r (x : Bool) (y : List UInt8) (z n : Nat) (w : World) (h : Dm.May ⟨x, y, z⟩) (hn : n ≤ 99) (htab : Pow w) :
    Calls Tryz.prog 23 #[.agg #[.bool x, .string ⟨y.toArray⟩, .int .i64 (z : Int)], .int .i64 (n : Int)] w fun e w' => ∃ r, e = .returned (.tuple #[.agg #[.bool (rx r), .string (ry r), .int .i64 (rz r)], .int .i64 (re r)]) ∧ PowR ⟨x, y, z⟩ n r ∧ Below w.heap.size w w' := by
  have hS := Pair3.start w (.bool x) (.string ⟨y.toArray⟩) (.int .i64 (z : Int)) 23
  have g1 : ¬ (n : Int) < 0 := by omega
  have g2 : ¬ (99 : Int) < (n : Int) := by omega
  go_enter Tryz.func23, Tryz.ntmps23
  go_wp2_with fail
  refine (int_one _ (htab.next hS.1.1)).mono ?_
  rintro e w1 ⟨rfl, hb1⟩
  replace hS := hS.next hb1
  clear hb1
  have hU := Own3.start w1 (.bool false) (.string ⟨#[49]⟩) (.int .i64 0) 23
  have hgt : w.heap.size + 1 < w1.heap.size := hS.2.1.1
  replace hS := hS.next ((Below.refl _ _).alloc (Nat.le_refl _) (.cells #[.bool false, .string ⟨#[49]⟩, .int .i64 0] 23))
  go_wp2_with fail
  go_loopw [18] (fun i wr => ∃ (k : Nat) (p : Dm.D), i = .int .i64 (k : Int) ∧ k ≤ n ∧ PowR ⟨x, y, z⟩ k (some p) ∧ PwInv w w1.heap.size (.bool x) (.string ⟨y.toArray⟩) (.int .i64 (z : Int)) p wr) (fun i _ => n + 1 - (intOf i).toNat)
  case atStart => exact ⟨0, ⟨false, [49], 0⟩, rfl, by omega, rfl, hS, hgt, hU⟩
  case round =>
    clear hS hU
    obtain ⟨k, ⟨p1, p2, p3⟩, rfl, hk, hR, hI⟩ := hrel
    have hm := hR.may
    obtain ⟨⟨⟨hB0, _, a0, a1, a2⟩, ⟨_, o0, o1, o2⟩, f0, f1, f2⟩, _, ⟨_, x0, x1, x2⟩, e0, e1, e2⟩ := id hI
    simp only at x0 x1 x2 e0 e1 e2
    by_cases hlt : k < n
    · go_wp2_with fail
      refine (mul_r ⟨p1, p2, p3⟩ ⟨x, y, z⟩ _ hm h).mono ?_
      rintro e w3 ⟨r, rfl, hr, hb3⟩
      replace hI := hI.next hb3
      clear hb3 hB0 a0 a1 a2 o0 o1 o2 f0 f1 f2 x0 x1 x2 e0 e1 e2
      have HR := hide hr
      clear hr
      cases r with
      | none =>
        simp only [rx, ry, rz, re]
        replace hI := hI.next ((Below.refl _ _).alloc (Nat.le_refl _) (.cells #[.bool false, .string ⟨#[]⟩, .int .i64 0] 23))
        obtain ⟨⟨⟨hB0, _, a0, a1, a2⟩, ⟨_, o0, o1, o2⟩, f0, f1, f2⟩, _, ⟨_, x0, x1, x2⟩, e0, e1, e2⟩ := id hI
        go_wp2
        exact bodyPost_ret (v := tV none) (by simp [results, Tryz.results23, go_sem, o0, o1, o2, tV, rx, ry, rz, re]) rfl ⟨none, rfl, hR.stop (unhide HR) hlt, hI.1.end _ _ _⟩
      | some q =>
        obtain ⟨q1, q2, q3⟩ := q
        simp only [rx, ry, rz, re]
        have hQ := Has3.start w3 (.bool q1) (.string ⟨q2.toArray⟩) (.int .i64 (q3 : Int)) 23
        replace hI := hI.next ((Below.refl _ _).alloc (Nat.le_refl _) (.cells #[.bool q1, .string ⟨q2.toArray⟩, .int .i64 (q3 : Int)] 23))
        obtain ⟨⟨⟨hB0, _, a0, a1, a2⟩, ⟨_, o0, o1, o2⟩, f0, f1, f2⟩, _, ⟨_, x0, x1, x2⟩, e0, e1, e2⟩ := id hI
        simp only at x0 x1 x2 e0 e1 e2
        go_wp2
        go_round
        case rel => exact ⟨k + 1, ⟨q1, q2, q3⟩, by go_num, by omega, hR.step (unhide HR), hI.store⟩
        case measure => simp [intOf]; omega
    · obtain rfl : k = n := by omega
      go_wp2
      exact bodyPost_ret (v := tV (some ⟨p1, p2, p3⟩)) (by simp [results, Tryz.results23, go_sem, o0, o1, o2, tV, rx, ry, rz, re]) rfl ⟨some ⟨p1, p2, p3⟩, rfl, hR, hI.1.end _ _ _⟩
end Go.Proofs.YtmlmplmghlbdmaaGreatDoor

namespace Go.Proofs.YtmlmplmghlbdmaaGreatDoor
open Go.RowKit
set_option linter.unusedVariables false
set_option linter.unusedSimpArgs false

theorem and_63 (z : Int) : ∃ k : Nat, k ≤ 63 ∧ bits .and .i64 z 63 = (k : Int) := by
  refine ⟨(BitVec.ofInt 64 z).toNat &&& 63, Nat.and_le_right, ?_⟩
  have h : (BitVec.ofInt 64 z).toNat &&& 63 ≤ 63 := Nat.and_le_right
  have e : bits .and .i64 z 63 = IntKind.i64.wrap (((BitVec.ofInt 64 z).toNat &&& 63 : Nat) : Int) := by
    simp only [bits, BitVec.toNat_and]
    rfl
  rw [e, IntKind.wrap_i64]
  omega
theorem pow_b (x : Bool) (y : List UInt8) (z k : Nat) (w : World) (h : Dm.May ⟨x, y, z⟩) (hk : k ≤ 63) (htab : Pow w) :
    Calls Tryz.prog 23 #[.agg #[.bool x, .string ⟨y.toArray⟩, .int .i64 (z : Int)], .int .i64 (k : Int)] w fun e w' => ∃ r, e = .returned (.tuple #[.agg #[.bool (rx r), .string (ry r), .int .i64 (rz r)], .int .i64 (re r)]) ∧ Hid (PowR ⟨x, y, z⟩ k r) ∧ Below w.heap.size w w' := by
  refine (pow_r x y z k w h (by omega) htab).mono ?_
  rintro e w' ⟨r, rfl, hr, hB⟩
  exact ⟨r, rfl, hide hr, hB⟩
theorem pow_b1 (x : Bool) (y : List UInt8) (z k : Nat) (w : World) (h : Dm.May ⟨x, y, z⟩) (hk : k ≤ 63) (htab : Pow w) :
    Calls Tryz.prog 23 #[.agg #[.bool x, .string ⟨y.toArray⟩, .int .i64 (z : Int)], .int .i64 ((k : Int) + 1)] w fun e w' => ∃ r, e = .returned (.tuple #[.agg #[.bool (rx r), .string (ry r), .int .i64 (rz r)], .int .i64 (re r)]) ∧ Hid (PowR ⟨x, y, z⟩ (k + 1) r) ∧ Below w.heap.size w w' := by
  have := pow_r x y z (k + 1) w h (by omega) htab
  refine this.mono ?_
  rintro e w' ⟨r, rfl, hr, hB⟩
  exact ⟨r, rfl, hide hr, hB⟩
theorem PowR.one : ∀ k : Nat, PowR ⟨false, [49], 0⟩ k (some ⟨false, [49], 0⟩) := by
  intro k
  induction k with
  | zero => rfl
  | succ k ih => exact ih.step (Dm.Rep.of_eqv (unit_may false) rfl)
theorem pow_one (k : Nat) (w : World) (hk : k ≤ 63) (htab : Pow w) :
    Calls Tryz.prog 23 #[.agg #[.bool false, .string ⟨#[49]⟩, .int .i64 0], .int .i64 (k : Int)] w fun e w' => e = .returned (.tuple #[.agg #[.bool false, .string ⟨#[49]⟩, .int .i64 0], .int .i64 0]) ∧ Below w.heap.size w w' := by
  refine (pow_r false [49] 0 k w (unit_may false) (by omega) htab).mono ?_
  rintro e w' ⟨r, rfl, hr, hB⟩
  have := hr.uniq k (PowR.one k)
  subst this
  exact ⟨rfl, hB⟩

set_option maxRecDepth 100000 in
set_option maxHeartbeats 2000000 in
theorem pows_no (ng : Bool) (t : ByteArray) (z n : Int) (w : World) (ht : t.size ≤ maxLen) (hm : Dm.mayB ng t.data.toList z = false) (htab : Pow w) :
    Calls Tryz.prog 8 #[.agg #[.bool ng, .string t, .int .i64 z], .int .i64 n] w fun e w' => e = .returned (.bool true) ∧ Below w.heap.size w w' := by
  have hS := Box3.start w (.bool ng) (.string t) (.int .i64 z) 23
  have HM := hide hm
  clear hm
  go_enter Tryz.func8, Tryz.ntmps8
  obtain ⟨_, _, a0, a1, a2⟩ := id hS
  go_wp2_with fail
  clear a0 a1 a2
  refine (shown2 _ (htab.next hS.1)).mono ?_
  rintro e w1 ⟨rfl, hb1⟩
  replace hS := hS.next hb1
  clear hb1
  obtain ⟨_, _, a0, a1, a2⟩ := id hS
  go_wp2_with fail
  clear a0 a1 a2
  refine (rmay_b ng t z false _ ht (unhide HM)).mono ?_
  rintro e w2 ⟨rfl, hb2⟩
  replace hS := hS.next hb2
  clear hb2
  obtain ⟨_, _, a0, a1, a2⟩ := id hS
  go_wp2
  go_ret
  exact ⟨rfl, hS.1⟩
set_option maxRecDepth 100000 in
set_option maxHeartbeats 4000000 in
theorem pows_yes (x : Bool) (l : List UInt8) (z : Nat) (n : Int) (w : World) (h : Dm.May ⟨x, l, z⟩) (htab : Pow w) :
    Calls Tryz.prog 8 #[.agg #[.bool x, .string ⟨l.toArray⟩, .int .i64 (z : Int)], .int .i64 n] w fun e w' => e = .returned (.bool true) ∧ Below w.heap.size w w' := by
  have hS := Box3.start w (.bool x) (.string ⟨l.toArray⟩) (.int .i64 (z : Int)) 23
  have hs : (⟨l.toArray⟩ : ByteArray).size ≤ maxLen := by rw [mk_size]; have := (may_len h).2.1; simp only at this; unfold maxLen; omega
  have HM := hide (dV_may h)
  obtain ⟨k, hk, hkb⟩ := and_63 n
  have hw : IntKind.i64.wrap ((k : Int) + 1) = (k : Int) + 1 := wrap_id (by omega) (by omega)
  go_enter Tryz.func8, Tryz.ntmps8
  obtain ⟨_, _, a0, a1, a2⟩ := id hS
  go_wp2_with fail
  clear a0 a1 a2
  refine (shown2 _ (htab.next hS.1)).mono ?_
  rintro e w1 ⟨rfl, hb1⟩
  replace hS := hS.next hb1
  clear hb1
  obtain ⟨_, _, a0, a1, a2⟩ := id hS
  go_wp2_with fail
  clear a0 a1 a2
  refine (rmay_b x ⟨l.toArray⟩ (z : Int) true _ hs (unhide HM)).mono ?_
  rintro e w2 ⟨rfl, hb2⟩
  replace hS := hS.next hb2
  clear hb2
  obtain ⟨_, _, a0, a1, a2⟩ := id hS
  go_wp2_with fail
  clear a0 a1 a2
  refine (pow_b x l z k _ h hk (htab.next hS.1)).mono ?_
  rintro e w3 ⟨r, rfl, HR, hb3⟩
  replace hS := hS.next hb3
  clear hb3
  generalize hz0 : rx r = r_0
  have rZ0 := hide hz0
  clear hz0
  generalize hz1 : ry r = r_1
  have rZ1 := hide hz1
  clear hz1
  generalize hz2 : rz r = r_2
  have rZ2 := hide hz2
  clear hz2
  generalize hz3 : re r = r_3
  have rZ3 := hide hz3
  clear hz3
  replace hS := hS.next ((Below.refl _ _).alloc (Nat.le_refl _) (.cells #[.bool r_0, .string r_1, .int .i64 r_2] 23))
  have R := Has3.start w3 (.bool r_0) (.string r_1) (.int .i64 r_2) 23
  obtain ⟨_, _, a0, a1, a2⟩ := id hS
  obtain ⟨_, R0, R1, R2⟩ := id R
  go_wp2_with fail
  clear a0 a1 a2
  clear R0 R1 R2
  refine (pow_b1 x l z k _ h hk (htab.next hS.1)).mono ?_
  rintro e w4 ⟨t, rfl, HT, hb4⟩
  replace hS := hS.next hb4
  replace R := R.next hb4
  clear hb4
  generalize hz0 : rx t = t_0
  have tZ0 := hide hz0
  clear hz0
  generalize hz1 : ry t = t_1
  have tZ1 := hide hz1
  clear hz1
  generalize hz2 : rz t = t_2
  have tZ2 := hide hz2
  clear hz2
  generalize hz3 : re t = t_3
  have tZ3 := hide hz3
  clear hz3
  replace hS := hS.next ((Below.refl _ _).alloc (Nat.le_refl _) (.cells #[.bool t_0, .string t_1, .int .i64 t_2] 23))
  replace R := R.next ((Below.refl _ _).alloc (Nat.le_refl _) (.cells #[.bool t_0, .string t_1, .int .i64 t_2] 23))
  have T := Has3.start w4 (.bool t_0) (.string t_1) (.int .i64 t_2) 23
  obtain ⟨_, _, a0, a1, a2⟩ := id hS
  obtain ⟨_, R0, R1, R2⟩ := id R
  obtain ⟨_, T0, T1, T2⟩ := id T
  go_wp2_with fail
  clear a0 a1 a2
  clear R0 R1 R2
  clear T0 T1 T2
  refine (pow_one k _ hk (htab.next hS.1)).mono ?_
  rintro e w5 ⟨rfl, hb5⟩
  replace hS := hS.next hb5
  replace R := R.next hb5
  replace T := T.next hb5
  clear hb5
  replace hS := hS.next ((Below.refl _ _).alloc (Nat.le_refl _) (.cells #[.bool false, .string ⟨#[49]⟩, .int .i64 0] 23))
  replace R := R.next ((Below.refl _ _).alloc (Nat.le_refl _) (.cells #[.bool false, .string ⟨#[49]⟩, .int .i64 0] 23))
  replace T := T.next ((Below.refl _ _).alloc (Nat.le_refl _) (.cells #[.bool false, .string ⟨#[49]⟩, .int .i64 0] 23))
  have U := Has3.start w5 (.bool false) (.string ⟨#[49]⟩) (.int .i64 0) 23
  cases r with
  | none =>
    obtain rfl := unhide rZ3
    have ht : t = none := (unhide HT).uniq _ ((unhide HR).none_on 1)
    subst ht
    obtain rfl := unhide tZ3
    simp only [re]
    obtain ⟨_, _, a0, a1, a2⟩ := id hS
    obtain ⟨_, R0, R1, R2⟩ := id R
    obtain ⟨_, T0, T1, T2⟩ := id T
    obtain ⟨_, U0, U1, U2⟩ := id U
    go_wp2
    go_ret
    exact ⟨rfl, hS.1⟩
  | some p =>
    obtain ⟨p1, p2, p3⟩ := p
    obtain rfl : p1 = r_0 := unhide rZ0
    obtain rfl : r_1 = ⟨p2.toArray⟩ := (unhide rZ1).symm
    obtain rfl : r_2 = (p3 : Int) := (unhide rZ2).symm
    obtain rfl : r_3 = 0 := (unhide rZ3).symm
    obtain ⟨_, _, a0, a1, a2⟩ := id hS
    obtain ⟨_, R0, R1, R2⟩ := id R
    obtain ⟨_, T0, T1, T2⟩ := id T
    obtain ⟨_, U0, U1, U2⟩ := id U
    go_wp2_with fail
    clear a0 a1 a2
    clear R0 R1 R2
    clear T0 T1 T2
    clear U0 U1 U2
    refine (rmul_b p1 p2 p3 x l z _ (unhide HR).may h).mono ?_
    rintro e w6 ⟨q, rfl, HQ, hb6⟩
    replace hS := hS.next hb6
    replace R := R.next hb6
    replace T := T.next hb6
    replace U := U.next hb6
    clear hb6
    obtain rfl : q = t := ((unhide HR).step (unhide HQ)).uniq _ (unhide HT)
    rw [unhide tZ0, unhide tZ1, unhide tZ2, unhide tZ3]
    replace hS := hS.next ((Below.refl _ _).alloc (Nat.le_refl _) (.cells #[.bool t_0, .string t_1, .int .i64 t_2] 23))
    replace R := R.next ((Below.refl _ _).alloc (Nat.le_refl _) (.cells #[.bool t_0, .string t_1, .int .i64 t_2] 23))
    replace T := T.next ((Below.refl _ _).alloc (Nat.le_refl _) (.cells #[.bool t_0, .string t_1, .int .i64 t_2] 23))
    replace U := U.next ((Below.refl _ _).alloc (Nat.le_refl _) (.cells #[.bool t_0, .string t_1, .int .i64 t_2] 23))
    have M := Has3.start w6 (.bool t_0) (.string t_1) (.int .i64 t_2) 23
    obtain ⟨_, _, a0, a1, a2⟩ := id hS
    obtain ⟨_, R0, R1, R2⟩ := id R
    obtain ⟨_, T0, T1, T2⟩ := id T
    obtain ⟨_, U0, U1, U2⟩ := id U
    obtain ⟨_, M0, M1, M2⟩ := id M
    go_wp2
    go_ret
    exact ⟨rfl, hS.1⟩
theorem pows_walk (x : Bool) (t : ByteArray) (z n : Int) (w : World) (ht : t.size ≤ maxLen) (h0 : -9223372036854775808 ≤ n) (h1 : n ≤ 9223372036854775807) (htab : Pow w) :
    Calls Tryz.prog 8 #[.agg #[.bool x, .string t, .int .i64 z], .int .i64 n] w fun e w' => e = .returned (.bool true) ∧ Below w.heap.size w w' := by
  cases hm : Dm.mayB x t.data.toList z with
  | false => exact pows_no x t z n w ht hm htab
  | true =>
    obtain ⟨l, j, rfl, rfl, h⟩ := may_split5 hm
    exact pows_yes x l j n w h htab
end Go.Proofs.YtmlmplmghlbdmaaGreatDoor

namespace Go.Proofs.YtmlmplmghlbdmaaGreatDoor
open Go.RowKit
set_option linter.unusedVariables false
set_option linter.unusedSimpArgs false

set_option maxRecDepth 100000 in
set_option maxHeartbeats 1000000 in
theorem qzeros_any (n : Int) (w : World) (h1 : n ≤ 100000) :
    Calls Tryz.prog 42 #[.int .i64 n] w fun e w' => e = .returned (.string ⟨(List.replicate n.toNat (48 : UInt8)).toArray⟩) ∧ w' = w := by
  go_enter Tryz.func42, Tryz.ntmps42
  go_wp2
  go_loop [3, 4] (fun s i => ∃ k : Nat, k ≤ n.toNat ∧ i = .int .i64 k ∧ s = .string ⟨(List.replicate k (48 : UInt8)).toArray⟩) (fun _ i => n.toNat - (intOf i).toNat)
  case atStart => exact ⟨0, Nat.zero_le _, rfl, rfl⟩
  case round =>
    obtain ⟨k, hk, rfl, rfl⟩ := hrel
    by_cases hlt : (k : Int) < n
    · go_wp2
      go_round
      case rel => exact ⟨k + 1, by omega, by go_num, congrArg Value.string (by rw [← zeros_snoc]; simp)⟩
      case measure => simp [intOf]; omega
    · have e : k = n.toNat := by omega
      have HE := hide e
      clear e
      go_wp2
      go_ret
      exact ⟨ret_s (by rw [unhide HE]), rfl⟩
theorem qzeros_o (n : Int) (k : Nat) (zs : List UInt8) (w : World) (h0 : n = (k : Int)) (h1 : k ≤ 1000) (hz : Hid (zs = List.replicate k 48)) :
    Calls Tryz.prog 42 #[.int .i64 n] w fun e w' => e = .returned (.string ⟨zs.toArray⟩) ∧ w' = w := by
  have := qzeros_any n w (by omega)
  rw [h0, Int.toNat_natCast, ← unhide hz] at this
  rw [h0]; exact this
set_option maxRecDepth 100000 in
set_option maxHeartbeats 1000000 in
theorem wide_b (l X : List UInt8) (n k : Nat) (w : World) (hk : n = l.length + k) (hn : n ≤ 500) (hX : Hid (List.replicate k 48 ++ l = X)) :
    Calls Tryz.prog 41 #[.string ⟨l.toArray⟩, .int .i64 (n : Int)] w fun e w' => e = .returned (.string ⟨X.toArray⟩) ∧ w' = w := by
  obtain ⟨zs, hz⟩ : ∃ zs : List UInt8, zs = List.replicate k 48 := ⟨_, rfl⟩
  have hzl : zs.length ≤ 500 := by rw [hz, List.length_replicate]; omega
  have hll : l.length ≤ 500 := by omega
  have hsub : (n : Int) - (l.length : Int) = (k : Int) := by omega
  have HZ := hide hz
  have HS := hide hsub
  have hk5 : k ≤ 500 := by omega
  clear hz hsub hk
  go_enter Tryz.func41, Tryz.ntmps41
  go_wp2_with (go_at_call 42; refine (qzeros_o _ k zs _ (unhide HS) (by omega) HZ).mono ?_; rintro e w1 ⟨rfl, rfl⟩)
  go_ret
  refine ⟨ret_s ?_, rfl⟩
  rw [mk_join zs l, unhide HZ, unhide hX]
theorem norm_w (x : Bool) (X : List UInt8) (m : Nat) (d1 : Bool) (d2 : List UInt8) (w : World) (hl : X.length ≤ 130) (hd : Dm.allD X) (hfix : Hid (∀ r, Dm.Rep (Dm.sgn x (Dm.num (X.take m))) 0 r → r = some ⟨d1, d2, 0⟩)) :
    Calls Tryz.prog 43 #[.bool x, .string ((⟨X.toArray⟩ : ByteArray).extract 0 m), .int .i64 0] w fun e w' => e = .returned (.tuple #[.agg #[.bool d1, .string ⟨d2.toArray⟩, .int .i64 0], .int .i64 0]) ∧ Below w.heap.size w w' := by
  have e1 : (⟨X.toArray⟩ : ByteArray).extract 0 m = ⟨(X.take m).toArray⟩ := by
    apply str_ext
    rw [Go.Lib.extract_data, mk_list, List.drop_zero, Nat.sub_zero]
  rw [e1]
  refine (norm_r x (X.take m) 0 _ w (by rw [List.length_take]; omega) (by decide) (fun c hc => hd c (List.mem_of_mem_take hc)) rfl).mono ?_
  rintro e w' ⟨r, rfl, hr, hB⟩
  have := unhide hfix r hr
  subst this
  exact ⟨rfl, hB⟩
theorem Has3.cc {b : Nat} {x y z : Value} {w : World} (h : Has3 b x y z w) : w.cell? ⟨b, 0, none⟩ = some x ∧ w.cell? ⟨b, 1, none⟩ = some y ∧ w.cell? ⟨b, 2, none⟩ = some z := h.2
theorem Has3.cs {a b : Nat} {x y z : Value} {w : World} (h : Has3 a x y z w) (hab : a ≠ b) (p q r : Value) : (((w.setCell ⟨b, 0, none⟩ p).setCell ⟨b, 1, none⟩ q).setCell ⟨b, 2, none⟩ r).cell? ⟨a, 0, none⟩ = some x ∧ (((w.setCell ⟨b, 0, none⟩ p).setCell ⟨b, 1, none⟩ q).setCell ⟨b, 2, none⟩ r).cell? ⟨a, 1, none⟩ = some y ∧ (((w.setCell ⟨b, 0, none⟩ p).setCell ⟨b, 1, none⟩ q).setCell ⟨b, 2, none⟩ r).cell? ⟨a, 2, none⟩ = some z := (h.store hab p q r).2
theorem Has3.csd {a b : Nat} {x y z : Value} {w : World} (h : Has3 a x y z w) (hab : a ≠ b) (p q r : Value) : (((w.setCell ⟨b, 0, none⟩ p).setCell ⟨b, 1, none⟩ q).setCell ⟨b, 2, none⟩ r).drew.cell? ⟨a, 0, none⟩ = some x ∧ (((w.setCell ⟨b, 0, none⟩ p).setCell ⟨b, 1, none⟩ q).setCell ⟨b, 2, none⟩ r).drew.cell? ⟨a, 1, none⟩ = some y ∧ (((w.setCell ⟨b, 0, none⟩ p).setCell ⟨b, 1, none⟩ q).setCell ⟨b, 2, none⟩ r).drew.cell? ⟨a, 2, none⟩ = some z := (h.store hab p q r).drew.2

set_option maxRecDepth 100000 in
set_option maxHeartbeats 4000000 in
theorem qwhole (x : Bool) (y : List UInt8) (z : Nat) (d1 : Bool) (d2 : List UInt8) (c : UInt8) (X : List UInt8) (k m : Nat) (w : World) (h : Dm.May ⟨x, y, z⟩) (hk : max (y.length : Int) ((z : Int) + 1) = ((y.length + k : Nat) : Int)) (hX : List.replicate k 48 ++ y = X) (hm : y.length + k = z + m) (hc : c = if z = 0 then 48 else X.getD m 0)
    (hfix : Hid (∀ r, Dm.Rep (Dm.sgn x (Dm.num (X.take m))) 0 r → r = some ⟨d1, d2, 0⟩)) :
    Calls Tryz.prog 48 #[.agg #[.bool x, .string ⟨y.toArray⟩, .int .i64 (z : Int)]] w fun e w' => e = .returned (.tuple #[.agg #[.bool d1, .string ⟨d2.toArray⟩, .int .i64 0], .int .u8 (c.toNat : Int)]) ∧ Below w.heap.size w w' := by
  have hS := Pair3.start w (.bool x) (.string ⟨y.toArray⟩) (.int .i64 (z : Int)) 23
  obtain ⟨l1, l2, l3⟩ := may_len h
  simp only at l1 l2 l3
  have hk60 : k ≤ 61 := by omega
  have hXl : X.length = y.length + k := by rw [← hX, List.length_append, List.length_replicate]; omega
  have hXd : Dm.allD X := by rw [← hX]; exact Dm.allD_append.2 ⟨Dm.allD_zeros _, h.1⟩
  have hX130 : X.length ≤ 130 := by omega
  have hat : (X.length : Int) - (z : Int) = (m : Int) := by omega
  have hw : IntKind.i64.wrap ((X.length : Int) - (z : Int)) = (X.length : Int) - (z : Int) := wrap_id (by omega) (by omega)
  have m0 : (0 : Int) ≤ (m : Int) := by omega
  have m1 : (m : Int) ≤ (X.length : Int) := by omega
  have m2 : m ≤ X.length := by omega
  have hmz : 0 < z → m < X.length := by omega
  obtain ⟨N, hN⟩ : ∃ N : Nat, y.length + k = N := ⟨_, rfl⟩
  rw [hN] at hk
  have HK := hide hk
  have HX := hide hX
  have HC := hide hc
  have hN5 : N ≤ 500 := by omega
  have hNk : N = y.length + k := hN.symm
  have HNK := hide hNk
  clear hk hX hN hm hXl hc hNk
  obtain ⟨a0, a1, a2⟩ := hS.cells
  go_enter Tryz.func48, Tryz.ntmps48
  go_wp2_with fail
  simp only [unhide HK]
  refine (wide_b y X N k _ (unhide HNK) hN5 HX).mono ?_
  rintro e w1 ⟨rfl, rfl⟩
  go_upto_region 3 with fail
  clear a0 a1 a2
  generalize hv : (w.alloc (.cells #[.bool x, .string ⟨y.toArray⟩, .int .i64 (z : Int)] 23)).alloc (.cells #[.bool false, .string ⟨#[]⟩, .int .i64 0] 23) = w1 at *
  clear hv
  obtain ⟨a0, a1, a2⟩ := hS.cells
  go_cut [6, 7] from 8 to 31 (fun v6 v7 wx => ∃ g : Nat, v6 = .pointer (some ⟨g, 0, none⟩) ∧ v7 = .int .i64 0 ∧ w1.heap.size ≤ g ∧ Below w1.heap.size w1 wx ∧ Has3 g (.bool d1) (.string ⟨d2.toArray⟩) (.int .i64 0) wx)
  case first =>
    have hB : Below w1.heap.size w1 w1.drew := (Below.refl _ _).drew
    have hX : Box3 w (.bool x) (.string ⟨y.toArray⟩) (.int .i64 (z : Int)) w1 := hS.1
    go_region_held3 (fun w' => w'.cell? ⟨w.heap.size, 0, none⟩ = some (.bool x) ∧ w'.cell? ⟨w.heap.size, 1, none⟩ = some (.string ⟨y.toArray⟩) ∧ w'.cell? ⟨w.heap.size, 2, none⟩ = some (.int .i64 (z : Int))) (first | with_reducible exact Box3.cells (Box3.next hX hB) | with_reducible exact Box3.cells_a (Box3.next hX hB) _ | with_reducible exact Box3.cells_ad hX _ | with_reducible exact Box3.cells_s (Box3.next hX hB) (Nat.lt_of_lt_of_le (Box3.lt hX) hg) _ _ _)
      (first | (go_at_call 43; first | ((fail_if_success have := hA); refine (norm_w x X m d1 d2 _ hX130 hXd hfix).mono ?_; rintro e w' ⟨rfl, hbw⟩; replace hB := hB.trans (hbw.mono hB.size); clear hbw) | ((fail_if_success have := hA); refine (norm_w x X m d1 d2 _ hX130 hXd hfix).mono ?_; rintro e w' ⟨rfl, hbw⟩; have hg := Nat.le_refl w1.heap.size; have hA := Own3.next (Own3.next (Own3.start _ (.bool false) (.string ⟨#[]⟩) (.int .i64 0) 23) (Below.refl _ _).drew) hbw; replace hB := (((Below.refl _ _).alloc (Nat.le_refl _) _).drew).trans (hbw.mono (((Below.refl w1.heap.size w1).alloc (Nat.le_refl _) (.cells #[.bool false, .string ⟨#[]⟩, .int .i64 0] 23)).drew).size); obtain ⟨⟨_, k0, k1, k2⟩, f0, f1, f2⟩ := id hA; clear hbw)))
    all_goals
      go_wp2_with fail
      go_meet
      case rel =>
        first
        | exact ⟨_, rfl, rfl, hB.size, hB.alloc hB.size _, Has3.start _ _ _ _ _⟩
        | exact ⟨_, rfl, rfl, hg, set3_below hB hg _ _ _, (hA.store _ _ _).1⟩
  case rest =>
  obtain ⟨g, rfl, rfl, hg, hB, A⟩ := hcut
  have hgw : w.heap.size + 1 < g := Nat.lt_of_lt_of_le hS.2.1.1 hg
  replace hS := hS.next hB
  clear a0 a1 a2 hB hfix
  by_cases hz : z = 0
  · have z1 : ((z : Int) == 0) = true := beq_iff_eq.2 (by omega)
    have hcz : c = 48 := by rw [unhide HC, if_pos hz]
    subst hcz
    obtain ⟨a0, a1, a2⟩ := hS.cells
    obtain ⟨⟨o0, o1, o2⟩, f0, f1, f2⟩ := hS.out
    obtain ⟨_, b0, b1, b2⟩ := id A
    go_wp2_with fail
    exact bodyPost_ret (v := .tuple #[.agg #[.bool d1, .string ⟨d2.toArray⟩, .int .i64 0], .int .u8 48]) (by simp [results, Tryz.results48, go_sem, o0, o1, o2]) rfl ⟨rfl, hS.end _ _ _⟩
  · have z1 : ((z : Int) == 0) = false := beq_eq_false_iff_ne.2 (by omega)
    have hlt : m < X.length := hmz (by omega)
    have m3 : (m : Int) < (X.length : Int) := by omega
    have hms : m < (⟨X.toArray⟩ : ByteArray).size := by rw [mk_size]; exact hlt
    have hcz : c = X[m]'hlt := by
      rw [unhide HC, if_neg hz]
      simp [List.getD, hlt]
    have hce : ((⟨X.toArray⟩ : ByteArray)[m]'hms) = c := by rw [hcz]; rfl
    obtain ⟨a0, a1, a2⟩ := hS.cells
    obtain ⟨⟨o0, o1, o2⟩, f0, f1, f2⟩ := hS.out
    obtain ⟨hlg, b0, b1, b2⟩ := id A
    clear HC
    have hgn : g ≠ w.heap.size + 1 := by omega
    go_wp2_with fail
    go_region_held3 (fun w' => w'.cell? ⟨g, 0, none⟩ = some (.bool d1) ∧ w'.cell? ⟨g, 1, none⟩ = some (.string ⟨d2.toArray⟩) ∧ w'.cell? ⟨g, 2, none⟩ = some (.int .i64 0)) (first | with_reducible exact Has3.cc A | with_reducible exact Has3.cc (Has3.drew A) | with_reducible exact Has3.cs A hgn _ _ _ | with_reducible exact Has3.cs (Has3.drew A) hgn _ _ _ | with_reducible exact Has3.csd A hgn _ _ _ | exact Has3.cs A hgn _ _ _) (fail)
    all_goals
      go_wp2
      refine bodyPost_ret (v := .tuple #[.agg #[.bool d1, .string ⟨d2.toArray⟩, .int .i64 0], .int .u8 (c.toNat : Int)]) ?_ rfl ⟨rfl, by first | exact hS.end _ _ _ | exact (hS.end _ _ _).drew⟩
      simp [results, Tryz.results48, go_sem, o0, o1, o2, hcz]
/-- The whole part, and the digit behind the point, as the document has them. -/
theorem qwhole_b (x : Bool) (y : List UInt8) (z : Nat) (d1 : Bool) (d2 : List UInt8) (w : World) (h : Dm.May ⟨x, y, z⟩) (hfix : Hid (∀ r, Dm.Rep (Dm.sgn x (Dm.num y / 10 ^ z)) 0 r → r = some ⟨d1, d2, 0⟩)) :
    Calls Tryz.prog 48 #[.agg #[.bool x, .string ⟨y.toArray⟩, .int .i64 (z : Int)]] w fun e w' => ∃ c : UInt8, e = .returned (.tuple #[.agg #[.bool d1, .string ⟨d2.toArray⟩, .int .i64 0], .int .u8 (c.toNat : Int)]) ∧ Hid (decide (53 ≤ c.toNat) = (decide (0 < z) && (decide (z ≤ y.length) && decide (53 ≤ (y.getD (y.length - z) 0).toNat)))) ∧ Below w.heap.size w w' := by
  obtain ⟨k, hk⟩ : ∃ k : Nat, max (y.length : Int) ((z : Int) + 1) = ((y.length + k : Nat) : Int) := ⟨(max (y.length : Int) ((z : Int) + 1)).toNat - y.length, by omega⟩
  obtain ⟨m, hm⟩ : ∃ m : Nat, y.length + k = z + m := ⟨y.length + k - z, by omega⟩
  have hXd : Dm.allD (List.replicate k 48 ++ y) := Dm.allD_append.2 ⟨Dm.allD_zeros _, h.1⟩
  have hXl : (List.replicate k 48 ++ y).length = y.length + k := by rw [List.length_append, List.length_replicate]; omega
  have hnum : Dm.num ((List.replicate k 48 ++ y).take m) = Dm.num y / 10 ^ z := by
    rw [(Dm.split_num hXd m (by omega)).1, Dm.num_zeros_append, hXl]
    congr 2
    omega
  refine (qwhole x y z d1 d2 _ _ k m w h hk rfl hm rfl (by rw [hnum]; exact hfix)).mono ?_
  rintro e w' ⟨rfl, hB⟩
  refine ⟨_, rfl, hide ?_, hB⟩
  by_cases hz : z = 0
  · subst hz
    rfl
  · rw [if_neg hz, decide_eq_true (show 0 < z by omega), Bool.true_and]
    by_cases g : z ≤ y.length
    · rw [decide_eq_true g, Bool.true_and]
      have e : (List.replicate k 48 ++ y).getD m 0 = y.getD (y.length - z) 0 := by
        rw [List.getD, List.getElem?_append_right (by rw [List.length_replicate]; omega), List.length_replicate, show m - k = y.length - z from by omega]
        rfl
      rw [e]
    · rw [decide_eq_false g, Bool.false_and]
      have e : (List.replicate k (48 : UInt8) ++ y).getD m 0 = 48 := by
        rw [List.getD, List.getElem?_append_left (by rw [List.length_replicate]; omega), List.getElem?_replicate, if_pos (by omega)]
        rfl
      rw [e]
      rfl
set_option maxRecDepth 100000 in
set_option maxHeartbeats 2000000 in
theorem apart_c (d1 : Bool) (d2 : List UInt8) (b f1 : Bool) (f2 : List UInt8) (w : World) (h : Dm.May ⟨d1, d2, 0⟩) (hf : Hid (∀ r, Dm.Rep (Dm.sg ⟨d1, d2, 0⟩ + Dm.sgn b 1) 0 r → r = some ⟨f1, f2, 0⟩)) :
    Calls Tryz.prog 49 #[.agg #[.bool d1, .string ⟨d2.toArray⟩, .int .i64 0], .bool b] w fun e w' => e = .returned (.tuple #[.agg #[.bool f1, .string ⟨f2.toArray⟩, .int .i64 0], .int .i64 0]) ∧ Below w.heap.size w w' := by
  have hS := Pair3.start w (.bool d1) (.string ⟨d2.toArray⟩) (.int .i64 0) 23
  have hr : ∀ W, Calls Tryz.prog 27 #[.agg #[.bool d1, .string ⟨d2.toArray⟩, .int .i64 0], .agg #[.bool b, .string ⟨#[49]⟩, .int .i64 0]] W fun e w' => e = .returned (.tuple #[.agg #[.bool f1, .string ⟨f2.toArray⟩, .int .i64 0], .int .i64 0]) ∧ Below W.heap.size W w' := by
    intro W
    refine (radd_r d1 d2 0 b [49] 0 W h (unit_may b)).mono ?_
    rintro e w' ⟨r, rfl, hr, hB⟩
    rw [unit_sg, Dm.p10_zero, Int.mul_one, Int.mul_one] at hr
    have := unhide hf r hr
    subst this
    exact ⟨rfl, hB⟩
  have HR := hide hr
  clear hr
  obtain ⟨a0, a1, a2⟩ := hS.cells
  go_enter Tryz.func49, Tryz.ntmps49
  go_wp2_with (go_at_call 27; refine (unhide HR _).mono ?_; rintro e w1 ⟨rfl, hb⟩; replace hS := hS.next hb; clear a0 a1 a2; obtain ⟨⟨o0, o1, o2⟩, f0, f1', f2'⟩ := hS.out)
  exact bodyPost_ret (v := .tuple #[.agg #[.bool f1, .string ⟨f2.toArray⟩, .int .i64 0], .int .i64 0]) (by simp [results, Tryz.results49, go_sem, o0, o1, o2]) rfl ⟨rfl, hS.end _ _ _⟩
/-- A decimal's whole part, and one more. -/
theorem far_fix {x d1 f1 : Bool} {d2 f2 : List UInt8} {W : Nat} (hd : Dm.sg ⟨d1, d2, 0⟩ = Dm.sgn x W) (hf : ∀ r, Dm.Rep (Dm.sgn x (W + 1)) 0 r → r = some ⟨f1, f2, 0⟩) : ∀ r, Dm.Rep (Dm.sg ⟨d1, d2, 0⟩ + Dm.sgn x 1) 0 r → r = some ⟨f1, f2, 0⟩ := by
  intro r hr
  apply hf r
  have e : Dm.sgn x (W + 1) = Dm.sgn x W + Dm.sgn x 1 := by cases x <;> simp [Dm.sgn] <;> omega
  rw [e, ← hd]
  exact hr
set_option maxRecDepth 100000 in
set_option maxHeartbeats 2000000 in
theorem qfloor_c (x : Bool) (y : List UInt8) (z : Nat) (f1 : Bool) (f2 : List UInt8) (w : World) (h : Dm.May ⟨x, y, z⟩) (hf : Hid (∀ r, Dm.Rep (Dm.sgn x (Dm.num y / 10 ^ z + (decide (0 < z) && x).toNat)) 0 r → r = some ⟨f1, f2, 0⟩)) :
    Calls Tryz.prog 18 #[.agg #[.bool x, .string ⟨y.toArray⟩, .int .i64 (z : Int)]] w fun e w' => e = .returned (.tuple #[.agg #[.bool f1, .string ⟨f2.toArray⟩, .int .i64 0], .int .i64 0]) ∧ Below w.heap.size w w' := by
  have hS := Pair3.start w (.bool x) (.string ⟨y.toArray⟩) (.int .i64 (z : Int)) 23
  have w0 := Dm.whole_lt h 0 (by decide) (.inr rfl)
  simp only [Nat.add_zero] at w0
  obtain ⟨d1, d2, md, sd, fd⟩ := Dm.rep_ex (ng := x) w0
  have HW := hide (fun W => qwhole_b x y z d1 d2 W h (hide fd))
  obtain ⟨far, hfar⟩ : ∃ far, (decide (0 < z) && x) = far := ⟨_, rfl⟩
  have hf2 := unhide hf
  rw [hfar] at hf2
  have HD := hide md
  skip
  cases far with
  | false =>
    rw [Bool.toNat_false, Nat.add_zero] at hf2
    have e := hf2 _ (Dm.Rep.of_eqv md (by rw [sd]))
    injection e with e
    injection e with e1 e2
    subst e1 e2
    clear hf hf2 fd sd
    have hcs : (x = false) ∨ (x = true ∧ ¬ (0 : Int) < (z : Int)) := by
      cases x with
      | false => exact .inl rfl
      | true => exact .inr ⟨rfl, by simp at hfar; omega⟩
    rcases hcs with rfl | ⟨rfl, hz0⟩
    all_goals
      obtain ⟨a0, a1, a2⟩ := hS.cells
      go_enter Tryz.func18, Tryz.ntmps18
      go_wp2_with fail
      clear a0 a1 a2
      refine (unhide HW _).mono ?_
      rintro e w1 ⟨c, rfl, HC, hb⟩
      replace hS := hS.next hb
      have A := Has3.start w1 (.bool d1) (.string ⟨d2.toArray⟩) (.int .i64 0) 23
      replace hS := hS.next ((Below.refl _ _).alloc (Nat.le_refl _) (.cells #[.bool d1, .string ⟨d2.toArray⟩, .int .i64 0] 23))
      obtain ⟨a0, a1, a2⟩ := hS.cells
      obtain ⟨⟨o0, o1, o2⟩, p0, p1, p2⟩ := hS.out
      obtain ⟨_, b0, b1, b2⟩ := id A
      skip
      go_wp2_with fail
      exact bodyPost_ret (v := .tuple #[.agg #[.bool d1, .string ⟨d2.toArray⟩, .int .i64 0], .int .i64 0]) (by simp [results, Tryz.results18, go_sem, o0, o1, o2]) rfl ⟨rfl, hS.end _ _ _⟩
  | true =>
    rw [show true.toNat = 1 from rfl] at hf2
    have ff := far_fix sd hf2
    have HA := hide (fun W => apart_c d1 d2 x f1 f2 W md (hide ff))
    clear hf hf2 fd sd ff
    have hcs : x = true ∧ (0 : Int) < (z : Int) := by
      simp at hfar
      exact ⟨hfar.2, by omega⟩
    obtain ⟨rfl, hz0⟩ := hcs
    all_goals
      obtain ⟨a0, a1, a2⟩ := hS.cells
      go_enter Tryz.func18, Tryz.ntmps18
      go_wp2_with fail
      clear a0 a1 a2
      refine (unhide HW _).mono ?_
      rintro e w1 ⟨c, rfl, HC, hb⟩
      replace hS := hS.next hb
      have A := Has3.start w1 (.bool d1) (.string ⟨d2.toArray⟩) (.int .i64 0) 23
      replace hS := hS.next ((Below.refl _ _).alloc (Nat.le_refl _) (.cells #[.bool d1, .string ⟨d2.toArray⟩, .int .i64 0] 23))
      obtain ⟨a0, a1, a2⟩ := hS.cells
      obtain ⟨_, b0, b1, b2⟩ := id A
      skip
      go_wp2_with fail
      clear a0 a1 a2 b0 b1 b2
      refine (unhide HA _).mono ?_
      rintro e w2 ⟨rfl, hb2⟩
      replace hS := hS.next hb2
      obtain ⟨⟨o0, o1, o2⟩, p0, p1, p2⟩ := hS.out
      go_wp2_with fail
      exact bodyPost_ret (v := .tuple #[.agg #[.bool f1, .string ⟨f2.toArray⟩, .int .i64 0], .int .i64 0]) (by simp [results, Tryz.results18, go_sem, o0, o1, o2]) rfl ⟨rfl, hS.end _ _ _⟩
set_option maxRecDepth 100000 in
set_option maxHeartbeats 2000000 in
theorem qceil_c (x : Bool) (y : List UInt8) (z : Nat) (f1 : Bool) (f2 : List UInt8) (w : World) (h : Dm.May ⟨x, y, z⟩) (hf : Hid (∀ r, Dm.Rep (Dm.sgn x (Dm.num y / 10 ^ z + (decide (0 < z) && !x).toNat)) 0 r → r = some ⟨f1, f2, 0⟩)) :
    Calls Tryz.prog 20 #[.agg #[.bool x, .string ⟨y.toArray⟩, .int .i64 (z : Int)]] w fun e w' => e = .returned (.tuple #[.agg #[.bool f1, .string ⟨f2.toArray⟩, .int .i64 0], .int .i64 0]) ∧ Below w.heap.size w w' := by
  have hS := Pair3.start w (.bool x) (.string ⟨y.toArray⟩) (.int .i64 (z : Int)) 23
  have w0 := Dm.whole_lt h 0 (by decide) (.inr rfl)
  simp only [Nat.add_zero] at w0
  obtain ⟨d1, d2, md, sd, fd⟩ := Dm.rep_ex (ng := x) w0
  have HW := hide (fun W => qwhole_b x y z d1 d2 W h (hide fd))
  obtain ⟨far, hfar⟩ : ∃ far, (decide (0 < z) && !x) = far := ⟨_, rfl⟩
  have hf2 := unhide hf
  rw [hfar] at hf2
  have HD := hide md
  skip
  cases far with
  | false =>
    rw [Bool.toNat_false, Nat.add_zero] at hf2
    have e := hf2 _ (Dm.Rep.of_eqv md (by rw [sd]))
    injection e with e
    injection e with e1 e2
    subst e1 e2
    clear hf hf2 fd sd
    have hcs : (x = true) ∨ (x = false ∧ ¬ (0 : Int) < (z : Int)) := by
      cases x with
      | true => exact .inl rfl
      | false => exact .inr ⟨rfl, by simp at hfar; omega⟩
    rcases hcs with rfl | ⟨rfl, hz0⟩
    all_goals
      obtain ⟨a0, a1, a2⟩ := hS.cells
      go_enter Tryz.func20, Tryz.ntmps20
      go_wp2_with fail
      clear a0 a1 a2
      refine (unhide HW _).mono ?_
      rintro e w1 ⟨c, rfl, HC, hb⟩
      replace hS := hS.next hb
      have A := Has3.start w1 (.bool d1) (.string ⟨d2.toArray⟩) (.int .i64 0) 23
      replace hS := hS.next ((Below.refl _ _).alloc (Nat.le_refl _) (.cells #[.bool d1, .string ⟨d2.toArray⟩, .int .i64 0] 23))
      obtain ⟨a0, a1, a2⟩ := hS.cells
      obtain ⟨⟨o0, o1, o2⟩, p0, p1, p2⟩ := hS.out
      obtain ⟨_, b0, b1, b2⟩ := id A
      skip
      go_wp2_with fail
      exact bodyPost_ret (v := .tuple #[.agg #[.bool d1, .string ⟨d2.toArray⟩, .int .i64 0], .int .i64 0]) (by simp [results, Tryz.results20, go_sem, o0, o1, o2]) rfl ⟨rfl, hS.end _ _ _⟩
  | true =>
    rw [show true.toNat = 1 from rfl] at hf2
    have ff := far_fix sd hf2
    have HA := hide (fun W => apart_c d1 d2 x f1 f2 W md (hide ff))
    clear hf hf2 fd sd ff
    have hcs : x = false ∧ (0 : Int) < (z : Int) := by
      simp at hfar
      exact ⟨hfar.2, by omega⟩
    obtain ⟨rfl, hz0⟩ := hcs
    all_goals
      obtain ⟨a0, a1, a2⟩ := hS.cells
      go_enter Tryz.func20, Tryz.ntmps20
      go_wp2_with fail
      clear a0 a1 a2
      refine (unhide HW _).mono ?_
      rintro e w1 ⟨c, rfl, HC, hb⟩
      replace hS := hS.next hb
      have A := Has3.start w1 (.bool d1) (.string ⟨d2.toArray⟩) (.int .i64 0) 23
      replace hS := hS.next ((Below.refl _ _).alloc (Nat.le_refl _) (.cells #[.bool d1, .string ⟨d2.toArray⟩, .int .i64 0] 23))
      obtain ⟨a0, a1, a2⟩ := hS.cells
      obtain ⟨_, b0, b1, b2⟩ := id A
      skip
      go_wp2_with fail
      clear a0 a1 a2 b0 b1 b2
      refine (unhide HA _).mono ?_
      rintro e w2 ⟨rfl, hb2⟩
      replace hS := hS.next hb2
      obtain ⟨⟨o0, o1, o2⟩, p0, p1, p2⟩ := hS.out
      go_wp2_with fail
      exact bodyPost_ret (v := .tuple #[.agg #[.bool f1, .string ⟨f2.toArray⟩, .int .i64 0], .int .i64 0]) (by simp [results, Tryz.results20, go_sem, o0, o1, o2]) rfl ⟨rfl, hS.end _ _ _⟩
set_option maxRecDepth 100000 in
set_option maxHeartbeats 2000000 in
theorem qround_c (x : Bool) (y : List UInt8) (z : Nat) (f1 : Bool) (f2 : List UInt8) (w : World) (h : Dm.May ⟨x, y, z⟩) (hf : Hid (∀ r, Dm.Rep (Dm.sgn x (Dm.num y / 10 ^ z + (decide (0 < z) && (decide (z ≤ y.length) && decide (53 ≤ (y.getD (y.length - z) 0).toNat))).toNat)) 0 r → r = some ⟨f1, f2, 0⟩)) :
    Calls Tryz.prog 22 #[.agg #[.bool x, .string ⟨y.toArray⟩, .int .i64 (z : Int)]] w fun e w' => e = .returned (.tuple #[.agg #[.bool f1, .string ⟨f2.toArray⟩, .int .i64 0], .int .i64 0]) ∧ Below w.heap.size w w' := by
  have hS := Pair3.start w (.bool x) (.string ⟨y.toArray⟩) (.int .i64 (z : Int)) 23
  have w0 := Dm.whole_lt h 0 (by decide) (.inr rfl)
  simp only [Nat.add_zero] at w0
  obtain ⟨d1, d2, md, sd, fd⟩ := Dm.rep_ex (ng := x) w0
  have HW := hide (fun W => qwhole_b x y z d1 d2 W h (hide fd))
  obtain ⟨far, hfar⟩ : ∃ far, (decide (0 < z) && (decide (z ≤ y.length) && decide (53 ≤ (y.getD (y.length - z) 0).toNat))) = far := ⟨_, rfl⟩
  have hf2 := unhide hf
  rw [hfar] at hf2
  have HD := hide md
  skip
  cases far with
  | false =>
    rw [Bool.toNat_false, Nat.add_zero] at hf2
    have e := hf2 _ (Dm.Rep.of_eqv md (by rw [sd]))
    injection e with e
    injection e with e1 e2
    subst e1 e2
    clear hf hf2 fd sd
    all_goals
      obtain ⟨a0, a1, a2⟩ := hS.cells
      go_enter Tryz.func22, Tryz.ntmps22
      go_wp2_with fail
      clear a0 a1 a2
      refine (unhide HW _).mono ?_
      rintro e w1 ⟨c, rfl, HC, hb⟩
      replace hS := hS.next hb
      have A := Has3.start w1 (.bool d1) (.string ⟨d2.toArray⟩) (.int .i64 0) 23
      replace hS := hS.next ((Below.refl _ _).alloc (Nat.le_refl _) (.cells #[.bool d1, .string ⟨d2.toArray⟩, .int .i64 0] 23))
      obtain ⟨a0, a1, a2⟩ := hS.cells
      obtain ⟨⟨o0, o1, o2⟩, p0, p1, p2⟩ := hS.out
      obtain ⟨_, b0, b1, b2⟩ := id A
      have hc53 : ¬ (53 : Int) ≤ (c.toNat : Int) := by
        have e := unhide HC
        rw [hfar] at e
        have := of_decide_eq_false e
        omega
      go_wp2_with fail
      exact bodyPost_ret (v := .tuple #[.agg #[.bool d1, .string ⟨d2.toArray⟩, .int .i64 0], .int .i64 0]) (by simp [results, Tryz.results22, go_sem, o0, o1, o2]) rfl ⟨rfl, hS.end _ _ _⟩
  | true =>
    rw [show true.toNat = 1 from rfl] at hf2
    have ff := far_fix sd hf2
    have HA := hide (fun W => apart_c d1 d2 x f1 f2 W md (hide ff))
    clear hf hf2 fd sd ff
    all_goals
      obtain ⟨a0, a1, a2⟩ := hS.cells
      go_enter Tryz.func22, Tryz.ntmps22
      go_wp2_with fail
      clear a0 a1 a2
      refine (unhide HW _).mono ?_
      rintro e w1 ⟨c, rfl, HC, hb⟩
      replace hS := hS.next hb
      have A := Has3.start w1 (.bool d1) (.string ⟨d2.toArray⟩) (.int .i64 0) 23
      replace hS := hS.next ((Below.refl _ _).alloc (Nat.le_refl _) (.cells #[.bool d1, .string ⟨d2.toArray⟩, .int .i64 0] 23))
      obtain ⟨a0, a1, a2⟩ := hS.cells
      obtain ⟨_, b0, b1, b2⟩ := id A
      have hc53 : (53 : Int) ≤ (c.toNat : Int) := by
        have e := unhide HC
        rw [hfar] at e
        have := of_decide_eq_true e
        omega
      go_wp2_with fail
      clear a0 a1 a2 b0 b1 b2
      refine (unhide HA _).mono ?_
      rintro e w2 ⟨rfl, hb2⟩
      replace hS := hS.next hb2
      obtain ⟨⟨o0, o1, o2⟩, p0, p1, p2⟩ := hS.out
      go_wp2_with fail
      exact bodyPost_ret (v := .tuple #[.agg #[.bool f1, .string ⟨f2.toArray⟩, .int .i64 0], .int .i64 0]) (by simp [results, Tryz.results22, go_sem, o0, o1, o2]) rfl ⟨rfl, hS.end _ _ _⟩
set_option maxRecDepth 100000 in
set_option maxHeartbeats 2000000 in
theorem pow_out (x : Bool) (y : ByteArray) (z n : Int) (w : World) (hn : n < 0 ∨ (¬ n < 0 ∧ 99 < n)) :
    Calls Tryz.prog 23 #[.agg #[.bool x, .string y, .int .i64 z], .int .i64 n] w fun e w' => e = .returned (.tuple #[.agg #[.bool false, .string ⟨#[]⟩, .int .i64 0], .int .i64 1]) ∧ Below w.heap.size w w' := by
  have hS := Pair3.start w (.bool x) (.string y) (.int .i64 z) 23
  rcases hn with hn | ⟨hn1, hn2⟩
  all_goals
    go_enter Tryz.func23, Tryz.ntmps23
    go_upto_region 1 with fail
    generalize (w.alloc (.cells #[.bool x, .string y, .int .i64 z] 23)).alloc (.cells #[.bool false, .string ⟨#[]⟩, .int .i64 0] 23) = v at *
    obtain ⟨⟨o0, o1, o2⟩, f0, f1, f2⟩ := hS.out
    go_wp2
    exact bodyPost_ret (v := .tuple #[.agg #[.bool false, .string ⟨#[]⟩, .int .i64 0], .int .i64 1]) (by simp [results, Tryz.results23, go_sem, o0, o1, o2]) rfl ⟨rfl, hS.end _ _ _⟩
set_option maxRecDepth 100000 in
set_option maxHeartbeats 2000000 in
theorem qpow_out (x : Bool) (y : ByteArray) (z n : Int) (w : World) (hn : n < 0 ∨ (¬ n < 0 ∧ 99 < n)) :
    Calls Tryz.prog 24 #[.agg #[.bool x, .string y, .int .i64 z], .int .i64 n] w fun e w' => e = .returned (.tuple #[.agg #[.bool false, .string ⟨#[]⟩, .int .i64 0], .int .i64 1]) ∧ Below w.heap.size w w' := by
  have hS := Pair3.start w (.bool x) (.string y) (.int .i64 z) 23
  rcases hn with hn | ⟨hn1, hn2⟩
  all_goals
    go_enter Tryz.func24, Tryz.ntmps24
    go_upto_region 1 with fail
    generalize (w.alloc (.cells #[.bool x, .string y, .int .i64 z] 23)).alloc (.cells #[.bool false, .string ⟨#[]⟩, .int .i64 0] 23) = v at *
    obtain ⟨⟨o0, o1, o2⟩, f0, f1, f2⟩ := hS.out
    go_wp2
    exact bodyPost_ret (v := .tuple #[.agg #[.bool false, .string ⟨#[]⟩, .int .i64 0], .int .i64 1]) (by simp [results, Tryz.results24, go_sem, o0, o1, o2]) rfl ⟨rfl, hS.end _ _ _⟩
set_option maxRecDepth 100000 in
set_option maxHeartbeats 2000000 in
theorem qpow_r (x : Bool) (y : List UInt8) (z n : Nat) (w : World) (h : Dm.May ⟨x, y, z⟩) (hn : n ≤ 99) :
    Calls Tryz.prog 24 #[.agg #[.bool x, .string ⟨y.toArray⟩, .int .i64 (z : Int)], .int .i64 (n : Int)] w fun e w' => ∃ r, e = .returned (.tuple #[.agg #[.bool (rx r), .string (ry r), .int .i64 (rz r)], .int .i64 (re r)]) ∧ PowR ⟨x, y, z⟩ n r ∧ Below w.heap.size w w' := by
  have hS := Pair3.start w (.bool x) (.string ⟨y.toArray⟩) (.int .i64 (z : Int)) 23
  have g1 : ¬ (n : Int) < 0 := by omega
  have g2 : ¬ (99 : Int) < (n : Int) := by omega
  have hU := Own3.start ((w.alloc (.cells #[.bool x, .string ⟨y.toArray⟩, .int .i64 (z : Int)] 23)).alloc (.cells #[.bool false, .string ⟨#[]⟩, .int .i64 0] 23)) (.bool false) (.string ⟨#[49]⟩) (.int .i64 0) 23
  have hsz : ((w.alloc (.cells #[.bool x, .string ⟨y.toArray⟩, .int .i64 (z : Int)] 23)).alloc (.cells #[.bool false, .string ⟨#[]⟩, .int .i64 0] 23)).heap.size = w.heap.size + 1 + 1 := by simp
  rw [hsz] at hU
  replace hS := hS.next ((Below.refl _ _).alloc (Nat.le_refl _) (.cells #[.bool false, .string ⟨#[49]⟩, .int .i64 0] 23))
  clear hsz
  go_enter Tryz.func24, Tryz.ntmps24
  go_wp2_with fail
  go_loopw [7] (fun i wr => ∃ (k : Nat) (p : Dm.D), i = .int .i64 (k : Int) ∧ k ≤ n ∧ PowR ⟨x, y, z⟩ k (some p) ∧ PwInv w (w.heap.size + 1 + 1) (.bool x) (.string ⟨y.toArray⟩) (.int .i64 (z : Int)) p wr) (fun i _ => n + 1 - (intOf i).toNat)
  case atStart => exact ⟨0, ⟨false, [49], 0⟩, rfl, by omega, rfl, hS, by omega, hU⟩
  case round =>
    clear hS hU
    obtain ⟨k, ⟨p1, p2, p3⟩, rfl, hk, hR, hI⟩ := hrel
    have hm := hR.may
    obtain ⟨⟨⟨hB0, _, a0, a1, a2⟩, ⟨_, o0, o1, o2⟩, f0, f1, f2⟩, _, ⟨_, x0, x1, x2⟩, e0, e1, e2⟩ := id hI
    simp only at x0 x1 x2 e0 e1 e2
    by_cases hlt : k < n
    · go_wp2_with fail
      refine (rmul_b p1 p2 p3 x y z _ hm h).mono ?_
      rintro e w3 ⟨r, rfl, HR, hb3⟩
      replace hI := hI.next hb3
      clear hb3 hB0 a0 a1 a2 o0 o1 o2 f0 f1 f2 x0 x1 x2 e0 e1 e2
      cases r with
      | none =>
        simp only [rx, ry, rz, re]
        replace hI := hI.next ((Below.refl _ _).alloc (Nat.le_refl _) (.cells #[.bool false, .string ⟨#[]⟩, .int .i64 0] 23))
        obtain ⟨⟨⟨hB0, _, a0, a1, a2⟩, ⟨_, o0, o1, o2⟩, f0, f1, f2⟩, _, ⟨_, x0, x1, x2⟩, e0, e1, e2⟩ := id hI
        go_wp2
        exact bodyPost_ret (v := tV none) (by simp [results, Tryz.results24, go_sem, o0, o1, o2, tV, rx, ry, rz, re]) rfl ⟨none, rfl, hR.stop (unhide HR) hlt, hI.1.end _ _ _⟩
      | some q =>
        obtain ⟨q1, q2, q3⟩ := q
        simp only [rx, ry, rz, re]
        have hQ := Has3.start w3 (.bool q1) (.string ⟨q2.toArray⟩) (.int .i64 (q3 : Int)) 23
        replace hI := hI.next ((Below.refl _ _).alloc (Nat.le_refl _) (.cells #[.bool q1, .string ⟨q2.toArray⟩, .int .i64 (q3 : Int)] 23))
        obtain ⟨⟨⟨hB0, _, a0, a1, a2⟩, ⟨_, o0, o1, o2⟩, f0, f1, f2⟩, _, ⟨_, x0, x1, x2⟩, e0, e1, e2⟩ := id hI
        simp only at x0 x1 x2 e0 e1 e2
        go_wp2
        go_round
        case rel => exact ⟨k + 1, ⟨q1, q2, q3⟩, by go_num, by omega, hR.step (unhide HR), hI.store⟩
        case measure => simp [intOf]; omega
    · obtain rfl : k = n := by omega
      go_wp2
      exact bodyPost_ret (v := tV (some ⟨p1, p2, p3⟩)) (by simp [results, Tryz.results24, go_sem, o0, o1, o2, tV, rx, ry, rz, re]) rfl ⟨some ⟨p1, p2, p3⟩, rfl, hR, hI.1.end _ _ _⟩
end Go.Proofs.YtmlmplmghlbdmaaGreatDoor

namespace Go.Proofs.YtmlmplmghlbdmaaGreatDoor
open Go.RowKit
set_option linter.unusedVariables false
set_option linter.unusedSimpArgs false

theorem pow_h (x : Bool) (y : List UInt8) (z n : Nat) (w : World) (h : Dm.May ⟨x, y, z⟩) (hn : n ≤ 99) (htab : Pow w) :
    Calls Tryz.prog 23 #[.agg #[.bool x, .string ⟨y.toArray⟩, .int .i64 (z : Int)], .int .i64 (n : Int)] w fun e w' => ∃ r, e = .returned (.tuple #[.agg #[.bool (rx r), .string (ry r), .int .i64 (rz r)], .int .i64 (re r)]) ∧ Hid (PowR ⟨x, y, z⟩ n r) ∧ Below w.heap.size w w' := by
  refine (pow_r x y z n w h hn htab).mono ?_
  rintro e w' ⟨r, rfl, hr, hB⟩
  exact ⟨r, rfl, hide hr, hB⟩
theorem qpow_h (x : Bool) (y : List UInt8) (z n : Nat) (w : World) (h : Dm.May ⟨x, y, z⟩) (hn : n ≤ 99) :
    Calls Tryz.prog 24 #[.agg #[.bool x, .string ⟨y.toArray⟩, .int .i64 (z : Int)], .int .i64 (n : Int)] w fun e w' => ∃ r, e = .returned (.tuple #[.agg #[.bool (rx r), .string (ry r), .int .i64 (rz r)], .int .i64 (re r)]) ∧ Hid (PowR ⟨x, y, z⟩ n r) ∧ Below w.heap.size w w' := by
  refine (qpow_r x y z n w h hn).mono ?_
  rintro e w' ⟨r, rfl, hr, hB⟩
  exact ⟨r, rfl, hide hr, hB⟩

set_option maxRecDepth 100000 in
set_option maxHeartbeats 2000000 in
theorem wholes_no (ng : Bool) (t : ByteArray) (z n : Int) (w : World) (ht : t.size ≤ maxLen) (hm : Dm.mayB ng t.data.toList z = false) (htab : Pow w) :
    Calls Tryz.prog 4 #[.agg #[.bool ng, .string t, .int .i64 z], .int .i64 n] w fun e w' => e = .returned (.bool true) ∧ Below w.heap.size w w' := by
  have hS := Box3.start w (.bool ng) (.string t) (.int .i64 z) 23
  have HM := hide hm
  clear hm
  go_enter Tryz.func4, Tryz.ntmps4
  obtain ⟨_, _, a0, a1, a2⟩ := id hS
  go_wp2_with fail
  clear a0 a1 a2
  refine (shown2 _ (htab.next hS.1)).mono ?_
  rintro e w1 ⟨rfl, hb1⟩
  replace hS := hS.next hb1
  clear hb1
  obtain ⟨_, _, a0, a1, a2⟩ := id hS
  go_wp2_with fail
  clear a0 a1 a2
  refine (rmay_b ng t z false _ ht (unhide HM)).mono ?_
  rintro e w2 ⟨rfl, hb2⟩
  replace hS := hS.next hb2
  clear hb2
  obtain ⟨_, _, a0, a1, a2⟩ := id hS
  go_wp2
  go_ret
  exact ⟨rfl, hS.1⟩
set_option maxRecDepth 100000 in
set_option maxHeartbeats 8000000 in
theorem wholes_in (x : Bool) (l : List UInt8) (z : Nat) (b f1 c1 g1 : Bool) (f2 c2 g2 : List UInt8) (n : Nat) (w : World) (h : Dm.May ⟨x, l, z⟩) (hn : n ≤ 99)
    (HF : Hid (∀ r, Dm.Rep (Dm.sgn x (Dm.num l / 10 ^ z + (decide (0 < z) && x).toNat)) 0 r → r = some ⟨f1, f2, 0⟩))
    (HC : Hid (∀ r, Dm.Rep (Dm.sgn x (Dm.num l / 10 ^ z + (decide (0 < z) && !x).toNat)) 0 r → r = some ⟨c1, c2, 0⟩))
    (HB : Hid ((decide (0 < z) && (decide (z ≤ l.length) && decide (53 ≤ (l.getD (l.length - z) 0).toNat))) = b))
    (HR : Hid (∀ r, Dm.Rep (Dm.sgn x (Dm.num l / 10 ^ z + b.toNat)) 0 r → r = some ⟨g1, g2, 0⟩))
    (HQ : Hid (∀ r, Dm.Rep (Dm.sgn x (Dm.num l / 10 ^ z + (decide (0 < z) && (decide (z ≤ l.length) && decide (53 ≤ (l.getD (l.length - z) 0).toNat))).toNat)) 0 r → r = some ⟨g1, g2, 0⟩))
    (htab : Pow w) :
    Calls Tryz.prog 4 #[.agg #[.bool x, .string ⟨l.toArray⟩, .int .i64 (z : Int)], .int .i64 (n : Int)] w fun e w' => e = .returned (.bool true) ∧ Below w.heap.size w w' := by
  have hS := Box3.start w (.bool x) (.string ⟨l.toArray⟩) (.int .i64 (z : Int)) 23
  have hs : (⟨l.toArray⟩ : ByteArray).size ≤ maxLen := by rw [mk_size]; have := (may_len h).2.1; simp only at this; unfold maxLen; omega
  have HM := hide (dV_may h)
  go_enter Tryz.func4, Tryz.ntmps4
  obtain ⟨_, _, a0, a1, a2⟩ := id hS
  go_wp2_with fail
  clear a0 a1 a2
  refine (shown2 _ (htab.next hS.1)).mono ?_
  rintro e w1 ⟨rfl, hb1⟩
  replace hS := hS.next hb1
  clear hb1
  obtain ⟨_, _, a0, a1, a2⟩ := id hS
  go_wp2_with fail
  clear a0 a1 a2
  refine (rmay_b x ⟨l.toArray⟩ (z : Int) true _ hs (unhide HM)).mono ?_
  rintro e w2 ⟨rfl, hb2⟩
  replace hS := hS.next hb2
  clear hb2
  obtain ⟨_, _, a0, a1, a2⟩ := id hS
  go_wp2_with fail
  clear a0 a1 a2
  refine (floor_c x l z f1 f2 _ h HF (htab.next hS.1)).mono ?_
  rintro e w3 ⟨rfl, hb3⟩
  replace hS := hS.next hb3
  clear hb3
  replace hS := hS.next ((Below.refl _ _).alloc (Nat.le_refl _) (.cells #[.bool f1, .string ⟨f2.toArray⟩, .int .i64 0] 23))
  have XA := Has3.start w3 (.bool f1) (.string ⟨f2.toArray⟩) (.int .i64 0) 23
  obtain ⟨_, _, a0, a1, a2⟩ := id hS
  obtain ⟨_, XA0, XA1, XA2⟩ := id XA
  go_wp2_with fail
  clear a0 a1 a2
  clear XA0 XA1 XA2
  refine (qfloor_c x l z f1 f2 _ h HF).mono ?_
  rintro e w4 ⟨rfl, hb4⟩
  replace hS := hS.next hb4
  replace XA := XA.next hb4
  clear hb4
  replace hS := hS.next ((Below.refl _ _).alloc (Nat.le_refl _) (.cells #[.bool f1, .string ⟨f2.toArray⟩, .int .i64 0] 23))
  replace XA := XA.next ((Below.refl _ _).alloc (Nat.le_refl _) (.cells #[.bool f1, .string ⟨f2.toArray⟩, .int .i64 0] 23))
  have XB := Has3.start w4 (.bool f1) (.string ⟨f2.toArray⟩) (.int .i64 0) 23
  obtain ⟨_, _, a0, a1, a2⟩ := id hS
  obtain ⟨_, XA0, XA1, XA2⟩ := id XA
  obtain ⟨_, XB0, XB1, XB2⟩ := id XB
  go_wp2_with fail
  clear a0 a1 a2
  clear XA0 XA1 XA2
  clear XB0 XB1 XB2
  refine (ceil_c x l z c1 c2 _ h HC (htab.next hS.1)).mono ?_
  rintro e w5 ⟨rfl, hb5⟩
  replace hS := hS.next hb5
  replace XA := XA.next hb5
  replace XB := XB.next hb5
  clear hb5
  replace hS := hS.next ((Below.refl _ _).alloc (Nat.le_refl _) (.cells #[.bool c1, .string ⟨c2.toArray⟩, .int .i64 0] 23))
  replace XA := XA.next ((Below.refl _ _).alloc (Nat.le_refl _) (.cells #[.bool c1, .string ⟨c2.toArray⟩, .int .i64 0] 23))
  replace XB := XB.next ((Below.refl _ _).alloc (Nat.le_refl _) (.cells #[.bool c1, .string ⟨c2.toArray⟩, .int .i64 0] 23))
  have XC := Has3.start w5 (.bool c1) (.string ⟨c2.toArray⟩) (.int .i64 0) 23
  obtain ⟨_, _, a0, a1, a2⟩ := id hS
  obtain ⟨_, XA0, XA1, XA2⟩ := id XA
  obtain ⟨_, XB0, XB1, XB2⟩ := id XB
  obtain ⟨_, XC0, XC1, XC2⟩ := id XC
  go_wp2_with fail
  clear a0 a1 a2
  clear XA0 XA1 XA2
  clear XB0 XB1 XB2
  clear XC0 XC1 XC2
  refine (qceil_c x l z c1 c2 _ h HC).mono ?_
  rintro e w6 ⟨rfl, hb6⟩
  replace hS := hS.next hb6
  replace XA := XA.next hb6
  replace XB := XB.next hb6
  replace XC := XC.next hb6
  clear hb6
  replace hS := hS.next ((Below.refl _ _).alloc (Nat.le_refl _) (.cells #[.bool c1, .string ⟨c2.toArray⟩, .int .i64 0] 23))
  replace XA := XA.next ((Below.refl _ _).alloc (Nat.le_refl _) (.cells #[.bool c1, .string ⟨c2.toArray⟩, .int .i64 0] 23))
  replace XB := XB.next ((Below.refl _ _).alloc (Nat.le_refl _) (.cells #[.bool c1, .string ⟨c2.toArray⟩, .int .i64 0] 23))
  replace XC := XC.next ((Below.refl _ _).alloc (Nat.le_refl _) (.cells #[.bool c1, .string ⟨c2.toArray⟩, .int .i64 0] 23))
  have XD := Has3.start w6 (.bool c1) (.string ⟨c2.toArray⟩) (.int .i64 0) 23
  obtain ⟨_, _, a0, a1, a2⟩ := id hS
  obtain ⟨_, XA0, XA1, XA2⟩ := id XA
  obtain ⟨_, XB0, XB1, XB2⟩ := id XB
  obtain ⟨_, XC0, XC1, XC2⟩ := id XC
  obtain ⟨_, XD0, XD1, XD2⟩ := id XD
  go_wp2_with fail
  clear a0 a1 a2
  clear XA0 XA1 XA2
  clear XB0 XB1 XB2
  clear XC0 XC1 XC2
  clear XD0 XD1 XD2
  refine (round_c x l z b g1 g2 _ h HB HR (htab.next hS.1)).mono ?_
  rintro e w7 ⟨rfl, hb7⟩
  replace hS := hS.next hb7
  replace XA := XA.next hb7
  replace XB := XB.next hb7
  replace XC := XC.next hb7
  replace XD := XD.next hb7
  clear hb7
  replace hS := hS.next ((Below.refl _ _).alloc (Nat.le_refl _) (.cells #[.bool g1, .string ⟨g2.toArray⟩, .int .i64 0] 23))
  replace XA := XA.next ((Below.refl _ _).alloc (Nat.le_refl _) (.cells #[.bool g1, .string ⟨g2.toArray⟩, .int .i64 0] 23))
  replace XB := XB.next ((Below.refl _ _).alloc (Nat.le_refl _) (.cells #[.bool g1, .string ⟨g2.toArray⟩, .int .i64 0] 23))
  replace XC := XC.next ((Below.refl _ _).alloc (Nat.le_refl _) (.cells #[.bool g1, .string ⟨g2.toArray⟩, .int .i64 0] 23))
  replace XD := XD.next ((Below.refl _ _).alloc (Nat.le_refl _) (.cells #[.bool g1, .string ⟨g2.toArray⟩, .int .i64 0] 23))
  have XE := Has3.start w7 (.bool g1) (.string ⟨g2.toArray⟩) (.int .i64 0) 23
  obtain ⟨_, _, a0, a1, a2⟩ := id hS
  obtain ⟨_, XA0, XA1, XA2⟩ := id XA
  obtain ⟨_, XB0, XB1, XB2⟩ := id XB
  obtain ⟨_, XC0, XC1, XC2⟩ := id XC
  obtain ⟨_, XD0, XD1, XD2⟩ := id XD
  obtain ⟨_, XE0, XE1, XE2⟩ := id XE
  go_wp2_with fail
  clear a0 a1 a2
  clear XA0 XA1 XA2
  clear XB0 XB1 XB2
  clear XC0 XC1 XC2
  clear XD0 XD1 XD2
  clear XE0 XE1 XE2
  refine (qround_c x l z g1 g2 _ h HQ).mono ?_
  rintro e w8 ⟨rfl, hb8⟩
  replace hS := hS.next hb8
  replace XA := XA.next hb8
  replace XB := XB.next hb8
  replace XC := XC.next hb8
  replace XD := XD.next hb8
  replace XE := XE.next hb8
  clear hb8
  replace hS := hS.next ((Below.refl _ _).alloc (Nat.le_refl _) (.cells #[.bool g1, .string ⟨g2.toArray⟩, .int .i64 0] 23))
  replace XA := XA.next ((Below.refl _ _).alloc (Nat.le_refl _) (.cells #[.bool g1, .string ⟨g2.toArray⟩, .int .i64 0] 23))
  replace XB := XB.next ((Below.refl _ _).alloc (Nat.le_refl _) (.cells #[.bool g1, .string ⟨g2.toArray⟩, .int .i64 0] 23))
  replace XC := XC.next ((Below.refl _ _).alloc (Nat.le_refl _) (.cells #[.bool g1, .string ⟨g2.toArray⟩, .int .i64 0] 23))
  replace XD := XD.next ((Below.refl _ _).alloc (Nat.le_refl _) (.cells #[.bool g1, .string ⟨g2.toArray⟩, .int .i64 0] 23))
  replace XE := XE.next ((Below.refl _ _).alloc (Nat.le_refl _) (.cells #[.bool g1, .string ⟨g2.toArray⟩, .int .i64 0] 23))
  have XG := Has3.start w8 (.bool g1) (.string ⟨g2.toArray⟩) (.int .i64 0) 23
  obtain ⟨_, _, a0, a1, a2⟩ := id hS
  obtain ⟨_, XA0, XA1, XA2⟩ := id XA
  obtain ⟨_, XB0, XB1, XB2⟩ := id XB
  obtain ⟨_, XC0, XC1, XC2⟩ := id XC
  obtain ⟨_, XD0, XD1, XD2⟩ := id XD
  obtain ⟨_, XE0, XE1, XE2⟩ := id XE
  obtain ⟨_, XG0, XG1, XG2⟩ := id XG
  go_wp2_with fail
  clear a0 a1 a2
  clear XA0 XA1 XA2
  clear XB0 XB1 XB2
  clear XC0 XC1 XC2
  clear XD0 XD1 XD2
  clear XE0 XE1 XE2
  clear XG0 XG1 XG2
  refine (pow_h x l z n _ h hn (htab.next hS.1)).mono ?_
  rintro e w9 ⟨r, rfl, HP, hb9⟩
  replace hS := hS.next hb9
  replace XA := XA.next hb9
  replace XB := XB.next hb9
  replace XC := XC.next hb9
  replace XD := XD.next hb9
  replace XE := XE.next hb9
  replace XG := XG.next hb9
  clear hb9
  generalize hz0 : rx r = r_0
  have rZ0 := hide hz0
  clear hz0
  generalize hz1 : ry r = r_1
  have rZ1 := hide hz1
  clear hz1
  generalize hz2 : rz r = r_2
  have rZ2 := hide hz2
  clear hz2
  generalize hz3 : re r = r_3
  have rZ3 := hide hz3
  clear hz3
  replace hS := hS.next ((Below.refl _ _).alloc (Nat.le_refl _) (.cells #[.bool r_0, .string r_1, .int .i64 r_2] 23))
  replace XA := XA.next ((Below.refl _ _).alloc (Nat.le_refl _) (.cells #[.bool r_0, .string r_1, .int .i64 r_2] 23))
  replace XB := XB.next ((Below.refl _ _).alloc (Nat.le_refl _) (.cells #[.bool r_0, .string r_1, .int .i64 r_2] 23))
  replace XC := XC.next ((Below.refl _ _).alloc (Nat.le_refl _) (.cells #[.bool r_0, .string r_1, .int .i64 r_2] 23))
  replace XD := XD.next ((Below.refl _ _).alloc (Nat.le_refl _) (.cells #[.bool r_0, .string r_1, .int .i64 r_2] 23))
  replace XE := XE.next ((Below.refl _ _).alloc (Nat.le_refl _) (.cells #[.bool r_0, .string r_1, .int .i64 r_2] 23))
  replace XG := XG.next ((Below.refl _ _).alloc (Nat.le_refl _) (.cells #[.bool r_0, .string r_1, .int .i64 r_2] 23))
  have XH := Has3.start w9 (.bool r_0) (.string r_1) (.int .i64 r_2) 23
  obtain ⟨_, _, a0, a1, a2⟩ := id hS
  obtain ⟨_, XA0, XA1, XA2⟩ := id XA
  obtain ⟨_, XB0, XB1, XB2⟩ := id XB
  obtain ⟨_, XC0, XC1, XC2⟩ := id XC
  obtain ⟨_, XD0, XD1, XD2⟩ := id XD
  obtain ⟨_, XE0, XE1, XE2⟩ := id XE
  obtain ⟨_, XG0, XG1, XG2⟩ := id XG
  obtain ⟨_, XH0, XH1, XH2⟩ := id XH
  go_wp2_with fail
  clear a0 a1 a2
  clear XA0 XA1 XA2
  clear XB0 XB1 XB2
  clear XC0 XC1 XC2
  clear XD0 XD1 XD2
  clear XE0 XE1 XE2
  clear XG0 XG1 XG2
  clear XH0 XH1 XH2
  refine (qpow_h x l z n _ h hn).mono ?_
  rintro e w10 ⟨q, rfl, HP2, hb10⟩
  replace hS := hS.next hb10
  replace XA := XA.next hb10
  replace XB := XB.next hb10
  replace XC := XC.next hb10
  replace XD := XD.next hb10
  replace XE := XE.next hb10
  replace XG := XG.next hb10
  replace XH := XH.next hb10
  clear hb10
  obtain rfl : q = r := (unhide HP2).uniq _ (unhide HP)
  rw [unhide rZ0, unhide rZ1, unhide rZ2, unhide rZ3]
  replace hS := hS.next ((Below.refl _ _).alloc (Nat.le_refl _) (.cells #[.bool r_0, .string r_1, .int .i64 r_2] 23))
  replace XA := XA.next ((Below.refl _ _).alloc (Nat.le_refl _) (.cells #[.bool r_0, .string r_1, .int .i64 r_2] 23))
  replace XB := XB.next ((Below.refl _ _).alloc (Nat.le_refl _) (.cells #[.bool r_0, .string r_1, .int .i64 r_2] 23))
  replace XC := XC.next ((Below.refl _ _).alloc (Nat.le_refl _) (.cells #[.bool r_0, .string r_1, .int .i64 r_2] 23))
  replace XD := XD.next ((Below.refl _ _).alloc (Nat.le_refl _) (.cells #[.bool r_0, .string r_1, .int .i64 r_2] 23))
  replace XE := XE.next ((Below.refl _ _).alloc (Nat.le_refl _) (.cells #[.bool r_0, .string r_1, .int .i64 r_2] 23))
  replace XG := XG.next ((Below.refl _ _).alloc (Nat.le_refl _) (.cells #[.bool r_0, .string r_1, .int .i64 r_2] 23))
  replace XH := XH.next ((Below.refl _ _).alloc (Nat.le_refl _) (.cells #[.bool r_0, .string r_1, .int .i64 r_2] 23))
  have XI := Has3.start w10 (.bool r_0) (.string r_1) (.int .i64 r_2) 23
  obtain ⟨_, _, a0, a1, a2⟩ := id hS
  obtain ⟨_, XA0, XA1, XA2⟩ := id XA
  obtain ⟨_, XB0, XB1, XB2⟩ := id XB
  obtain ⟨_, XC0, XC1, XC2⟩ := id XC
  obtain ⟨_, XD0, XD1, XD2⟩ := id XD
  obtain ⟨_, XE0, XE1, XE2⟩ := id XE
  obtain ⟨_, XG0, XG1, XG2⟩ := id XG
  obtain ⟨_, XH0, XH1, XH2⟩ := id XH
  obtain ⟨_, XI0, XI1, XI2⟩ := id XI
  go_wp2
  go_ret
  exact ⟨rfl, hS.1⟩
set_option maxRecDepth 100000 in
set_option maxHeartbeats 8000000 in
theorem wholes_out (x : Bool) (l : List UInt8) (z : Nat) (b f1 c1 g1 : Bool) (f2 c2 g2 : List UInt8) (n : Int) (w : World) (h : Dm.May ⟨x, l, z⟩) (hn : n < 0 ∨ (¬ n < 0 ∧ 99 < n))
    (HF : Hid (∀ r, Dm.Rep (Dm.sgn x (Dm.num l / 10 ^ z + (decide (0 < z) && x).toNat)) 0 r → r = some ⟨f1, f2, 0⟩))
    (HC : Hid (∀ r, Dm.Rep (Dm.sgn x (Dm.num l / 10 ^ z + (decide (0 < z) && !x).toNat)) 0 r → r = some ⟨c1, c2, 0⟩))
    (HB : Hid ((decide (0 < z) && (decide (z ≤ l.length) && decide (53 ≤ (l.getD (l.length - z) 0).toNat))) = b))
    (HR : Hid (∀ r, Dm.Rep (Dm.sgn x (Dm.num l / 10 ^ z + b.toNat)) 0 r → r = some ⟨g1, g2, 0⟩))
    (HQ : Hid (∀ r, Dm.Rep (Dm.sgn x (Dm.num l / 10 ^ z + (decide (0 < z) && (decide (z ≤ l.length) && decide (53 ≤ (l.getD (l.length - z) 0).toNat))).toNat)) 0 r → r = some ⟨g1, g2, 0⟩))
    (htab : Pow w) :
    Calls Tryz.prog 4 #[.agg #[.bool x, .string ⟨l.toArray⟩, .int .i64 (z : Int)], .int .i64 n] w fun e w' => e = .returned (.bool true) ∧ Below w.heap.size w w' := by
  have hS := Box3.start w (.bool x) (.string ⟨l.toArray⟩) (.int .i64 (z : Int)) 23
  have hs : (⟨l.toArray⟩ : ByteArray).size ≤ maxLen := by rw [mk_size]; have := (may_len h).2.1; simp only at this; unfold maxLen; omega
  have HM := hide (dV_may h)
  go_enter Tryz.func4, Tryz.ntmps4
  obtain ⟨_, _, a0, a1, a2⟩ := id hS
  go_wp2_with fail
  clear a0 a1 a2
  refine (shown2 _ (htab.next hS.1)).mono ?_
  rintro e w1 ⟨rfl, hb1⟩
  replace hS := hS.next hb1
  clear hb1
  obtain ⟨_, _, a0, a1, a2⟩ := id hS
  go_wp2_with fail
  clear a0 a1 a2
  refine (rmay_b x ⟨l.toArray⟩ (z : Int) true _ hs (unhide HM)).mono ?_
  rintro e w2 ⟨rfl, hb2⟩
  replace hS := hS.next hb2
  clear hb2
  obtain ⟨_, _, a0, a1, a2⟩ := id hS
  go_wp2_with fail
  clear a0 a1 a2
  refine (floor_c x l z f1 f2 _ h HF (htab.next hS.1)).mono ?_
  rintro e w3 ⟨rfl, hb3⟩
  replace hS := hS.next hb3
  clear hb3
  replace hS := hS.next ((Below.refl _ _).alloc (Nat.le_refl _) (.cells #[.bool f1, .string ⟨f2.toArray⟩, .int .i64 0] 23))
  have XA := Has3.start w3 (.bool f1) (.string ⟨f2.toArray⟩) (.int .i64 0) 23
  obtain ⟨_, _, a0, a1, a2⟩ := id hS
  obtain ⟨_, XA0, XA1, XA2⟩ := id XA
  go_wp2_with fail
  clear a0 a1 a2
  clear XA0 XA1 XA2
  refine (qfloor_c x l z f1 f2 _ h HF).mono ?_
  rintro e w4 ⟨rfl, hb4⟩
  replace hS := hS.next hb4
  replace XA := XA.next hb4
  clear hb4
  replace hS := hS.next ((Below.refl _ _).alloc (Nat.le_refl _) (.cells #[.bool f1, .string ⟨f2.toArray⟩, .int .i64 0] 23))
  replace XA := XA.next ((Below.refl _ _).alloc (Nat.le_refl _) (.cells #[.bool f1, .string ⟨f2.toArray⟩, .int .i64 0] 23))
  have XB := Has3.start w4 (.bool f1) (.string ⟨f2.toArray⟩) (.int .i64 0) 23
  obtain ⟨_, _, a0, a1, a2⟩ := id hS
  obtain ⟨_, XA0, XA1, XA2⟩ := id XA
  obtain ⟨_, XB0, XB1, XB2⟩ := id XB
  go_wp2_with fail
  clear a0 a1 a2
  clear XA0 XA1 XA2
  clear XB0 XB1 XB2
  refine (ceil_c x l z c1 c2 _ h HC (htab.next hS.1)).mono ?_
  rintro e w5 ⟨rfl, hb5⟩
  replace hS := hS.next hb5
  replace XA := XA.next hb5
  replace XB := XB.next hb5
  clear hb5
  replace hS := hS.next ((Below.refl _ _).alloc (Nat.le_refl _) (.cells #[.bool c1, .string ⟨c2.toArray⟩, .int .i64 0] 23))
  replace XA := XA.next ((Below.refl _ _).alloc (Nat.le_refl _) (.cells #[.bool c1, .string ⟨c2.toArray⟩, .int .i64 0] 23))
  replace XB := XB.next ((Below.refl _ _).alloc (Nat.le_refl _) (.cells #[.bool c1, .string ⟨c2.toArray⟩, .int .i64 0] 23))
  have XC := Has3.start w5 (.bool c1) (.string ⟨c2.toArray⟩) (.int .i64 0) 23
  obtain ⟨_, _, a0, a1, a2⟩ := id hS
  obtain ⟨_, XA0, XA1, XA2⟩ := id XA
  obtain ⟨_, XB0, XB1, XB2⟩ := id XB
  obtain ⟨_, XC0, XC1, XC2⟩ := id XC
  go_wp2_with fail
  clear a0 a1 a2
  clear XA0 XA1 XA2
  clear XB0 XB1 XB2
  clear XC0 XC1 XC2
  refine (qceil_c x l z c1 c2 _ h HC).mono ?_
  rintro e w6 ⟨rfl, hb6⟩
  replace hS := hS.next hb6
  replace XA := XA.next hb6
  replace XB := XB.next hb6
  replace XC := XC.next hb6
  clear hb6
  replace hS := hS.next ((Below.refl _ _).alloc (Nat.le_refl _) (.cells #[.bool c1, .string ⟨c2.toArray⟩, .int .i64 0] 23))
  replace XA := XA.next ((Below.refl _ _).alloc (Nat.le_refl _) (.cells #[.bool c1, .string ⟨c2.toArray⟩, .int .i64 0] 23))
  replace XB := XB.next ((Below.refl _ _).alloc (Nat.le_refl _) (.cells #[.bool c1, .string ⟨c2.toArray⟩, .int .i64 0] 23))
  replace XC := XC.next ((Below.refl _ _).alloc (Nat.le_refl _) (.cells #[.bool c1, .string ⟨c2.toArray⟩, .int .i64 0] 23))
  have XD := Has3.start w6 (.bool c1) (.string ⟨c2.toArray⟩) (.int .i64 0) 23
  obtain ⟨_, _, a0, a1, a2⟩ := id hS
  obtain ⟨_, XA0, XA1, XA2⟩ := id XA
  obtain ⟨_, XB0, XB1, XB2⟩ := id XB
  obtain ⟨_, XC0, XC1, XC2⟩ := id XC
  obtain ⟨_, XD0, XD1, XD2⟩ := id XD
  go_wp2_with fail
  clear a0 a1 a2
  clear XA0 XA1 XA2
  clear XB0 XB1 XB2
  clear XC0 XC1 XC2
  clear XD0 XD1 XD2
  refine (round_c x l z b g1 g2 _ h HB HR (htab.next hS.1)).mono ?_
  rintro e w7 ⟨rfl, hb7⟩
  replace hS := hS.next hb7
  replace XA := XA.next hb7
  replace XB := XB.next hb7
  replace XC := XC.next hb7
  replace XD := XD.next hb7
  clear hb7
  replace hS := hS.next ((Below.refl _ _).alloc (Nat.le_refl _) (.cells #[.bool g1, .string ⟨g2.toArray⟩, .int .i64 0] 23))
  replace XA := XA.next ((Below.refl _ _).alloc (Nat.le_refl _) (.cells #[.bool g1, .string ⟨g2.toArray⟩, .int .i64 0] 23))
  replace XB := XB.next ((Below.refl _ _).alloc (Nat.le_refl _) (.cells #[.bool g1, .string ⟨g2.toArray⟩, .int .i64 0] 23))
  replace XC := XC.next ((Below.refl _ _).alloc (Nat.le_refl _) (.cells #[.bool g1, .string ⟨g2.toArray⟩, .int .i64 0] 23))
  replace XD := XD.next ((Below.refl _ _).alloc (Nat.le_refl _) (.cells #[.bool g1, .string ⟨g2.toArray⟩, .int .i64 0] 23))
  have XE := Has3.start w7 (.bool g1) (.string ⟨g2.toArray⟩) (.int .i64 0) 23
  obtain ⟨_, _, a0, a1, a2⟩ := id hS
  obtain ⟨_, XA0, XA1, XA2⟩ := id XA
  obtain ⟨_, XB0, XB1, XB2⟩ := id XB
  obtain ⟨_, XC0, XC1, XC2⟩ := id XC
  obtain ⟨_, XD0, XD1, XD2⟩ := id XD
  obtain ⟨_, XE0, XE1, XE2⟩ := id XE
  go_wp2_with fail
  clear a0 a1 a2
  clear XA0 XA1 XA2
  clear XB0 XB1 XB2
  clear XC0 XC1 XC2
  clear XD0 XD1 XD2
  clear XE0 XE1 XE2
  refine (qround_c x l z g1 g2 _ h HQ).mono ?_
  rintro e w8 ⟨rfl, hb8⟩
  replace hS := hS.next hb8
  replace XA := XA.next hb8
  replace XB := XB.next hb8
  replace XC := XC.next hb8
  replace XD := XD.next hb8
  replace XE := XE.next hb8
  clear hb8
  replace hS := hS.next ((Below.refl _ _).alloc (Nat.le_refl _) (.cells #[.bool g1, .string ⟨g2.toArray⟩, .int .i64 0] 23))
  replace XA := XA.next ((Below.refl _ _).alloc (Nat.le_refl _) (.cells #[.bool g1, .string ⟨g2.toArray⟩, .int .i64 0] 23))
  replace XB := XB.next ((Below.refl _ _).alloc (Nat.le_refl _) (.cells #[.bool g1, .string ⟨g2.toArray⟩, .int .i64 0] 23))
  replace XC := XC.next ((Below.refl _ _).alloc (Nat.le_refl _) (.cells #[.bool g1, .string ⟨g2.toArray⟩, .int .i64 0] 23))
  replace XD := XD.next ((Below.refl _ _).alloc (Nat.le_refl _) (.cells #[.bool g1, .string ⟨g2.toArray⟩, .int .i64 0] 23))
  replace XE := XE.next ((Below.refl _ _).alloc (Nat.le_refl _) (.cells #[.bool g1, .string ⟨g2.toArray⟩, .int .i64 0] 23))
  have XG := Has3.start w8 (.bool g1) (.string ⟨g2.toArray⟩) (.int .i64 0) 23
  obtain ⟨_, _, a0, a1, a2⟩ := id hS
  obtain ⟨_, XA0, XA1, XA2⟩ := id XA
  obtain ⟨_, XB0, XB1, XB2⟩ := id XB
  obtain ⟨_, XC0, XC1, XC2⟩ := id XC
  obtain ⟨_, XD0, XD1, XD2⟩ := id XD
  obtain ⟨_, XE0, XE1, XE2⟩ := id XE
  obtain ⟨_, XG0, XG1, XG2⟩ := id XG
  go_wp2_with fail
  clear a0 a1 a2
  clear XA0 XA1 XA2
  clear XB0 XB1 XB2
  clear XC0 XC1 XC2
  clear XD0 XD1 XD2
  clear XE0 XE1 XE2
  clear XG0 XG1 XG2
  refine (pow_out x ⟨l.toArray⟩ (z : Int) n _ (by omega)).mono ?_
  rintro e w9 ⟨rfl, hb9⟩
  replace hS := hS.next hb9
  replace XA := XA.next hb9
  replace XB := XB.next hb9
  replace XC := XC.next hb9
  replace XD := XD.next hb9
  replace XE := XE.next hb9
  replace XG := XG.next hb9
  clear hb9
  replace hS := hS.next ((Below.refl _ _).alloc (Nat.le_refl _) (.cells #[.bool false, .string ⟨#[]⟩, .int .i64 0] 23))
  replace XA := XA.next ((Below.refl _ _).alloc (Nat.le_refl _) (.cells #[.bool false, .string ⟨#[]⟩, .int .i64 0] 23))
  replace XB := XB.next ((Below.refl _ _).alloc (Nat.le_refl _) (.cells #[.bool false, .string ⟨#[]⟩, .int .i64 0] 23))
  replace XC := XC.next ((Below.refl _ _).alloc (Nat.le_refl _) (.cells #[.bool false, .string ⟨#[]⟩, .int .i64 0] 23))
  replace XD := XD.next ((Below.refl _ _).alloc (Nat.le_refl _) (.cells #[.bool false, .string ⟨#[]⟩, .int .i64 0] 23))
  replace XE := XE.next ((Below.refl _ _).alloc (Nat.le_refl _) (.cells #[.bool false, .string ⟨#[]⟩, .int .i64 0] 23))
  replace XG := XG.next ((Below.refl _ _).alloc (Nat.le_refl _) (.cells #[.bool false, .string ⟨#[]⟩, .int .i64 0] 23))
  have XH := Has3.start w9 (.bool false) (.string ⟨#[]⟩) (.int .i64 0) 23
  obtain ⟨_, _, a0, a1, a2⟩ := id hS
  obtain ⟨_, XA0, XA1, XA2⟩ := id XA
  obtain ⟨_, XB0, XB1, XB2⟩ := id XB
  obtain ⟨_, XC0, XC1, XC2⟩ := id XC
  obtain ⟨_, XD0, XD1, XD2⟩ := id XD
  obtain ⟨_, XE0, XE1, XE2⟩ := id XE
  obtain ⟨_, XG0, XG1, XG2⟩ := id XG
  obtain ⟨_, XH0, XH1, XH2⟩ := id XH
  go_wp2_with fail
  clear a0 a1 a2
  clear XA0 XA1 XA2
  clear XB0 XB1 XB2
  clear XC0 XC1 XC2
  clear XD0 XD1 XD2
  clear XE0 XE1 XE2
  clear XG0 XG1 XG2
  clear XH0 XH1 XH2
  refine (qpow_out x ⟨l.toArray⟩ (z : Int) n _ (by omega)).mono ?_
  rintro e w10 ⟨rfl, hb10⟩
  replace hS := hS.next hb10
  replace XA := XA.next hb10
  replace XB := XB.next hb10
  replace XC := XC.next hb10
  replace XD := XD.next hb10
  replace XE := XE.next hb10
  replace XG := XG.next hb10
  replace XH := XH.next hb10
  clear hb10
  replace hS := hS.next ((Below.refl _ _).alloc (Nat.le_refl _) (.cells #[.bool false, .string ⟨#[]⟩, .int .i64 0] 23))
  replace XA := XA.next ((Below.refl _ _).alloc (Nat.le_refl _) (.cells #[.bool false, .string ⟨#[]⟩, .int .i64 0] 23))
  replace XB := XB.next ((Below.refl _ _).alloc (Nat.le_refl _) (.cells #[.bool false, .string ⟨#[]⟩, .int .i64 0] 23))
  replace XC := XC.next ((Below.refl _ _).alloc (Nat.le_refl _) (.cells #[.bool false, .string ⟨#[]⟩, .int .i64 0] 23))
  replace XD := XD.next ((Below.refl _ _).alloc (Nat.le_refl _) (.cells #[.bool false, .string ⟨#[]⟩, .int .i64 0] 23))
  replace XE := XE.next ((Below.refl _ _).alloc (Nat.le_refl _) (.cells #[.bool false, .string ⟨#[]⟩, .int .i64 0] 23))
  replace XG := XG.next ((Below.refl _ _).alloc (Nat.le_refl _) (.cells #[.bool false, .string ⟨#[]⟩, .int .i64 0] 23))
  replace XH := XH.next ((Below.refl _ _).alloc (Nat.le_refl _) (.cells #[.bool false, .string ⟨#[]⟩, .int .i64 0] 23))
  have XI := Has3.start w10 (.bool false) (.string ⟨#[]⟩) (.int .i64 0) 23
  obtain ⟨_, _, a0, a1, a2⟩ := id hS
  obtain ⟨_, XA0, XA1, XA2⟩ := id XA
  obtain ⟨_, XB0, XB1, XB2⟩ := id XB
  obtain ⟨_, XC0, XC1, XC2⟩ := id XC
  obtain ⟨_, XD0, XD1, XD2⟩ := id XD
  obtain ⟨_, XE0, XE1, XE2⟩ := id XE
  obtain ⟨_, XG0, XG1, XG2⟩ := id XG
  obtain ⟨_, XH0, XH1, XH2⟩ := id XH
  obtain ⟨_, XI0, XI1, XI2⟩ := id XI
  go_wp2
  go_ret
  exact ⟨rfl, hS.1⟩
theorem wholes_walk (x : Bool) (t : ByteArray) (z n : Int) (w : World) (ht : t.size ≤ maxLen) (h0 : -9223372036854775808 ≤ n) (h1 : n ≤ 9223372036854775807) (htab : Pow w) :
    Calls Tryz.prog 4 #[.agg #[.bool x, .string t, .int .i64 z], .int .i64 n] w fun e w' => e = .returned (.bool true) ∧ Below w.heap.size w w' := by
  cases hm : Dm.mayB x t.data.toList z with
  | false => exact wholes_no x t z n w ht hm htab
  | true =>
    obtain ⟨l, j, rfl, rfl, h⟩ := may_split5 hm
    have bl : ∀ b : Bool, Dm.num l / 10 ^ j + (decide (0 < j) && b).toNat < 10 ^ 60 := by
      intro b
      refine Dm.whole_lt h _ (by cases (decide (0 < j) && b) <;> decide) ?_
      by_cases g : 0 < j
      · exact .inl g
      · right; rw [decide_eq_false g]; rfl
    obtain ⟨f1, f2, mf, sf, ff⟩ := Dm.rep_ex (ng := x) (bl x)
    obtain ⟨c1, c2, mc, sc, fc⟩ := Dm.rep_ex (ng := x) (bl (!x))
    obtain ⟨g1, g2, mg, sg, fg⟩ := Dm.rep_ex (ng := x) (bl (decide (j ≤ l.length) && decide (53 ≤ (l.getD (l.length - j) 0).toNat)))
    by_cases hn : n < 0 ∨ (¬ n < 0 ∧ 99 < n)
    · exact wholes_out x l j _ f1 c1 g1 f2 c2 g2 n w h hn (hide ff) (hide fc) (hide rfl) (hide fg) (hide fg) htab
    · obtain ⟨k, rfl⟩ := Int.eq_ofNat_of_zero_le (show 0 ≤ n by omega)
      exact wholes_in x l j _ f1 c1 g1 f2 c2 g2 k w h (by omega) (hide ff) (hide fc) (hide rfl) (hide fg) (hide fg) htab
end Go.Proofs.YtmlmplmghlbdmaaGreatDoor
