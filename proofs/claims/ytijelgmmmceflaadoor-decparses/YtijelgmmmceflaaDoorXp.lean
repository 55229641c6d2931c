/- What is proved here: what the law DecParses does with any text, any decimal and any number, walked; conditions: the table of powers of ten lies in the world. -/
import Derived.Test.YtijelgmmmceflaaDoorWp
import Derived.Test.YtijelgmmmceflaaDoorTb
import Derived.Test.YtijelgmmmceflaaDoorUc
import Derived.Test.YtijelgmmmceflaaDoorUj
import Derived.Test.YtijelgmmmceflaaDoorUk
import Derived.Test.YtijelgmmmceflaaDoorUl
import Derived.Test.YtijelgmmmceflaaDoorXh
namespace Go.Proofs.YtijelgmmmceflaaDoor
open Go.RowKit
set_option linter.unusedVariables false
set_option linter.unusedSimpArgs false

/-- The parts of what Parse hands back. -/
def qx : Option (Option Dm.D) → Bool | some r => rx r | none => false
def qy : Option (Option Dm.D) → ByteArray | some r => ry r | none => ⟨#[]⟩
def qz : Option (Option Dm.D) → Int | some r => rz r | none => 0
def qe : Option (Option Dm.D) → Int | some r => re r | none => 4
theorem pV_q (o : Option (Option Dm.D)) : pV o = .tuple #[.agg #[.bool (qx o), .string (qy o), .int .i64 (qz o)], .int .i64 (qe o)] := by
  cases o with
  | none => rfl
  | some r => cases r <;> rfl
theorem parse_q (l : List UInt8) (o : Option (Option Dm.D)) (w : World) (hl : l.length ≤ 200) (h : Dm.parseL l = o) :
    Calls Tryd.prog 12 #[.string ⟨l.toArray⟩] w fun e w' => e = .returned (.tuple #[.agg #[.bool (qx o), .string (qy o), .int .i64 (qz o)], .int .i64 (qe o)]) ∧ Below w.heap.size w w' := by
  have := parse_any ⟨l.toArray⟩ w (by rw [mk_size]; omega)
  rw [mk_list, h, pV_q] at this; exact this
theorem rparse_q (l : List UInt8) (o : Option (Option Dm.D)) (w : World) (hl : l.length ≤ 200) (h : Dm.parseL l = o) :
    Calls Tryd.prog 14 #[.string ⟨l.toArray⟩] w fun e w' => e = .returned (.tuple #[.agg #[.bool (qx o), .string (qy o), .int .i64 (qz o)], .int .i64 (qe o)]) ∧ Below w.heap.size w w' := by
  have := rparse_any ⟨l.toArray⟩ w (by rw [mk_size]; omega)
  rw [mk_list, h, pV_q] at this; exact this
theorem rmay_l (ng : Bool) (l : List UInt8) (n : Int) (b : Bool) (w : World) (hl : l.length ≤ 200) (h : Dm.mayB ng l n = b) :
    Calls Tryd.prog 15 #[.agg #[.bool ng, .string ⟨l.toArray⟩, .int .i64 n]] w fun e w' => e = .returned (.bool b) ∧ Below w.heap.size w w' := by
  have := rmay_any ng ⟨l.toArray⟩ n w (by rw [mk_size]; unfold maxLen; omega)
  rw [mk_list, h] at this; exact this
theorem rprint_b (x : Bool) (l : List UInt8) (j : Nat) (pl : List UInt8) (w : World) (h : Dm.May ⟨x, l, j⟩) (hp : Dm.printL ⟨x, l, j⟩ = pl) :
    Calls Tryd.prog 17 #[.agg #[.bool x, .string ⟨l.toArray⟩, .int .i64 (j : Int)]] w fun e w' => e = .returned (.string ⟨pl.toArray⟩) ∧ Below w.heap.size w w' := by
  have := rprint_any x l j w h
  rw [hp] at this; exact this
theorem int_p (n : Int) (x : Bool) (l : List UInt8) (w : World) (h0 : -9223372036854775808 ≤ n) (h1 : n ≤ 9223372036854775807) (htab : Pow w) (hx : (Dm.ofInt n).ng = x) (hl : (Dm.ofInt n).ds = l) :
    Calls Tryd.prog 19 #[.int .i64 n] w fun e w' => e = .returned (.agg #[.bool x, .string ⟨l.toArray⟩, .int .i64 0]) ∧ Below w.heap.size w w' := by
  subst hx hl; exact int_any n w h0 h1 htab
theorem rint_p (n : Int) (x : Bool) (l : List UInt8) (w : World) (h0 : -9223372036854775808 ≤ n) (h1 : n ≤ 9223372036854775807) (hx : (Dm.ofInt n).ng = x) (hl : (Dm.ofInt n).ds = l) :
    Calls Tryd.prog 20 #[.int .i64 n] w fun e w' => e = .returned (.agg #[.bool x, .string ⟨l.toArray⟩, .int .i64 0]) ∧ Below w.heap.size w w' := by
  subst hx hl; exact rint_any n w h0 h1

theorem Has3.set_other {b c i : Nat} {x y z : Value} {w : World} (h : Has3 b x y z w) (hbc : b ≠ c) (v : Value) : Has3 b x y z (w.setCell ⟨c, i, none⟩ v) := by
  obtain ⟨h0, a0, a1, a2⟩ := h
  have n : ∀ j, (⟨c, i, none⟩ : Addr) ≠ ⟨b, j, none⟩ := by intro j q; injection q with q1; exact hbc q1.symm
  exact ⟨by simpa [World.setCell] using h0, by rw [World.cell?_setCell_other (h := n 0)]; exact a0, by rw [World.cell?_setCell_other (h := n 1)]; exact a1, by rw [World.cell?_setCell_other (h := n 2)]; exact a2⟩

set_option maxRecDepth 100000 in
set_option maxHeartbeats 4000000 in
theorem parses_walk (s : ByteArray) (x : Bool) (t : ByteArray) (z n : Int) (w : World) (hs : s.size ≤ maxLen) (ht : t.size ≤ maxLen) (h0 : -9223372036854775808 ≤ n) (h1 : n ≤ 9223372036854775807) (htab : Pow w) :
    Calls Tryd.prog 3 #[.string s, .agg #[.bool x, .string t, .int .i64 z], .int .i64 n] w fun e w' => e = .returned (.bool true) ∧ Below w.heap.size w w' := by
  obtain ⟨sl, hsl⟩ : ∃ sl, s.data.toList.take 200 = sl := ⟨_, rfl⟩
  obtain ⟨tl, htl⟩ : ∃ tl, t.data.toList.take 200 = tl := ⟨_, rfl⟩
  have ls : sl.length ≤ 200 := by rw [← hsl, List.length_take]; omega
  have lt : tl.length ≤ 200 := by rw [← htl, List.length_take]; omega
  obtain ⟨o, ho⟩ : ∃ o, Dm.parseL sl = o := ⟨_, rfl⟩
  obtain ⟨m, hm⟩ : ∃ m, Dm.mayB x tl z = m := ⟨_, rfl⟩
  have HSL := hide hsl
  have HTL := hide htl
  have HO := hide ho
  have HM := hide hm
  clear hsl htl ho hm
  have hf0 : (w.alloc (.cells #[.bool x, .string t, .int .i64 z] 23)).frozen? ⟨w.heap.size, 1, none⟩ = false := frozen_made w _ 23 1
  have hS := Box3.start w (.bool x) (.string t) (.int .i64 z) 23
  obtain ⟨xi, hxi⟩ : ∃ b, (Dm.ofInt n).ng = b := ⟨_, rfl⟩
  obtain ⟨li, hli⟩ : ∃ b, (Dm.ofInt n).ds = b := ⟨_, rfl⟩
  have HXI := hide hxi
  have HLI := hide hli
  clear hxi hli
  go_enter Tryd.func3, Tryd.ntmps3
  obtain ⟨_, _, a0, a1, a2⟩ := id hS
  go_wp2_with fail
  clear a0 a1 a2
  refine (shown_any _).mono ?_
  rintro e w1 ⟨rfl, hb⟩
  have hf1 : w1.frozen? ⟨w.heap.size, 1, none⟩ = false := by rw [hb.frozen (p := ⟨w.heap.size, 1, none⟩) (by simp)]; exact hf0
  replace hS := hS.next hb
  clear hb hf0
  obtain ⟨_, _, a0, a1, a2⟩ := id hS
  go_wp2_with fail
  clear a0 a1 a2
  refine (few_any s sl _ hs (unhide HSL)).mono ?_
  rintro e w1' ⟨rfl, rfl⟩
  obtain ⟨_, _, a0, a1, a2⟩ := id hS
  go_wp2_with fail
  clear a0 a1 a2
  refine (parse_q sl o _ ls (unhide HO)).mono ?_
  rintro e w2 ⟨rfl, hb⟩
  replace hf1 : w2.frozen? ⟨w.heap.size, 1, none⟩ = false := by rw [hb.frozen (p := ⟨w.heap.size, 1, none⟩) hS.2.1]; exact hf1
  replace hS := hS.next hb
  clear hb
  have hne2 : w2.heap.size ≠ w.heap.size := by have := hS.2.1; omega
  generalize hz0 : qx o = o_0
  have oZ0 := hide hz0
  clear hz0
  generalize hz1 : qy o = o_1
  have oZ1 := hide hz1
  clear hz1
  generalize hz2 : qz o = o_2
  have oZ2 := hide hz2
  clear hz2
  generalize hz3 : qe o = o_3
  have oZ3 := hide hz3
  clear hz3
  replace hf1 : (w2.alloc (.cells #[.bool o_0, .string o_1, .int .i64 o_2] 23)).frozen? ⟨w.heap.size, 1, none⟩ = false := by rw [((Below.refl _ _).alloc (Nat.le_refl _) (.cells #[.bool o_0, .string o_1, .int .i64 o_2] 23)).frozen (p := ⟨w.heap.size, 1, none⟩) hS.2.1]; exact hf1
  replace hS := hS.next ((Below.refl _ _).alloc (Nat.le_refl _) (.cells #[.bool o_0, .string o_1, .int .i64 o_2] 23))
  have X := Has3.start w2 (.bool o_0) (.string o_1) (.int .i64 o_2) 23
  obtain ⟨_, _, a0, a1, a2⟩ := id hS
  obtain ⟨_, X0, X1, X2⟩ := id X
  go_wp2_with fail
  clear a0 a1 a2
  clear X0 X1 X2
  refine (few_any s sl _ hs (unhide HSL)).mono ?_
  rintro e w1' ⟨rfl, rfl⟩
  obtain ⟨_, _, a0, a1, a2⟩ := id hS
  obtain ⟨_, X0, X1, X2⟩ := id X
  go_wp2_with fail
  clear a0 a1 a2
  clear X0 X1 X2
  refine (rparse_q sl o _ ls (unhide HO)).mono ?_
  rintro e w3 ⟨rfl, hb⟩
  replace hf1 : w3.frozen? ⟨w.heap.size, 1, none⟩ = false := by rw [hb.frozen (p := ⟨w.heap.size, 1, none⟩) hS.2.1]; exact hf1
  replace hS := hS.next hb
  replace X := X.next hb
  clear hb
  have hne3 : w3.heap.size ≠ w.heap.size := by have := hS.2.1; omega
  rw [unhide oZ0, unhide oZ1, unhide oZ2, unhide oZ3]
  replace hf1 : (w3.alloc (.cells #[.bool o_0, .string o_1, .int .i64 o_2] 23)).frozen? ⟨w.heap.size, 1, none⟩ = false := by rw [((Below.refl _ _).alloc (Nat.le_refl _) (.cells #[.bool o_0, .string o_1, .int .i64 o_2] 23)).frozen (p := ⟨w.heap.size, 1, none⟩) hS.2.1]; exact hf1
  replace hS := hS.next ((Below.refl _ _).alloc (Nat.le_refl _) (.cells #[.bool o_0, .string o_1, .int .i64 o_2] 23))
  replace X := X.next ((Below.refl _ _).alloc (Nat.le_refl _) (.cells #[.bool o_0, .string o_1, .int .i64 o_2] 23))
  have Y := Has3.start w3 (.bool o_0) (.string o_1) (.int .i64 o_2) 23
  obtain ⟨_, _, a0, a1, a2⟩ := id hS
  obtain ⟨_, X0, X1, X2⟩ := id X
  obtain ⟨_, Y0, Y1, Y2⟩ := id Y
  go_wp2_with fail
  clear a0 a1 a2
  clear X0 X1 X2
  clear Y0 Y1 Y2
  refine (few_any t tl _ ht (unhide HTL)).mono ?_
  rintro e w1' ⟨rfl, rfl⟩
  replace X := X.set_other (i := 1) hne2 (.string ⟨tl.toArray⟩)
  replace Y := Y.set_other (i := 1) hne3 (.string ⟨tl.toArray⟩)
  obtain ⟨_, _, a0, a1, a2⟩ := id hS
  go_wp2_with fail
  clear a0 a1 a2
  replace hS := hS.set1 (.string ⟨tl.toArray⟩)
  refine (rmay_l x tl z m _ lt (unhide HM)).mono ?_
  rintro e w4 ⟨rfl, hb⟩
  replace hS := hS.next hb
  replace X := X.next hb
  replace Y := Y.next hb
  clear hb hf1
  cases m with
  | false =>
    obtain ⟨_, _, a0, a1, a2⟩ := id hS
    obtain ⟨_, X0, X1, X2⟩ := id X
    obtain ⟨_, Y0, Y1, Y2⟩ := id Y
    go_wp2_with fail
    go_quiet (fail)
    clear a0 a1 a2
    clear X0 X1 X2
    clear Y0 Y1 Y2
    replace hS := hS.next (Go.Joins.below_draws _ _ nq)
    replace X := X.next (Go.Joins.below_draws _ _ nq)
    replace Y := Y.next (Go.Joins.below_draws _ _ nq)
    generalize w4.drewN nq = w5 at hS X Y ⊢
    obtain ⟨_, _, a0, a1, a2⟩ := id hS
    obtain ⟨_, X0, X1, X2⟩ := id X
    obtain ⟨_, Y0, Y1, Y2⟩ := id Y
    go_wp2_with fail
    clear a0 a1 a2
    clear X0 X1 X2
    clear Y0 Y1 Y2
    refine (may_l x tl z false _ lt (unhide HM)).mono ?_
    rintro e w6 ⟨rfl, hb⟩
    replace hS := hS.next hb
    replace X := X.next hb
    replace Y := Y.next hb
    clear hb
    obtain ⟨_, _, a0, a1, a2⟩ := id hS
    obtain ⟨_, X0, X1, X2⟩ := id X
    obtain ⟨_, Y0, Y1, Y2⟩ := id Y
    go_wp2_with fail
    clear a0 a1 a2
    clear X0 X1 X2
    clear Y0 Y1 Y2
    refine (int_p n xi li _ h0 h1 (htab.next hS.1) (unhide HXI) (unhide HLI)).mono ?_
    rintro e w7 ⟨rfl, hb⟩
    replace hS := hS.next hb
    replace X := X.next hb
    replace Y := Y.next hb
    clear hb
    obtain ⟨_, _, a0, a1, a2⟩ := id hS
    obtain ⟨_, X0, X1, X2⟩ := id X
    obtain ⟨_, Y0, Y1, Y2⟩ := id Y
    go_wp2_with fail
    clear a0 a1 a2
    clear X0 X1 X2
    clear Y0 Y1 Y2
    refine (rint_p n xi li _ h0 h1 (unhide HXI) (unhide HLI)).mono ?_
    rintro e w8 ⟨rfl, hb⟩
    replace hS := hS.next hb
    replace X := X.next hb
    replace Y := Y.next hb
    clear hb
    go_wp2
    go_ret
    exact ⟨rfl, hS.1⟩
  | true =>
    obtain ⟨j, rfl, hj⟩ : ∃ j : Nat, z = (j : Int) ∧ Dm.May ⟨x, tl, j⟩ := by
      obtain ⟨q1, q2⟩ := Dm.mayB_iff.1 (unhide HM)
      exact ⟨z.toNat, by omega, q2⟩
    obtain ⟨pl, hpl⟩ : ∃ pl, Dm.printL ⟨x, tl, j⟩ = pl := ⟨_, rfl⟩
    have HPL := hide hpl
    clear hpl
    obtain ⟨_, _, a0, a1, a2⟩ := id hS
    obtain ⟨_, X0, X1, X2⟩ := id X
    obtain ⟨_, Y0, Y1, Y2⟩ := id Y
    go_wp2_with fail
    go_region_held3 (fun w' => (w'.cell? ⟨w.heap.size, 0, none⟩ = some (.bool x) ∧ w'.cell? ⟨w.heap.size, 1, none⟩ = some (.string ⟨tl.toArray⟩) ∧ w'.cell? ⟨w.heap.size, 2, none⟩ = some (.int .i64 (j : Int))) ∧ (w'.cell? ⟨w2.heap.size, 0, none⟩ = some (.bool o_0) ∧ w'.cell? ⟨w2.heap.size, 1, none⟩ = some (.string o_1) ∧ w'.cell? ⟨w2.heap.size, 2, none⟩ = some (.int .i64 o_2)) ∧ (w'.cell? ⟨w3.heap.size, 0, none⟩ = some (.bool o_0) ∧ w'.cell? ⟨w3.heap.size, 1, none⟩ = some (.string o_1) ∧ w'.cell? ⟨w3.heap.size, 2, none⟩ = some (.int .i64 o_2))) (first | exact ⟨hS.2.2, X.2, Y.2⟩ | exact ⟨hS.drew.2.2, X.drew.2, Y.drew.2⟩) (first | (go_at_call 16; refine (print_b x tl j pl _ hj (unhide HPL)).mono ?_; rintro e w' ⟨rfl, hbw⟩; replace hS := Box3.next (by first | exact hS | exact hS.drew) hbw; clear a0 a1 a2; obtain ⟨_, _, a0, a1, a2⟩ := id hS; replace X := Has3.next (by first | exact X | exact X.drew) hbw; clear X0 X1 X2; obtain ⟨_, X0, X1, X2⟩ := id X; replace Y := Has3.next (by first | exact Y | exact Y.drew) hbw; clear Y0 Y1 Y2; obtain ⟨_, Y0, Y1, Y2⟩ := id Y; clear hbw) | (go_at_call 17; refine (rprint_b x tl j pl _ hj (unhide HPL)).mono ?_; rintro e w' ⟨rfl, hbw⟩; replace hS := Box3.next (by first | exact hS | exact hS.drew) hbw; clear a0 a1 a2; obtain ⟨_, _, a0, a1, a2⟩ := id hS; replace X := Has3.next (by first | exact X | exact X.drew) hbw; clear X0 X1 X2; obtain ⟨_, X0, X1, X2⟩ := id X; replace Y := Has3.next (by first | exact Y | exact Y.drew) hbw; clear Y0 Y1 Y2; obtain ⟨_, Y0, Y1, Y2⟩ := id Y; clear hbw))
    all_goals
      clear a0 a1 a2
      clear X0 X1 X2
      clear Y0 Y1 Y2
      obtain ⟨_, _, a0, a1, a2⟩ := id hS
      obtain ⟨_, X0, X1, X2⟩ := id X
      obtain ⟨_, Y0, Y1, Y2⟩ := id Y
      go_wp2_with fail
      clear a0 a1 a2
      clear X0 X1 X2
      clear Y0 Y1 Y2
      refine (may_l x tl (j : Int) true _ lt (unhide HM)).mono ?_
      rintro e w6 ⟨rfl, hb⟩
      replace hS := hS.next hb
      replace X := X.next hb
      replace Y := Y.next hb
      clear hb
      obtain ⟨_, _, a0, a1, a2⟩ := id hS
      obtain ⟨_, X0, X1, X2⟩ := id X
      obtain ⟨_, Y0, Y1, Y2⟩ := id Y
      go_wp2_with fail
      clear a0 a1 a2
      clear X0 X1 X2
      clear Y0 Y1 Y2
      refine (int_p n xi li _ h0 h1 (htab.next hS.1) (unhide HXI) (unhide HLI)).mono ?_
      rintro e w7 ⟨rfl, hb⟩
      replace hS := hS.next hb
      replace X := X.next hb
      replace Y := Y.next hb
      clear hb
      obtain ⟨_, _, a0, a1, a2⟩ := id hS
      obtain ⟨_, X0, X1, X2⟩ := id X
      obtain ⟨_, Y0, Y1, Y2⟩ := id Y
      go_wp2_with fail
      clear a0 a1 a2
      clear X0 X1 X2
      clear Y0 Y1 Y2
      refine (rint_p n xi li _ h0 h1 (unhide HXI) (unhide HLI)).mono ?_
      rintro e w8 ⟨rfl, hb⟩
      replace hS := hS.next hb
      replace X := X.next hb
      replace Y := Y.next hb
      clear hb
      go_wp2
      go_ret
      exact ⟨rfl, hS.1⟩
end Go.Proofs.YtijelgmmmceflaaDoor
