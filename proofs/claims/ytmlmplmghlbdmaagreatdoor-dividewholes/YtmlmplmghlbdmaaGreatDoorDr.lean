/- What is proved here: what the document's examples of package divide come to, walked; condition: the table of powers of ten lies in the world. What is proved here: shown of bowdlerlaw02 (the document's examples of package divide) answers true, walked; condition: the table of powers of ten lies in the world. -/
import Derived.Test.YtmlmplmghlbdmaaGreatDoorDp
import Derived.Test.YtmlmplmghlbdmaaGreatDoorUl
import Derived.Test.YtmlmplmghlbdmaaGreatDoorUc
import Derived.Deep.RegionHeld3
namespace Go.Proofs.YtmlmplmghlbdmaaGreatDoor
open Go.RowKit
set_option linter.unusedVariables false
set_option linter.unusedSimpArgs false

theorem rparse_c (s : ByteArray) (x : Bool) (d : List UInt8) (z : Nat) (w : World) (hs : s.size ≤ 800) (h : Hid (Dm.parseL s.data.toList = some (some ⟨x, d, z⟩))) :
    Calls Tryz.prog 54 #[.string s] w fun e w' => e = .returned (.tuple #[.agg #[.bool x, .string ⟨d.toArray⟩, .int .i64 (z : Int)], .int .i64 0]) ∧ Below w.heap.size w w' := by
  have := rparse_any s w hs
  rw [unhide h] at this
  exact this
set_option maxRecDepth 100000 in
set_option maxHeartbeats 2000000 in
theorem num_c (s : ByteArray) (x : Bool) (d : List UInt8) (z : Nat) (w : World) (hs : s.size ≤ 800) (h : Hid (Dm.parseL s.data.toList = some (some ⟨x, d, z⟩))) :
    Calls Tryz.prog 30 #[.string s] w fun e w' => e = .returned (.agg #[.bool x, .string ⟨d.toArray⟩, .int .i64 (z : Int)]) ∧ Below w.heap.size w w' := by
  have hO := Own.start w
  go_enter Tryz.func30, Tryz.ntmps30
  go_wp2_with (go_at_call 54; refine (rparse_c s x d z _ hs h).mono ?_; rintro e w1 ⟨rfl, hb⟩; replace hO := hO.step hb; have hO2 := hO.step ((Below.refl w1.heap.size w1).alloc (Nat.le_refl _) (.cells #[.bool x, .string ⟨d.toArray⟩, .int .i64 (z : Int)] 23)); clear hb; obtain ⟨o0, o1, o2, f0, f1, f2⟩ := hO2.facts)
  exact bodyPost_ret (v := .agg #[.bool x, .string ⟨d.toArray⟩, .int .i64 (z : Int)]) (by simp [results, Tryz.results30, go_sem, o0, o1, o2]) rfl ⟨rfl, hO2.end _ _ _⟩
theorem num_z (s : ByteArray) (x : Bool) (d : List UInt8) (w : World) (hs : s.size ≤ 800) (h : Hid (Dm.parseL s.data.toList = some (some ⟨x, d, 0⟩))) :
    Calls Tryz.prog 30 #[.string s] w fun e w' => e = .returned (.agg #[.bool x, .string ⟨d.toArray⟩, .int .i64 0]) ∧ Below w.heap.size w w' := num_c s x d 0 w hs h
theorem num_1 (w : World) : Calls Tryz.prog 30 #[.string ⟨#[49]⟩] w fun e w' => e = .returned (.agg #[.bool false, .string ⟨#[49]⟩, .int .i64 0]) ∧ Below w.heap.size w w' := num_z ⟨#[49]⟩ false [49] w (by decide) (hide (by rfl))
theorem num_8 (w : World) : Calls Tryz.prog 30 #[.string ⟨#[56]⟩] w fun e w' => e = .returned (.agg #[.bool false, .string ⟨#[56]⟩, .int .i64 0]) ∧ Below w.heap.size w w' := num_z ⟨#[56]⟩ false [56] w (by decide) (hide (by rfl))
theorem num_2 (w : World) : Calls Tryz.prog 30 #[.string ⟨#[50]⟩] w fun e w' => e = .returned (.agg #[.bool false, .string ⟨#[50]⟩, .int .i64 0]) ∧ Below w.heap.size w w' := num_z ⟨#[50]⟩ false [50] w (by decide) (hide (by rfl))
theorem num_3 (w : World) : Calls Tryz.prog 30 #[.string ⟨#[51]⟩] w fun e w' => e = .returned (.agg #[.bool false, .string ⟨#[51]⟩, .int .i64 0]) ∧ Below w.heap.size w w' := num_z ⟨#[51]⟩ false [51] w (by decide) (hide (by rfl))
theorem num_m7 (w : World) : Calls Tryz.prog 30 #[.string ⟨#[45, 55]⟩] w fun e w' => e = .returned (.agg #[.bool true, .string ⟨#[55]⟩, .int .i64 0]) ∧ Below w.heap.size w w' := num_z ⟨#[45, 55]⟩ true [55] w (by decide) (hide (by rfl))
theorem num_25 (w : World) : Calls Tryz.prog 30 #[.string ⟨#[50, 46, 53]⟩] w fun e w' => e = .returned (.agg #[.bool false, .string ⟨#[50, 53]⟩, .int .i64 1]) ∧ Below w.heap.size w w' := num_c ⟨#[50, 46, 53]⟩ false [50, 53] 1 w (by decide) (hide (by rfl))
theorem num_m05 (w : World) : Calls Tryz.prog 30 #[.string ⟨#[45, 48, 46, 53]⟩] w fun e w' => e = .returned (.agg #[.bool true, .string ⟨#[53]⟩, .int .i64 1]) ∧ Below w.heap.size w w' := num_c ⟨#[45, 48, 46, 53]⟩ true [53] 1 w (by decide) (hide (by rfl))
theorem num_0125 (w : World) : Calls Tryz.prog 30 #[.string ⟨#[48, 46, 49, 50, 53]⟩] w fun e w' => e = .returned (.agg #[.bool false, .string ⟨#[49, 50, 53]⟩, .int .i64 3]) ∧ Below w.heap.size w w' := num_c ⟨#[48, 46, 49, 50, 53]⟩ false [49, 50, 53] 3 w (by decide) (hide (by rfl))
theorem num_m2 (w : World) : Calls Tryz.prog 30 #[.string ⟨#[45, 50]⟩] w fun e w' => e = .returned (.agg #[.bool true, .string ⟨#[50]⟩, .int .i64 0]) ∧ Below w.heap.size w w' := num_z ⟨#[45, 50]⟩ true [50] w (by decide) (hide (by rfl))
theorem num_m1 (w : World) : Calls Tryz.prog 30 #[.string ⟨#[45, 49]⟩] w fun e w' => e = .returned (.agg #[.bool true, .string ⟨#[49]⟩, .int .i64 0]) ∧ Below w.heap.size w w' := num_z ⟨#[45, 49]⟩ true [49] w (by decide) (hide (by rfl))
def sixes : List UInt8 := [54, 54, 54, 54, 54, 54, 54, 54, 54, 54, 54, 54, 54, 54, 54, 54, 54, 54, 54, 54, 54, 54, 54, 54, 54, 54, 54, 54, 54, 54, 54, 54, 54, 55]
theorem num_23 (s : ByteArray) (hs : s = ⟨(48 :: 46 :: sixes).toArray⟩) (l : List UInt8) (hl : Hid (l = sixes)) (w : World) : Calls Tryz.prog 30 #[.string s] w fun e w' => e = .returned (.agg #[.bool false, .string ⟨l.toArray⟩, .int .i64 34]) ∧ Below w.heap.size w w' := by
  rw [hs, unhide hl]
  exact num_c ⟨(48 :: 46 :: sixes).toArray⟩ false sixes 34 w (by decide) (hide (by rfl))

theorem may_1 : Dm.mayB false [49] 0 = true := by rfl
theorem may_con {x : Bool} {l : List UInt8} {z : Nat} (h : Dm.mayB x l (z : Int) = true) : Dm.May ⟨x, l, z⟩ := by
  have := (Dm.mayB_iff.1 h).2
  rw [Int.toNat_natCast] at this
  exact this
theorem div_18 (w : World) (htab : Pow w) : Calls Tryz.prog 12 #[.agg #[.bool false, .string ⟨#[49]⟩, .int .i64 0], .agg #[.bool false, .string ⟨#[56]⟩, .int .i64 0]] w fun e w' => e = .returned (.tuple #[.agg #[.bool false, .string ⟨#[49, 50, 53]⟩, .int .i64 3], .int .i64 0]) ∧ Below w.heap.size w w' := by
  refine (div_r false [49] 0 false [56] 0 35 w (may_con (by rfl)) (may_con (by rfl)) (by decide) (by decide) htab).mono ?_
  rintro e w' ⟨r, rfl, ⟨n, t, hn, ht, hr⟩, hB⟩
  obtain rfl : n = 35 := by have : max 0 (35 + (([56] : List UInt8).length : Int) - (([49] : List UInt8).length : Int)) = 35 := by decide
                            omega
  obtain rfl : t = 1 := ht.uniq (.inr (by decide +kernel))
  have : r = some ⟨false, [49, 50, 53], 3⟩ := hr.uniq (Dm.Rep.of_eqv (may_con (by rfl)) (by decide +kernel))
  subst this
  exact ⟨rfl, hB⟩
theorem div_23 (w : World) (htab : Pow w) (l : List UInt8) (hl : Hid (l = sixes)) : Calls Tryz.prog 12 #[.agg #[.bool false, .string ⟨#[50]⟩, .int .i64 0], .agg #[.bool false, .string ⟨#[51]⟩, .int .i64 0]] w fun e w' => e = .returned (.tuple #[.agg #[.bool false, .string ⟨l.toArray⟩, .int .i64 34], .int .i64 0]) ∧ Below w.heap.size w w' := by
  refine (div_r false [50] 0 false [51] 0 35 w (may_con (by rfl)) (may_con (by rfl)) (by decide) (by decide) htab).mono ?_
  rintro e w' ⟨r, rfl, ⟨n, t, hn, ht, hr⟩, hB⟩
  obtain rfl : n = 35 := by have : max 0 (35 + (([51] : List UInt8).length : Int) - (([50] : List UInt8).length : Int)) = 35 := by decide
                            omega
  obtain rfl : t = 1 := ht.uniq (.inr (by decide +kernel))
  have : r = some ⟨false, sixes, 34⟩ := hr.uniq (Dm.Rep.of_eqv (may_con (by rfl)) (by decide +kernel))
  subst this
  rw [unhide hl]
  exact ⟨rfl, hB⟩
theorem mod_725 (w : World) (htab : Pow w) : Calls Tryz.prog 14 #[.agg #[.bool true, .string ⟨#[55]⟩, .int .i64 0], .agg #[.bool false, .string ⟨#[50, 53]⟩, .int .i64 1]] w fun e w' => e = .returned (.tuple #[.agg #[.bool true, .string ⟨#[50]⟩, .int .i64 0], .int .i64 0]) ∧ Below w.heap.size w w' := by
  refine (mod_r true [55] 0 false [50, 53] 1 1 w (may_con (by rfl)) (may_con (by rfl)) (by decide) (by decide) htab).mono ?_
  rintro e w' ⟨r, rfl, hr, hB⟩
  have : r = some ⟨true, [50], 0⟩ := hr.uniq (Dm.Rep.of_eqv (may_con (by rfl)) (by decide +kernel))
  subst this
  exact ⟨rfl, hB⟩
theorem round_05 (w : World) (htab : Pow w) : Calls Tryz.prog 21 #[.agg #[.bool true, .string ⟨#[53]⟩, .int .i64 1]] w fun e w' => e = .returned (.tuple #[.agg #[.bool true, .string ⟨#[49]⟩, .int .i64 0], .int .i64 0]) ∧ Below w.heap.size w w' := by
  refine (round_r true [53] 1 true w (may_con (by rfl)) (by decide) htab).mono ?_
  rintro e w' ⟨r, rfl, hr, hB⟩
  have : r = some ⟨true, [49], 0⟩ := (unhide hr).uniq (Dm.Rep.of_eqv (may_con (by rfl)) (by decide +kernel))
  subst this
  exact ⟨rfl, hB⟩
end Go.Proofs.YtmlmplmghlbdmaaGreatDoor

namespace Go.Proofs.YtmlmplmghlbdmaaGreatDoor
open Go.RowKit
set_option linter.unusedVariables false
set_option linter.unusedSimpArgs false

/-- What lay there before is as it was. -/
def Since (w0 w : World) : Prop := Below w0.heap.size w0 w
theorem Since.next {w0 w w' : World} (h : Since w0 w) (hb : Below w.heap.size w w') : Since w0 w' := Below.trans h (hb.mono (Below.size h))
theorem Since.drew {w0 w : World} (h : Since w0 w) : Since w0 w.drew := h.next (Below.refl _ _).drew
theorem Has3.drew {b : Nat} {x y z : Value} {w : World} (h : Has3 b x y z w) : Has3 b x y z w.drew := h.next (Below.refl _ _).drew
theorem Since.start (w : World) : Since w w := Below.refl _ _

theorem num_0125' (l : List UInt8) (hl : Hid (l = [49, 50, 53])) (w : World) : Calls Tryz.prog 30 #[.string ⟨#[48, 46, 49, 50, 53]⟩] w fun e w' => e = .returned (.agg #[.bool false, .string ⟨l.toArray⟩, .int .i64 3]) ∧ Below w.heap.size w w' := by
  rw [unhide hl]; exact num_0125 w
theorem num_m2' (l : List UInt8) (hl : Hid (l = [50])) (w : World) : Calls Tryz.prog 30 #[.string ⟨#[45, 50]⟩] w fun e w' => e = .returned (.agg #[.bool true, .string ⟨l.toArray⟩, .int .i64 0]) ∧ Below w.heap.size w w' := by
  rw [unhide hl]; exact num_m2 w
theorem num_m1' (l : List UInt8) (hl : Hid (l = [49])) (w : World) : Calls Tryz.prog 30 #[.string ⟨#[45, 49]⟩] w fun e w' => e = .returned (.agg #[.bool true, .string ⟨l.toArray⟩, .int .i64 0]) ∧ Below w.heap.size w w' := by
  rw [unhide hl]; exact num_m1 w
theorem div_18' (l : List UInt8) (hl : Hid (l = [49, 50, 53])) (w : World) (htab : Pow w) : Calls Tryz.prog 12 #[.agg #[.bool false, .string ⟨#[49]⟩, .int .i64 0], .agg #[.bool false, .string ⟨#[56]⟩, .int .i64 0]] w fun e w' => e = .returned (.tuple #[.agg #[.bool false, .string ⟨l.toArray⟩, .int .i64 3], .int .i64 0]) ∧ Below w.heap.size w w' := by
  rw [unhide hl]; exact div_18 w htab
theorem mod_725' (l : List UInt8) (hl : Hid (l = [50])) (w : World) (htab : Pow w) : Calls Tryz.prog 14 #[.agg #[.bool true, .string ⟨#[55]⟩, .int .i64 0], .agg #[.bool false, .string ⟨#[50, 53]⟩, .int .i64 1]] w fun e w' => e = .returned (.tuple #[.agg #[.bool true, .string ⟨l.toArray⟩, .int .i64 0], .int .i64 0]) ∧ Below w.heap.size w w' := by
  rw [unhide hl]; exact mod_725 w htab
theorem round_05' (l : List UInt8) (hl : Hid (l = [49])) (w : World) (htab : Pow w) : Calls Tryz.prog 21 #[.agg #[.bool true, .string ⟨#[53]⟩, .int .i64 1]] w fun e w' => e = .returned (.tuple #[.agg #[.bool true, .string ⟨l.toArray⟩, .int .i64 0], .int .i64 0]) ∧ Below w.heap.size w w' := by
  rw [unhide hl]; exact round_05 w htab
set_option maxRecDepth 100000 in
set_option maxHeartbeats 4000000 in
theorem shown2 (w : World) (htab : Pow w) :
    Calls Tryz.prog 10 #[] w fun e w' => e = .returned (.bool true) ∧ Below w.heap.size w w' := by
  have hS := Since.start w
  obtain ⟨L, hL⟩ : ∃ L, L = sixes := ⟨_, rfl⟩
  have HL := hide hL
  clear hL
  obtain ⟨a, ha⟩ : ∃ a : List UInt8, a = [49, 50, 53] := ⟨_, rfl⟩
  have HA := hide ha
  clear ha
  obtain ⟨c, hc⟩ : ∃ c : List UInt8, c = [50] := ⟨_, rfl⟩
  have HC := hide hc
  clear hc
  obtain ⟨d, hd⟩ : ∃ d : List UInt8, d = [49] := ⟨_, rfl⟩
  have HD := hide hd
  clear hd
  have tok1 : True := trivial
  have tok2 : True := trivial
  have tok3 : True := trivial
  have tok4 : True := trivial
  go_enter Tryz.func10, Tryz.ntmps10
  go_wp2_with fail
  refine (num_1 _).mono ?_
  rintro e w1 ⟨rfl, hb1⟩
  replace hS := hS.next hb1
  clear hb1
  go_wp2_with fail
  refine (num_8 _).mono ?_
  rintro e w2 ⟨rfl, hb2⟩
  replace hS := hS.next hb2
  clear hb2
  go_wp2_with fail
  refine (div_18' a HA _ (htab.next hS)).mono ?_
  rintro e w3 ⟨rfl, hb3⟩
  replace hS := hS.next hb3
  clear hb3
  replace hS := hS.next ((Below.refl _ _).alloc (Nat.le_refl _) (.cells #[.bool false, .string ⟨a.toArray⟩, .int .i64 3] 23))
  have X := Has3.start w3 (.bool false) (.string ⟨a.toArray⟩) (.int .i64 3) 23
  obtain ⟨_, X0, X1, X2⟩ := id X
  go_wp2_with fail
  clear X0 X1 X2
  refine (num_2 _).mono ?_
  rintro e w4 ⟨rfl, hb4⟩
  replace hS := hS.next hb4
  replace X := X.next hb4
  clear hb4
  obtain ⟨_, X0, X1, X2⟩ := id X
  go_wp2_with fail
  clear X0 X1 X2
  refine (num_3 _).mono ?_
  rintro e w5 ⟨rfl, hb5⟩
  replace hS := hS.next hb5
  replace X := X.next hb5
  clear hb5
  obtain ⟨_, X0, X1, X2⟩ := id X
  go_wp2_with fail
  clear X0 X1 X2
  refine (div_23 _ (htab.next hS) L HL).mono ?_
  rintro e w6 ⟨rfl, hb6⟩
  replace hS := hS.next hb6
  replace X := X.next hb6
  clear hb6
  replace hS := hS.next ((Below.refl _ _).alloc (Nat.le_refl _) (.cells #[.bool false, .string ⟨L.toArray⟩, .int .i64 34] 23))
  replace X := X.next ((Below.refl _ _).alloc (Nat.le_refl _) (.cells #[.bool false, .string ⟨L.toArray⟩, .int .i64 34] 23))
  have Y := Has3.start w6 (.bool false) (.string ⟨L.toArray⟩) (.int .i64 34) 23
  obtain ⟨_, X0, X1, X2⟩ := id X
  obtain ⟨_, Y0, Y1, Y2⟩ := id Y
  go_wp2_with fail
  clear X0 X1 X2
  clear Y0 Y1 Y2
  refine (num_m7 _).mono ?_
  rintro e w7 ⟨rfl, hb7⟩
  replace hS := hS.next hb7
  replace X := X.next hb7
  replace Y := Y.next hb7
  clear hb7
  obtain ⟨_, X0, X1, X2⟩ := id X
  obtain ⟨_, Y0, Y1, Y2⟩ := id Y
  go_wp2_with fail
  clear X0 X1 X2
  clear Y0 Y1 Y2
  refine (num_25 _).mono ?_
  rintro e w8 ⟨rfl, hb8⟩
  replace hS := hS.next hb8
  replace X := X.next hb8
  replace Y := Y.next hb8
  clear hb8
  obtain ⟨_, X0, X1, X2⟩ := id X
  obtain ⟨_, Y0, Y1, Y2⟩ := id Y
  go_wp2_with fail
  clear X0 X1 X2
  clear Y0 Y1 Y2
  refine (mod_725' c HC _ (htab.next hS)).mono ?_
  rintro e w9 ⟨rfl, hb9⟩
  replace hS := hS.next hb9
  replace X := X.next hb9
  replace Y := Y.next hb9
  clear hb9
  replace hS := hS.next ((Below.refl _ _).alloc (Nat.le_refl _) (.cells #[.bool true, .string ⟨c.toArray⟩, .int .i64 0] 23))
  replace X := X.next ((Below.refl _ _).alloc (Nat.le_refl _) (.cells #[.bool true, .string ⟨c.toArray⟩, .int .i64 0] 23))
  replace Y := Y.next ((Below.refl _ _).alloc (Nat.le_refl _) (.cells #[.bool true, .string ⟨c.toArray⟩, .int .i64 0] 23))
  have Z := Has3.start w9 (.bool true) (.string ⟨c.toArray⟩) (.int .i64 0) 23
  obtain ⟨_, X0, X1, X2⟩ := id X
  obtain ⟨_, Y0, Y1, Y2⟩ := id Y
  obtain ⟨_, Z0, Z1, Z2⟩ := id Z
  go_wp2_with fail
  clear X0 X1 X2
  clear Y0 Y1 Y2
  clear Z0 Z1 Z2
  refine (num_m05 _).mono ?_
  rintro e w10 ⟨rfl, hb10⟩
  replace hS := hS.next hb10
  replace X := X.next hb10
  replace Y := Y.next hb10
  replace Z := Z.next hb10
  clear hb10
  obtain ⟨_, X0, X1, X2⟩ := id X
  obtain ⟨_, Y0, Y1, Y2⟩ := id Y
  obtain ⟨_, Z0, Z1, Z2⟩ := id Z
  go_wp2_with fail
  clear X0 X1 X2
  clear Y0 Y1 Y2
  clear Z0 Z1 Z2
  refine (round_05' d HD _ (htab.next hS)).mono ?_
  rintro e w11 ⟨rfl, hb11⟩
  replace hS := hS.next hb11
  replace X := X.next hb11
  replace Y := Y.next hb11
  replace Z := Z.next hb11
  clear hb11
  replace hS := hS.next ((Below.refl _ _).alloc (Nat.le_refl _) (.cells #[.bool true, .string ⟨d.toArray⟩, .int .i64 0] 23))
  replace X := X.next ((Below.refl _ _).alloc (Nat.le_refl _) (.cells #[.bool true, .string ⟨d.toArray⟩, .int .i64 0] 23))
  replace Y := Y.next ((Below.refl _ _).alloc (Nat.le_refl _) (.cells #[.bool true, .string ⟨d.toArray⟩, .int .i64 0] 23))
  replace Z := Z.next ((Below.refl _ _).alloc (Nat.le_refl _) (.cells #[.bool true, .string ⟨d.toArray⟩, .int .i64 0] 23))
  have U := Has3.start w11 (.bool true) (.string ⟨d.toArray⟩) (.int .i64 0) 23
  obtain ⟨_, X0, X1, X2⟩ := id X
  obtain ⟨_, Y0, Y1, Y2⟩ := id Y
  obtain ⟨_, Z0, Z1, Z2⟩ := id Z
  obtain ⟨_, U0, U1, U2⟩ := id U
  go_wp2_with fail
  go_region_held3 (fun w' => (w'.cell? ⟨w3.heap.size, 0, none⟩ = some (.bool false) ∧ w'.cell? ⟨w3.heap.size, 1, none⟩ = some (.string ⟨a.toArray⟩) ∧ w'.cell? ⟨w3.heap.size, 2, none⟩ = some (.int .i64 3)) ∧ (w'.cell? ⟨w6.heap.size, 0, none⟩ = some (.bool false) ∧ w'.cell? ⟨w6.heap.size, 1, none⟩ = some (.string ⟨L.toArray⟩) ∧ w'.cell? ⟨w6.heap.size, 2, none⟩ = some (.int .i64 34)) ∧ (w'.cell? ⟨w9.heap.size, 0, none⟩ = some (.bool true) ∧ w'.cell? ⟨w9.heap.size, 1, none⟩ = some (.string ⟨c.toArray⟩) ∧ w'.cell? ⟨w9.heap.size, 2, none⟩ = some (.int .i64 0)) ∧ (w'.cell? ⟨w11.heap.size, 0, none⟩ = some (.bool true) ∧ w'.cell? ⟨w11.heap.size, 1, none⟩ = some (.string ⟨d.toArray⟩) ∧ w'.cell? ⟨w11.heap.size, 2, none⟩ = some (.int .i64 0))) (first | exact ⟨X.2, Y.2, Z.2, U.2⟩ | exact ⟨X.drew.2, Y.drew.2, Z.drew.2, U.drew.2⟩) (first | (go_at_call 30; have _t := tok1; refine (num_0125' a HA _).mono ?_; rintro e w' ⟨rfl, hbw⟩; replace hS := Since.next (by first | exact hS | exact hS.drew) hbw; replace X := Has3.next (by first | exact X | exact X.drew) hbw; clear X0 X1 X2; obtain ⟨_, X0, X1, X2⟩ := id X; replace Y := Has3.next (by first | exact Y | exact Y.drew) hbw; clear Y0 Y1 Y2; obtain ⟨_, Y0, Y1, Y2⟩ := id Y; replace Z := Has3.next (by first | exact Z | exact Z.drew) hbw; clear Z0 Z1 Z2; obtain ⟨_, Z0, Z1, Z2⟩ := id Z; replace U := Has3.next (by first | exact U | exact U.drew) hbw; clear U0 U1 U2; obtain ⟨_, U0, U1, U2⟩ := id U; clear hbw tok1 _t) | (go_at_call 30; have _t := tok4; refine (num_23 _ (by rfl) L HL _).mono ?_; rintro e w' ⟨rfl, hbw⟩; replace hS := Since.next (by first | exact hS | exact hS.drew) hbw; replace X := Has3.next (by first | exact X | exact X.drew) hbw; clear X0 X1 X2; obtain ⟨_, X0, X1, X2⟩ := id X; replace Y := Has3.next (by first | exact Y | exact Y.drew) hbw; clear Y0 Y1 Y2; obtain ⟨_, Y0, Y1, Y2⟩ := id Y; replace Z := Has3.next (by first | exact Z | exact Z.drew) hbw; clear Z0 Z1 Z2; obtain ⟨_, Z0, Z1, Z2⟩ := id Z; replace U := Has3.next (by first | exact U | exact U.drew) hbw; clear U0 U1 U2; obtain ⟨_, U0, U1, U2⟩ := id U; clear hbw tok4 _t) | (go_at_call 30; have _t := tok2; refine (num_m2' c HC _).mono ?_; rintro e w' ⟨rfl, hbw⟩; replace hS := Since.next (by first | exact hS | exact hS.drew) hbw; replace X := Has3.next (by first | exact X | exact X.drew) hbw; clear X0 X1 X2; obtain ⟨_, X0, X1, X2⟩ := id X; replace Y := Has3.next (by first | exact Y | exact Y.drew) hbw; clear Y0 Y1 Y2; obtain ⟨_, Y0, Y1, Y2⟩ := id Y; replace Z := Has3.next (by first | exact Z | exact Z.drew) hbw; clear Z0 Z1 Z2; obtain ⟨_, Z0, Z1, Z2⟩ := id Z; replace U := Has3.next (by first | exact U | exact U.drew) hbw; clear U0 U1 U2; obtain ⟨_, U0, U1, U2⟩ := id U; clear hbw tok2 _t) | (go_at_call 30; have _t := tok3; refine (num_m1' d HD _).mono ?_; rintro e w' ⟨rfl, hbw⟩; replace hS := Since.next (by first | exact hS | exact hS.drew) hbw; replace X := Has3.next (by first | exact X | exact X.drew) hbw; clear X0 X1 X2; obtain ⟨_, X0, X1, X2⟩ := id X; replace Y := Has3.next (by first | exact Y | exact Y.drew) hbw; clear Y0 Y1 Y2; obtain ⟨_, Y0, Y1, Y2⟩ := id Y; replace Z := Has3.next (by first | exact Z | exact Z.drew) hbw; clear Z0 Z1 Z2; obtain ⟨_, Z0, Z1, Z2⟩ := id Z; replace U := Has3.next (by first | exact U | exact U.drew) hbw; clear U0 U1 U2; obtain ⟨_, U0, U1, U2⟩ := id U; clear hbw tok3 _t))
  all_goals
    go_wp2
    go_ret
    exact ⟨rfl, hS⟩
end Go.Proofs.YtmlmplmghlbdmaaGreatDoor
