/- What is proved here: what the document's examples of package divide come to, walked; condition: the table of powers of ten lies in the world. What is proved here: shown of bowdlerlaw02 (the document's examples of package divide) answers true, walked; condition: the table of powers of ten lies in the world. What is proved here: what the laws of package divide call, in the words that they want; condition: the table of powers of ten lies in the world. What is proved here: what the laws of package divide call beside that: a second that is 0, whether two may be, the other sign, a product; condition: the table of powers of ten lies in the world. -/
import Derived.Test.YtmlmplmghlbdmaaGreatDoorDp
import Derived.Test.YtmlmplmghlbdmaaGreatDoorUl
import Derived.Test.YtmlmplmghlbdmaaGreatDoorUc
import Derived.Deep.RegionHeld3
import Derived.Test.YtmlmplmghlbdmaaGreatDoorUj
namespace Go.Proofs.YtmlmplmghlbdmaaGreatDoor
open Go.RowKit
set_option linter.unusedVariables false
set_option linter.unusedSimpArgs false

theorem rparse_c (s : ByteArray) (x : Bool) (d : List UInt8) (z : Nat) (w : World) (hs : s.size ≤ 800) (h : Hid (Dm.parseL s.data.toList = some (some ⟨x, d, z⟩))) :
    Calls Tryz.prog 54 #[.string s] w fun e w' => e = .returned (.tuple #[.agg #[.bool x, .string ⟨d.toArray⟩, .int .i64 (z : Int)], .int .i64 0]) ∧ Below w.heap.size w w' := by
  have := rparse_any s w hs
  rw [unhide h] at this
  exact this
set_option maxRecDepth 100000 in
set_option maxHeartbeats 2000000 in
theorem num_c (s : ByteArray) (x : Bool) (d : List UInt8) (z : Nat) (w : World) (hs : s.size ≤ 800) (h : Hid (Dm.parseL s.data.toList = some (some ⟨x, d, z⟩))) :
    Calls Tryz.prog 30 #[.string s] w fun e w' => e = .returned (.agg #[.bool x, .string ⟨d.toArray⟩, .int .i64 (z : Int)]) ∧ Below w.heap.size w w' := by
  have hO := Own.start w
  go_enter Tryz.func30, Tryz.ntmps30
  go_wp2_with (go_at_call 54; refine (rparse_c s x d z _ hs h).mono ?_; rintro e w1 ⟨rfl, hb⟩; replace hO := hO.step hb; have hO2 := hO.step ((Below.refl w1.heap.size w1).alloc (Nat.le_refl _) (.cells #[.bool x, .string ⟨d.toArray⟩, .int .i64 (z : Int)] 23)); clear hb; obtain ⟨o0, o1, o2, f0, f1, f2⟩ := hO2.facts)
  exact bodyPost_ret (v := .agg #[.bool x, .string ⟨d.toArray⟩, .int .i64 (z : Int)]) (by simp [results, Tryz.results30, go_sem, o0, o1, o2]) rfl ⟨rfl, hO2.end _ _ _⟩
theorem num_z (s : ByteArray) (x : Bool) (d : List UInt8) (w : World) (hs : s.size ≤ 800) (h : Hid (Dm.parseL s.data.toList = some (some ⟨x, d, 0⟩))) :
    Calls Tryz.prog 30 #[.string s] w fun e w' => e = .returned (.agg #[.bool x, .string ⟨d.toArray⟩, .int .i64 0]) ∧ Below w.heap.size w w' := num_c s x d 0 w hs h
theorem num_1 (w : World) : Calls Tryz.prog 30 #[.string ⟨#[49]⟩] w fun e w' => e = .returned (.agg #[.bool false, .string ⟨#[49]⟩, .int .i64 0]) ∧ Below w.heap.size w w' := num_z ⟨#[49]⟩ false [49] w (by decide) (hide (by rfl))
theorem num_8 (w : World) : Calls Tryz.prog 30 #[.string ⟨#[56]⟩] w fun e w' => e = .returned (.agg #[.bool false, .string ⟨#[56]⟩, .int .i64 0]) ∧ Below w.heap.size w w' := num_z ⟨#[56]⟩ false [56] w (by decide) (hide (by rfl))
theorem num_2 (w : World) : Calls Tryz.prog 30 #[.string ⟨#[50]⟩] w fun e w' => e = .returned (.agg #[.bool false, .string ⟨#[50]⟩, .int .i64 0]) ∧ Below w.heap.size w w' := num_z ⟨#[50]⟩ false [50] w (by decide) (hide (by rfl))
theorem num_3 (w : World) : Calls Tryz.prog 30 #[.string ⟨#[51]⟩] w fun e w' => e = .returned (.agg #[.bool false, .string ⟨#[51]⟩, .int .i64 0]) ∧ Below w.heap.size w w' := num_z ⟨#[51]⟩ false [51] w (by decide) (hide (by rfl))
theorem num_m7 (w : World) : Calls Tryz.prog 30 #[.string ⟨#[45, 55]⟩] w fun e w' => e = .returned (.agg #[.bool true, .string ⟨#[55]⟩, .int .i64 0]) ∧ Below w.heap.size w w' := num_z ⟨#[45, 55]⟩ true [55] w (by decide) (hide (by rfl))
theorem num_25 (w : World) : Calls Tryz.prog 30 #[.string ⟨#[50, 46, 53]⟩] w fun e w' => e = .returned (.agg #[.bool false, .string ⟨#[50, 53]⟩, .int .i64 1]) ∧ Below w.heap.size w w' := num_c ⟨#[50, 46, 53]⟩ false [50, 53] 1 w (by decide) (hide (by rfl))
theorem num_m05 (w : World) : Calls Tryz.prog 30 #[.string ⟨#[45, 48, 46, 53]⟩] w fun e w' => e = .returned (.agg #[.bool true, .string ⟨#[53]⟩, .int .i64 1]) ∧ Below w.heap.size w w' := num_c ⟨#[45, 48, 46, 53]⟩ true [53] 1 w (by decide) (hide (by rfl))
theorem num_0125 (w : World) : Calls Tryz.prog 30 #[.string ⟨#[48, 46, 49, 50, 53]⟩] w fun e w' => e = .returned (.agg #[.bool false, .string ⟨#[49, 50, 53]⟩, .int .i64 3]) ∧ Below w.heap.size w w' := num_c ⟨#[48, 46, 49, 50, 53]⟩ false [49, 50, 53] 3 w (by decide) (hide (by rfl))
theorem num_m2 (w : World) : Calls Tryz.prog 30 #[.string ⟨#[45, 50]⟩] w fun e w' => e = .returned (.agg #[.bool true, .string ⟨#[50]⟩, .int .i64 0]) ∧ Below w.heap.size w w' := num_z ⟨#[45, 50]⟩ true [50] w (by decide) (hide (by rfl))
theorem num_m1 (w : World) : Calls Tryz.prog 30 #[.string ⟨#[45, 49]⟩] w fun e w' => e = .returned (.agg #[.bool true, .string ⟨#[49]⟩, .int .i64 0]) ∧ Below w.heap.size w w' := num_z ⟨#[45, 49]⟩ true [49] w (by decide) (hide (by rfl))
def sixes : List UInt8 := [54, 54, 54, 54, 54, 54, 54, 54, 54, 54, 54, 54, 54, 54, 54, 54, 54, 54, 54, 54, 54, 54, 54, 54, 54, 54, 54, 54, 54, 54, 54, 54, 54, 55]
theorem num_23 (s : ByteArray) (hs : s = ⟨(48 :: 46 :: sixes).toArray⟩) (l : List UInt8) (hl : Hid (l = sixes)) (w : World) : Calls Tryz.prog 30 #[.string s] w fun e w' => e = .returned (.agg #[.bool false, .string ⟨l.toArray⟩, .int .i64 34]) ∧ Below w.heap.size w w' := by
  rw [hs, unhide hl]
  exact num_c ⟨(48 :: 46 :: sixes).toArray⟩ false sixes 34 w (by decide) (hide (by rfl))

theorem may_1 : Dm.mayB false [49] 0 = true := by rfl
theorem may_con {x : Bool} {l : List UInt8} {z : Nat} (h : Dm.mayB x l (z : Int) = true) : Dm.May ⟨x, l, z⟩ := by
  have := (Dm.mayB_iff.1 h).2
  rw [Int.toNat_natCast] at this
  exact this
theorem div_18 (w : World) (htab : Pow w) : Calls Tryz.prog 12 #[.agg #[.bool false, .string ⟨#[49]⟩, .int .i64 0], .agg #[.bool false, .string ⟨#[56]⟩, .int .i64 0]] w fun e w' => e = .returned (.tuple #[.agg #[.bool false, .string ⟨#[49, 50, 53]⟩, .int .i64 3], .int .i64 0]) ∧ Below w.heap.size w w' := by
  refine (div_r false [49] 0 false [56] 0 35 w (may_con (by rfl)) (may_con (by rfl)) (by decide) (by decide) htab).mono ?_
  rintro e w' ⟨r, rfl, ⟨n, t, hn, ht, hr⟩, hB⟩
  obtain rfl : n = 35 := by have : max 0 (35 + (([56] : List UInt8).length : Int) - (([49] : List UInt8).length : Int)) = 35 := by decide
                            omega
  obtain rfl : t = 1 := ht.uniq (.inr (by decide +kernel))
  have : r = some ⟨false, [49, 50, 53], 3⟩ := hr.uniq (Dm.Rep.of_eqv (may_con (by rfl)) (by decide +kernel))
  subst this
  exact ⟨rfl, hB⟩
theorem div_23 (w : World) (htab : Pow w) (l : List UInt8) (hl : Hid (l = sixes)) : Calls Tryz.prog 12 #[.agg #[.bool false, .string ⟨#[50]⟩, .int .i64 0], .agg #[.bool false, .string ⟨#[51]⟩, .int .i64 0]] w fun e w' => e = .returned (.tuple #[.agg #[.bool false, .string ⟨l.toArray⟩, .int .i64 34], .int .i64 0]) ∧ Below w.heap.size w w' := by
  refine (div_r false [50] 0 false [51] 0 35 w (may_con (by rfl)) (may_con (by rfl)) (by decide) (by decide) htab).mono ?_
  rintro e w' ⟨r, rfl, ⟨n, t, hn, ht, hr⟩, hB⟩
  obtain rfl : n = 35 := by have : max 0 (35 + (([51] : List UInt8).length : Int) - (([50] : List UInt8).length : Int)) = 35 := by decide
                            omega
  obtain rfl : t = 1 := ht.uniq (.inr (by decide +kernel))
  have : r = some ⟨false, sixes, 34⟩ := hr.uniq (Dm.Rep.of_eqv (may_con (by rfl)) (by decide +kernel))
  subst this
  rw [unhide hl]
  exact ⟨rfl, hB⟩
theorem mod_725 (w : World) (htab : Pow w) : Calls Tryz.prog 14 #[.agg #[.bool true, .string ⟨#[55]⟩, .int .i64 0], .agg #[.bool false, .string ⟨#[50, 53]⟩, .int .i64 1]] w fun e w' => e = .returned (.tuple #[.agg #[.bool true, .string ⟨#[50]⟩, .int .i64 0], .int .i64 0]) ∧ Below w.heap.size w w' := by
  refine (mod_r true [55] 0 false [50, 53] 1 1 w (may_con (by rfl)) (may_con (by rfl)) (by decide) (by decide) htab).mono ?_
  rintro e w' ⟨r, rfl, hr, hB⟩
  have : r = some ⟨true, [50], 0⟩ := hr.uniq (Dm.Rep.of_eqv (may_con (by rfl)) (by decide +kernel))
  subst this
  exact ⟨rfl, hB⟩
theorem round_05 (w : World) (htab : Pow w) : Calls Tryz.prog 21 #[.agg #[.bool true, .string ⟨#[53]⟩, .int .i64 1]] w fun e w' => e = .returned (.tuple #[.agg #[.bool true, .string ⟨#[49]⟩, .int .i64 0], .int .i64 0]) ∧ Below w.heap.size w w' := by
  refine (round_r true [53] 1 true w (may_con (by rfl)) (by decide) htab).mono ?_
  rintro e w' ⟨r, rfl, hr, hB⟩
  have : r = some ⟨true, [49], 0⟩ := (unhide hr).uniq (Dm.Rep.of_eqv (may_con (by rfl)) (by decide +kernel))
  subst this
  exact ⟨rfl, hB⟩
end Go.Proofs.YtmlmplmghlbdmaaGreatDoor

namespace Go.Proofs.YtmlmplmghlbdmaaGreatDoor
open Go.RowKit
set_option linter.unusedVariables false
set_option linter.unusedSimpArgs false

/-- What lay there before is as it was. -/
def Since (w0 w : World) : Prop := Below w0.heap.size w0 w
theorem Since.next {w0 w w' : World} (h : Since w0 w) (hb : Below w.heap.size w w') : Since w0 w' := Below.trans h (hb.mono (Below.size h))
theorem Since.drew {w0 w : World} (h : Since w0 w) : Since w0 w.drew := h.next (Below.refl _ _).drew
theorem Has3.drew {b : Nat} {x y z : Value} {w : World} (h : Has3 b x y z w) : Has3 b x y z w.drew := h.next (Below.refl _ _).drew
theorem Since.start (w : World) : Since w w := Below.refl _ _

theorem num_0125' (l : List UInt8) (hl : Hid (l = [49, 50, 53])) (w : World) : Calls Tryz.prog 30 #[.string ⟨#[48, 46, 49, 50, 53]⟩] w fun e w' => e = .returned (.agg #[.bool false, .string ⟨l.toArray⟩, .int .i64 3]) ∧ Below w.heap.size w w' := by
  rw [unhide hl]; exact num_0125 w
theorem num_m2' (l : List UInt8) (hl : Hid (l = [50])) (w : World) : Calls Tryz.prog 30 #[.string ⟨#[45, 50]⟩] w fun e w' => e = .returned (.agg #[.bool true, .string ⟨l.toArray⟩, .int .i64 0]) ∧ Below w.heap.size w w' := by
  rw [unhide hl]; exact num_m2 w
theorem num_m1' (l : List UInt8) (hl : Hid (l = [49])) (w : World) : Calls Tryz.prog 30 #[.string ⟨#[45, 49]⟩] w fun e w' => e = .returned (.agg #[.bool true, .string ⟨l.toArray⟩, .int .i64 0]) ∧ Below w.heap.size w w' := by
  rw [unhide hl]; exact num_m1 w
theorem div_18' (l : List UInt8) (hl : Hid (l = [49, 50, 53])) (w : World) (htab : Pow w) : Calls Tryz.prog 12 #[.agg #[.bool false, .string ⟨#[49]⟩, .int .i64 0], .agg #[.bool false, .string ⟨#[56]⟩, .int .i64 0]] w fun e w' => e = .returned (.tuple #[.agg #[.bool false, .string ⟨l.toArray⟩, .int .i64 3], .int .i64 0]) ∧ Below w.heap.size w w' := by
  rw [unhide hl]; exact div_18 w htab
theorem mod_725' (l : List UInt8) (hl : Hid (l = [50])) (w : World) (htab : Pow w) : Calls Tryz.prog 14 #[.agg #[.bool true, .string ⟨#[55]⟩, .int .i64 0], .agg #[.bool false, .string ⟨#[50, 53]⟩, .int .i64 1]] w fun e w' => e = .returned (.tuple #[.agg #[.bool true, .string ⟨l.toArray⟩, .int .i64 0], .int .i64 0]) ∧ Below w.heap.size w w' := by
  rw [unhide hl]; exact mod_725 w htab
theorem round_05' (l : List UInt8) (hl : Hid (l = [49])) (w : World) (htab : Pow w) : Calls Tryz.prog 21 #[.agg #[.bool true, .string ⟨#[53]⟩, .int .i64 1]] w fun e w' => e = .returned (.tuple #[.agg #[.bool true, .string ⟨l.toArray⟩, .int .i64 0], .int .i64 0]) ∧ Below w.heap.size w w' := by
  rw [unhide hl]; exact round_05 w htab
set_option maxRecDepth 100000 in
set_option maxHeartbeats 4000000 in
theorem shown2 (w : World) (htab : Pow w) :
    Calls Tryz.prog 10 #[] w fun e w' => e = .returned (.bool true) ∧ Below w.heap.size w w' := by
  have hS := Since.start w
  obtain ⟨L, hL⟩ : ∃ L, L = sixes := ⟨_, rfl⟩
  have HL := hide hL
  clear hL
  obtain ⟨a, ha⟩ : ∃ a : List UInt8, a = [49, 50, 53] := ⟨_, rfl⟩
  have HA := hide ha
  clear ha
  obtain ⟨c, hc⟩ : ∃ c : List UInt8, c = [50] := ⟨_, rfl⟩
  have HC := hide hc
  clear hc
  obtain ⟨d, hd⟩ : ∃ d : List UInt8, d = [49] := ⟨_, rfl⟩
  have HD := hide hd
  clear hd
  have tok1 : True := trivial
  have tok2 : True := trivial
  have tok3 : True := trivial
  have tok4 : True := trivial
  go_enter Tryz.func10, Tryz.ntmps10
  go_wp2_with fail
  refine (num_1 _).mono ?_
  rintro e w1 ⟨rfl, hb1⟩
  replace hS := hS.next hb1
  clear hb1
  go_wp2_with fail
  refine (num_8 _).mono ?_
  rintro e w2 ⟨rfl, hb2⟩
  replace hS := hS.next hb2
  clear hb2
  go_wp2_with fail
  refine (div_18' a HA _ (htab.next hS)).mono ?_
  rintro e w3 ⟨rfl, hb3⟩
  replace hS := hS.next hb3
  clear hb3
  replace hS := hS.next ((Below.refl _ _).alloc (Nat.le_refl _) (.cells #[.bool false, .string ⟨a.toArray⟩, .int .i64 3] 23))
  have X := Has3.start w3 (.bool false) (.string ⟨a.toArray⟩) (.int .i64 3) 23
  obtain ⟨_, X0, X1, X2⟩ := id X
  go_wp2_with fail
  clear X0 X1 X2
  refine (num_2 _).mono ?_
  rintro e w4 ⟨rfl, hb4⟩
  replace hS := hS.next hb4
  replace X := X.next hb4
  clear hb4
  obtain ⟨_, X0, X1, X2⟩ := id X
  go_wp2_with fail
  clear X0 X1 X2
  refine (num_3 _).mono ?_
  rintro e w5 ⟨rfl, hb5⟩
  replace hS := hS.next hb5
  replace X := X.next hb5
  clear hb5
  obtain ⟨_, X0, X1, X2⟩ := id X
  go_wp2_with fail
  clear X0 X1 X2
  refine (div_23 _ (htab.next hS) L HL).mono ?_
  rintro e w6 ⟨rfl, hb6⟩
  replace hS := hS.next hb6
  replace X := X.next hb6
  clear hb6
  replace hS := hS.next ((Below.refl _ _).alloc (Nat.le_refl _) (.cells #[.bool false, .string ⟨L.toArray⟩, .int .i64 34] 23))
  replace X := X.next ((Below.refl _ _).alloc (Nat.le_refl _) (.cells #[.bool false, .string ⟨L.toArray⟩, .int .i64 34] 23))
  have Y := Has3.start w6 (.bool false) (.string ⟨L.toArray⟩) (.int .i64 34) 23
  obtain ⟨_, X0, X1, X2⟩ := id X
  obtain ⟨_, Y0, Y1, Y2⟩ := id Y
  go_wp2_with fail
  clear X0 X1 X2
  clear Y0 Y1 Y2
  refine (num_m7 _).mono ?_
  rintro e w7 ⟨rfl, hb7⟩
  replace hS := hS.next hb7
  replace X := X.next hb7
  replace Y := Y.next hb7
  clear hb7
  obtain ⟨_, X0, X1, X2⟩ := id X
  obtain ⟨_, Y0, Y1, Y2⟩ := id Y
  go_wp2_with fail
  clear X0 X1 X2
  clear Y0 Y1 Y2
  refine (num_25 _).mono ?_
  rintro e w8 ⟨rfl, hb8⟩
  replace hS := hS.next hb8
  replace X := X.next hb8
  replace Y := Y.next hb8
  clear hb8
  obtain ⟨_, X0, X1, X2⟩ := id X
  obtain ⟨_, Y0, Y1, Y2⟩ := id Y
  go_wp2_with fail
  clear X0 X1 X2
  clear Y0 Y1 Y2
  refine (mod_725' c HC _ (htab.next hS)).mono ?_
  rintro e w9 ⟨rfl, hb9⟩
  replace hS := hS.next hb9
  replace X := X.next hb9
  replace Y := Y.next hb9
  clear hb9
  replace hS := hS.next ((Below.refl _ _).alloc (Nat.le_refl _) (.cells #[.bool true, .string ⟨c.toArray⟩, .int .i64 0] 23))
  replace X := X.next ((Below.refl _ _).alloc (Nat.le_refl _) (.cells #[.bool true, .string ⟨c.toArray⟩, .int .i64 0] 23))
  replace Y := Y.next ((Below.refl _ _).alloc (Nat.le_refl _) (.cells #[.bool true, .string ⟨c.toArray⟩, .int .i64 0] 23))
  have Z := Has3.start w9 (.bool true) (.string ⟨c.toArray⟩) (.int .i64 0) 23
  obtain ⟨_, X0, X1, X2⟩ := id X
  obtain ⟨_, Y0, Y1, Y2⟩ := id Y
  obtain ⟨_, Z0, Z1, Z2⟩ := id Z
  go_wp2_with fail
  clear X0 X1 X2
  clear Y0 Y1 Y2
  clear Z0 Z1 Z2
  refine (num_m05 _).mono ?_
  rintro e w10 ⟨rfl, hb10⟩
  replace hS := hS.next hb10
  replace X := X.next hb10
  replace Y := Y.next hb10
  replace Z := Z.next hb10
  clear hb10
  obtain ⟨_, X0, X1, X2⟩ := id X
  obtain ⟨_, Y0, Y1, Y2⟩ := id Y
  obtain ⟨_, Z0, Z1, Z2⟩ := id Z
  go_wp2_with fail
  clear X0 X1 X2
  clear Y0 Y1 Y2
  clear Z0 Z1 Z2
  refine (round_05' d HD _ (htab.next hS)).mono ?_
  rintro e w11 ⟨rfl, hb11⟩
  replace hS := hS.next hb11
  replace X := X.next hb11
  replace Y := Y.next hb11
  replace Z := Z.next hb11
  clear hb11
  replace hS := hS.next ((Below.refl _ _).alloc (Nat.le_refl _) (.cells #[.bool true, .string ⟨d.toArray⟩, .int .i64 0] 23))
  replace X := X.next ((Below.refl _ _).alloc (Nat.le_refl _) (.cells #[.bool true, .string ⟨d.toArray⟩, .int .i64 0] 23))
  replace Y := Y.next ((Below.refl _ _).alloc (Nat.le_refl _) (.cells #[.bool true, .string ⟨d.toArray⟩, .int .i64 0] 23))
  replace Z := Z.next ((Below.refl _ _).alloc (Nat.le_refl _) (.cells #[.bool true, .string ⟨d.toArray⟩, .int .i64 0] 23))
  have U := Has3.start w11 (.bool true) (.string ⟨d.toArray⟩) (.int .i64 0) 23
  obtain ⟨_, X0, X1, X2⟩ := id X
  obtain ⟨_, Y0, Y1, Y2⟩ := id Y
  obtain ⟨_, Z0, Z1, Z2⟩ := id Z
  obtain ⟨_, U0, U1, U2⟩ := id U
  go_wp2_with fail
  go_region_held3 (fun w' => (w'.cell? ⟨w3.heap.size, 0, none⟩ = some (.bool false) ∧ w'.cell? ⟨w3.heap.size, 1, none⟩ = some (.string ⟨a.toArray⟩) ∧ w'.cell? ⟨w3.heap.size, 2, none⟩ = some (.int .i64 3)) ∧ (w'.cell? ⟨w6.heap.size, 0, none⟩ = some (.bool false) ∧ w'.cell? ⟨w6.heap.size, 1, none⟩ = some (.string ⟨L.toArray⟩) ∧ w'.cell? ⟨w6.heap.size, 2, none⟩ = some (.int .i64 34)) ∧ (w'.cell? ⟨w9.heap.size, 0, none⟩ = some (.bool true) ∧ w'.cell? ⟨w9.heap.size, 1, none⟩ = some (.string ⟨c.toArray⟩) ∧ w'.cell? ⟨w9.heap.size, 2, none⟩ = some (.int .i64 0)) ∧ (w'.cell? ⟨w11.heap.size, 0, none⟩ = some (.bool true) ∧ w'.cell? ⟨w11.heap.size, 1, none⟩ = some (.string ⟨d.toArray⟩) ∧ w'.cell? ⟨w11.heap.size, 2, none⟩ = some (.int .i64 0))) (first | exact ⟨X.2, Y.2, Z.2, U.2⟩ | exact ⟨X.drew.2, Y.drew.2, Z.drew.2, U.drew.2⟩) (first | (go_at_call 30; have _t := tok1; refine (num_0125' a HA _).mono ?_; rintro e w' ⟨rfl, hbw⟩; replace hS := Since.next (by first | exact hS | exact hS.drew) hbw; replace X := Has3.next (by first | exact X | exact X.drew) hbw; clear X0 X1 X2; obtain ⟨_, X0, X1, X2⟩ := id X; replace Y := Has3.next (by first | exact Y | exact Y.drew) hbw; clear Y0 Y1 Y2; obtain ⟨_, Y0, Y1, Y2⟩ := id Y; replace Z := Has3.next (by first | exact Z | exact Z.drew) hbw; clear Z0 Z1 Z2; obtain ⟨_, Z0, Z1, Z2⟩ := id Z; replace U := Has3.next (by first | exact U | exact U.drew) hbw; clear U0 U1 U2; obtain ⟨_, U0, U1, U2⟩ := id U; clear hbw tok1 _t) | (go_at_call 30; have _t := tok4; refine (num_23 _ (by rfl) L HL _).mono ?_; rintro e w' ⟨rfl, hbw⟩; replace hS := Since.next (by first | exact hS | exact hS.drew) hbw; replace X := Has3.next (by first | exact X | exact X.drew) hbw; clear X0 X1 X2; obtain ⟨_, X0, X1, X2⟩ := id X; replace Y := Has3.next (by first | exact Y | exact Y.drew) hbw; clear Y0 Y1 Y2; obtain ⟨_, Y0, Y1, Y2⟩ := id Y; replace Z := Has3.next (by first | exact Z | exact Z.drew) hbw; clear Z0 Z1 Z2; obtain ⟨_, Z0, Z1, Z2⟩ := id Z; replace U := Has3.next (by first | exact U | exact U.drew) hbw; clear U0 U1 U2; obtain ⟨_, U0, U1, U2⟩ := id U; clear hbw tok4 _t) | (go_at_call 30; have _t := tok2; refine (num_m2' c HC _).mono ?_; rintro e w' ⟨rfl, hbw⟩; replace hS := Since.next (by first | exact hS | exact hS.drew) hbw; replace X := Has3.next (by first | exact X | exact X.drew) hbw; clear X0 X1 X2; obtain ⟨_, X0, X1, X2⟩ := id X; replace Y := Has3.next (by first | exact Y | exact Y.drew) hbw; clear Y0 Y1 Y2; obtain ⟨_, Y0, Y1, Y2⟩ := id Y; replace Z := Has3.next (by first | exact Z | exact Z.drew) hbw; clear Z0 Z1 Z2; obtain ⟨_, Z0, Z1, Z2⟩ := id Z; replace U := Has3.next (by first | exact U | exact U.drew) hbw; clear U0 U1 U2; obtain ⟨_, U0, U1, U2⟩ := id U; clear hbw tok2 _t) | (go_at_call 30; have _t := tok3; refine (num_m1' d HD _).mono ?_; rintro e w' ⟨rfl, hbw⟩; replace hS := Since.next (by first | exact hS | exact hS.drew) hbw; replace X := Has3.next (by first | exact X | exact X.drew) hbw; clear X0 X1 X2; obtain ⟨_, X0, X1, X2⟩ := id X; replace Y := Has3.next (by first | exact Y | exact Y.drew) hbw; clear Y0 Y1 Y2; obtain ⟨_, Y0, Y1, Y2⟩ := id Y; replace Z := Has3.next (by first | exact Z | exact Z.drew) hbw; clear Z0 Z1 Z2; obtain ⟨_, Z0, Z1, Z2⟩ := id Z; replace U := Has3.next (by first | exact U | exact U.drew) hbw; clear U0 U1 U2; obtain ⟨_, U0, U1, U2⟩ := id U; clear hbw tok3 _t))
  all_goals
    go_wp2
    go_ret
    exact ⟨rfl, hS⟩
end Go.Proofs.YtmlmplmghlbdmaaGreatDoor

namespace Go.Proofs.YtmlmplmghlbdmaaGreatDoor
open Go.RowKit
set_option linter.unusedVariables false
set_option linter.unusedSimpArgs false

theorem rmay_b (ng : Bool) (s : ByteArray) (n : Int) (b : Bool) (w : World) (hs : s.size ≤ maxLen) (h : Dm.mayB ng s.data.toList n = b) :
    Calls Tryz.prog 16 #[.agg #[.bool ng, .string s, .int .i64 n]] w fun e w' => e = .returned (.bool b) ∧ Below w.heap.size w w' := by
  have := rmay_any ng s n w hs
  rw [h] at this; exact this
theorem may_split5 {x : Bool} {s : ByteArray} {n : Int} (h : Dm.mayB x s.data.toList n = true) : ∃ (l : List UInt8) (j : Nat), s = ⟨l.toArray⟩ ∧ n = (j : Int) ∧ Dm.May ⟨x, l, j⟩ := by
  have hmb := Dm.mayB_iff.1 h
  obtain ⟨j, rfl⟩ := Int.eq_ofNat_of_zero_le hmb.1
  refine ⟨s.data.toList, j, by simp, rfl, ?_⟩
  have := hmb.2
  rwa [Int.toNat_natCast] at this
theorem floor_c (x : Bool) (y : List UInt8) (z : Nat) (f1 : Bool) (f2 : List UInt8) (w : World) (h : Dm.May ⟨x, y, z⟩) (hf : Hid (∀ r, Dm.Rep (Dm.sgn x (Dm.num y / 10 ^ z + (decide (0 < z) && x).toNat)) 0 r → r = some ⟨f1, f2, 0⟩)) (htab : Pow w) :
    Calls Tryz.prog 17 #[.agg #[.bool x, .string ⟨y.toArray⟩, .int .i64 (z : Int)]] w fun e w' => e = .returned (.tuple #[.agg #[.bool f1, .string ⟨f2.toArray⟩, .int .i64 0], .int .i64 0]) ∧ Below w.heap.size w w' := by
  refine (floor_r x y z w h htab).mono ?_
  rintro e w' ⟨r, rfl, hr, hB⟩
  have := unhide hf r (unhide hr)
  subst this
  exact ⟨rfl, hB⟩
theorem ceil_c (x : Bool) (y : List UInt8) (z : Nat) (f1 : Bool) (f2 : List UInt8) (w : World) (h : Dm.May ⟨x, y, z⟩) (hf : Hid (∀ r, Dm.Rep (Dm.sgn x (Dm.num y / 10 ^ z + (decide (0 < z) && !x).toNat)) 0 r → r = some ⟨f1, f2, 0⟩)) (htab : Pow w) :
    Calls Tryz.prog 19 #[.agg #[.bool x, .string ⟨y.toArray⟩, .int .i64 (z : Int)]] w fun e w' => e = .returned (.tuple #[.agg #[.bool f1, .string ⟨f2.toArray⟩, .int .i64 0], .int .i64 0]) ∧ Below w.heap.size w w' := by
  refine (ceil_r x y z w h htab).mono ?_
  rintro e w' ⟨r, rfl, hr, hB⟩
  have := unhide hf r (unhide hr)
  subst this
  exact ⟨rfl, hB⟩
theorem round_c (x : Bool) (y : List UInt8) (z : Nat) (b : Bool) (f1 : Bool) (f2 : List UInt8) (w : World) (h : Dm.May ⟨x, y, z⟩) (hb : Hid ((decide (0 < z) && (decide (z ≤ y.length) && decide (53 ≤ (y.getD (y.length - z) 0).toNat))) = b)) (hf : Hid (∀ r, Dm.Rep (Dm.sgn x (Dm.num y / 10 ^ z + b.toNat)) 0 r → r = some ⟨f1, f2, 0⟩)) (htab : Pow w) :
    Calls Tryz.prog 21 #[.agg #[.bool x, .string ⟨y.toArray⟩, .int .i64 (z : Int)]] w fun e w' => e = .returned (.tuple #[.agg #[.bool f1, .string ⟨f2.toArray⟩, .int .i64 0], .int .i64 0]) ∧ Below w.heap.size w w' := by
  refine (round_r x y z b w h (unhide hb) htab).mono ?_
  rintro e w' ⟨r, rfl, hr, hB⟩
  have := unhide hf r (unhide hr)
  subst this
  exact ⟨rfl, hB⟩
theorem radd_c (f1 : Bool) (f2 : List UInt8) (c1 : Bool) (c2 : List UInt8) (w : World) (h : Dm.May ⟨f1, f2, 0⟩) (hf : Hid (∀ r, Dm.Rep (Dm.sg ⟨f1, f2, 0⟩ + 1) 0 r → r = some ⟨c1, c2, 0⟩)) :
    Calls Tryz.prog 27 #[.agg #[.bool f1, .string ⟨f2.toArray⟩, .int .i64 0], .agg #[.bool false, .string ⟨#[49]⟩, .int .i64 0]] w fun e w' => e = .returned (.tuple #[.agg #[.bool c1, .string ⟨c2.toArray⟩, .int .i64 0], .int .i64 0]) ∧ Below w.heap.size w w' := by
  refine (radd_r f1 f2 0 false [49] 0 w h (unit_may false)).mono ?_
  rintro e w' ⟨r, rfl, hr, hB⟩
  rw [unit_sg, Dm.p10_zero, Int.mul_one, Int.mul_one] at hr
  have := unhide hf r hr
  subst this
  exact ⟨rfl, hB⟩
theorem radd_u (f1 : Bool) (f2 : List UInt8) (w : World) (h : Dm.May ⟨f1, f2, 0⟩) :
    Calls Tryz.prog 27 #[.agg #[.bool f1, .string ⟨f2.toArray⟩, .int .i64 0], .agg #[.bool false, .string ⟨#[49]⟩, .int .i64 0]] w fun e w' => ∃ (o1 : Bool) (o2 : ByteArray) (o3 o4 : Int), e = .returned (.tuple #[.agg #[.bool o1, .string o2, .int .i64 o3], .int .i64 o4]) ∧ Below w.heap.size w w' := by
  refine (radd_r f1 f2 0 false [49] 0 w h (unit_may false)).mono ?_
  rintro e w' ⟨r, rfl, hr, hB⟩
  exact ⟨_, _, _, _, rfl, hB⟩
theorem rcmp_0 (x : Bool) (y : List UInt8) (x2 : Bool) (y2 : List UInt8) (z2 : Nat) (q : Int) (w : World) (h : Dm.May ⟨x, y, 0⟩) (h2 : Dm.May ⟨x2, y2, z2⟩) (hq : Hid (sgI (Dm.sg ⟨x, y, 0⟩ * Dm.p10 z2 - Dm.sg ⟨x2, y2, z2⟩ * Dm.p10 0) = q)) :
    Calls Tryz.prog 25 #[.agg #[.bool x, .string ⟨y.toArray⟩, .int .i64 0], .agg #[.bool x2, .string ⟨y2.toArray⟩, .int .i64 (z2 : Int)]] w fun e w' => e = .returned (.int .i64 q) ∧ Below w.heap.size w w' := rcmp_r x y 0 x2 y2 z2 q w h h2 (unhide hq)
theorem rcmp_1 (x : Bool) (y : List UInt8) (x2 : Bool) (y2 : List UInt8) (z2 : Nat) (q : Int) (w : World) (h : Dm.May ⟨x, y, 0⟩) (h2 : Dm.May ⟨x2, y2, z2⟩) (hq : Hid (sgI (Dm.sg ⟨x2, y2, z2⟩ * Dm.p10 0 - Dm.sg ⟨x, y, 0⟩ * Dm.p10 z2) = q)) :
    Calls Tryz.prog 25 #[.agg #[.bool x2, .string ⟨y2.toArray⟩, .int .i64 (z2 : Int)], .agg #[.bool x, .string ⟨y.toArray⟩, .int .i64 0]] w fun e w' => e = .returned (.int .i64 q) ∧ Below w.heap.size w w' := rcmp_r x2 y2 z2 x y 0 q w h2 h (unhide hq)
end Go.Proofs.YtmlmplmghlbdmaaGreatDoor

namespace Go.Proofs.YtmlmplmghlbdmaaGreatDoor
open Go.RowKit
set_option linter.unusedVariables false
set_option linter.unusedSimpArgs false

set_option maxRecDepth 100000 in
set_option maxHeartbeats 1000000 in
theorem mod_none (x : Bool) (y : ByteArray) (z : Int) (x2 : Bool) (z2 : Int) (w : World) :
    Calls Tryz.prog 14 #[.agg #[.bool x, .string y, .int .i64 z], .agg #[.bool x2, .string ⟨#[48]⟩, .int .i64 z2]] w fun e w' => e = .returned (.tuple #[.agg #[.bool false, .string ⟨#[]⟩, .int .i64 0], .int .i64 5]) ∧ Below w.heap.size w w' := by
  have ht := Tri.start w (.bool x) (.string y) (.int .i64 z) (.bool x2) (.string ⟨#[48]⟩) (.int .i64 z2) 23
  go_enter Tryz.func14, Tryz.ntmps14
  go_upto_region 1 with fail
  generalize ((w.alloc (.cells #[.bool x, .string y, .int .i64 z] 23)).alloc (.cells #[.bool x2, .string ⟨#[48]⟩, .int .i64 z2] 23)).alloc (.cells #[.bool false, .string ⟨#[]⟩, .int .i64 0] 23) = v at *
  obtain ⟨⟨c0, c1, c2⟩, ⟨d0, d1, d2⟩⟩ := ht.cells
  obtain ⟨⟨k0, k1, k2⟩, ⟨f0, f1, f2⟩⟩ := ht.out
  go_wp2
  exact bodyPost_ret (v := .tuple #[.agg #[.bool false, .string ⟨#[]⟩, .int .i64 0], .int .i64 5]) (by simp [results, Tryz.results14, go_sem, k0, k1, k2]) rfl ⟨rfl, ht.end _ _ _⟩
set_option maxRecDepth 100000 in
set_option maxHeartbeats 1000000 in
theorem div_none (x : Bool) (y : ByteArray) (z : Int) (x2 : Bool) (z2 : Int) (w : World) :
    Calls Tryz.prog 12 #[.agg #[.bool x, .string y, .int .i64 z], .agg #[.bool x2, .string ⟨#[48]⟩, .int .i64 z2]] w fun e w' => e = .returned (.tuple #[.agg #[.bool false, .string ⟨#[]⟩, .int .i64 0], .int .i64 5]) ∧ Below w.heap.size w w' := by
  have ht := Tri.start w (.bool x) (.string y) (.int .i64 z) (.bool x2) (.string ⟨#[48]⟩) (.int .i64 z2) 23
  go_enter Tryz.func12, Tryz.ntmps12
  go_upto_region 1 with fail
  generalize ((w.alloc (.cells #[.bool x, .string y, .int .i64 z] 23)).alloc (.cells #[.bool x2, .string ⟨#[48]⟩, .int .i64 z2] 23)).alloc (.cells #[.bool false, .string ⟨#[]⟩, .int .i64 0] 23) = v at *
  obtain ⟨⟨c0, c1, c2⟩, ⟨d0, d1, d2⟩⟩ := ht.cells
  obtain ⟨⟨k0, k1, k2⟩, ⟨f0, f1, f2⟩⟩ := ht.out
  go_wp2
  exact bodyPost_ret (v := .tuple #[.agg #[.bool false, .string ⟨#[]⟩, .int .i64 0], .int .i64 5]) (by simp [results, Tryz.results12, go_sem, k0, k1, k2]) rfl ⟨rfl, ht.end _ _ _⟩
set_option maxRecDepth 100000 in
set_option maxHeartbeats 1000000 in
theorem may_two (x : Bool) (y : ByteArray) (z : Int) (x2 : Bool) (y2 : ByteArray) (z2 : Int) (p q : Bool) (w : World) (hs : y.size ≤ maxLen) (hs2 : y2.size ≤ maxLen) (hp : Hid (Dm.mayB x y.data.toList z = p)) (hq : Hid (Dm.mayB x2 y2.data.toList z2 = q)) :
    Calls Tryz.prog 11 #[.agg #[.bool x, .string y, .int .i64 z], .agg #[.bool x2, .string y2, .int .i64 z2]] w fun e w' => e = .returned (.bool (p && q)) ∧ Below w.heap.size w w' := by
  have hS := Two.start w (.bool x) (.string y) (.int .i64 z) (.bool x2) (.string y2) (.int .i64 z2) 23
  obtain ⟨_, _, ⟨a0, a1, a2⟩, ⟨b0, b1, b2⟩⟩ := id hS
  go_enter Tryz.func11, Tryz.ntmps11
  go_wp2_with fail
  clear a0 a1 a2 b0 b1 b2
  refine (rmay_b x y z p _ hs (unhide hp)).mono ?_
  rintro e w1 ⟨rfl, hb1⟩
  replace hS := hS.next hb1
  obtain ⟨_, _, ⟨a0, a1, a2⟩, ⟨b0, b1, b2⟩⟩ := id hS
  go_wp2_with fail
  clear a0 a1 a2 b0 b1 b2
  refine (rmay_b x2 y2 z2 q _ hs2 (unhide hq)).mono ?_
  rintro e w2 ⟨rfl, hb2⟩
  replace hS := hS.next hb2
  cases p <;> cases q
  all_goals
    go_wp2
    go_ret
    exact ⟨rfl, hS.1⟩
/-- The other sign, but of 0. -/
def trn (x : Bool) (y : List UInt8) : Bool := if y = [48] then x else !x
set_option maxRecDepth 100000 in
set_option maxHeartbeats 1000000 in
theorem rturn_b (x : Bool) (y : List UInt8) (z : Int) (w : World) :
    Calls Tryz.prog 28 #[.agg #[.bool x, .string ⟨y.toArray⟩, .int .i64 z]] w fun e w' => e = .returned (.agg #[.bool (trn x y), .string ⟨y.toArray⟩, .int .i64 z]) ∧ Below w.heap.size w w' := by
  have hS := Box3.start w (.bool x) (.string ⟨y.toArray⟩) (.int .i64 z) 23
  have hP := Own3.start w (.bool x) (.string ⟨y.toArray⟩) (.int .i64 z) 23
  have hO := (Pair3.start w (.bool x) (.string ⟨y.toArray⟩) (.int .i64 z) 23).2
  have hA := (Below.refl (w.alloc (.cells #[.bool x, .string ⟨y.toArray⟩, .int .i64 z] 23)).heap.size _).alloc (Nat.le_refl _) (.cells #[.bool false, .string ⟨#[]⟩, .int .i64 0] 23)
  replace hS := hS.next hA
  replace hP := hP.next hA
  clear hA
  unfold trn
  by_cases hy : y = [48]
  · subst hy
    rw [if_pos rfl]
    go_enter Tryz.func28, Tryz.ntmps28
    go_upto_region 1 with fail
    generalize (w.alloc (.cells #[.bool x, .string ⟨#[48]⟩, .int .i64 z] 23)).alloc (.cells #[.bool false, .string ⟨#[]⟩, .int .i64 0] 23) = v at *
    obtain ⟨⟨_, a0, a1, a2⟩, s0, s1, s2⟩ := id hP
    obtain ⟨⟨_, o0, o1, o2⟩, f0, f1, f2⟩ := id hO
    go_wp2
    exact bodyPost_ret (v := .agg #[.bool x, .string ⟨#[48]⟩, .int .i64 z]) (by simp [results, Tryz.results28, go_sem, o0, o1, o2]) rfl ⟨rfl, set3_below hS.1 (by omega) _ _ _⟩
  · rw [if_neg hy]
    have q0 : (y == [48]) = false := beq_eq_false_iff_ne.2 hy
    go_enter Tryz.func28, Tryz.ntmps28
    go_upto_region 1 with fail
    generalize (w.alloc (.cells #[.bool x, .string ⟨y.toArray⟩, .int .i64 z] 23)).alloc (.cells #[.bool false, .string ⟨#[]⟩, .int .i64 0] 23) = v at *
    obtain ⟨⟨_, a0, a1, a2⟩, s0, s1, s2⟩ := id hP
    go_upto_region 3 with fail
    clear a0 a1 a2 s0 s1 s2
    have hb8 : Below w.heap.size w (v.setCell ⟨w.heap.size, 0, none⟩ (.bool (!x))) := hS.1.setCell (p := ⟨w.heap.size, 0, none⟩) (Nat.le_refl _) _
    have hO8 := hO.seto (c := w.heap.size) (i := 0) (by omega) (.bool (!x))
    have hP8 := hP.1.set0 (.bool (!x))
    generalize v.setCell ⟨w.heap.size, 0, none⟩ (.bool (!x)) = v8 at *
    clear hP hO hS
    obtain ⟨_, a0, a1, a2⟩ := id hP8
    obtain ⟨⟨_, o0, o1, o2⟩, f0, f1, f2⟩ := id hO8
    go_wp2
    exact bodyPost_ret (v := .agg #[.bool (!x), .string ⟨y.toArray⟩, .int .i64 z]) (by simp [results, Tryz.results28, go_sem, o0, o1, o2]) rfl ⟨rfl, set3_below hb8 (by omega) _ _ _⟩
theorem rmul_b (x : Bool) (y : List UInt8) (z : Nat) (x2 : Bool) (y2 : List UInt8) (z2 : Nat) (w : World) (ha : Dm.May ⟨x, y, z⟩) (hb : Dm.May ⟨x2, y2, z2⟩) :
    Calls Tryz.prog 26 #[.agg #[.bool x, .string ⟨y.toArray⟩, .int .i64 (z : Int)], .agg #[.bool x2, .string ⟨y2.toArray⟩, .int .i64 (z2 : Int)]] w fun e w' => ∃ r, e = .returned (.tuple #[.agg #[.bool (rx r), .string (ry r), .int .i64 (rz r)], .int .i64 (re r)]) ∧ Hid (Dm.Rep (Dm.sg ⟨x, y, z⟩ * Dm.sg ⟨x2, y2, z2⟩) (z + z2) r) ∧ Below w.heap.size w w' := by
  obtain ⟨a1, a2, a3⟩ := may_len ha
  obtain ⟨b1, b2, b3⟩ := may_len hb
  refine (rmul_walk x x2 ⟨y.toArray⟩ ⟨y2.toArray⟩ y y2 z z2 w (by rw [mk_size]; exact a1) (by rw [mk_size]; exact a2) (by rw [mk_size]; exact b2) a3 b3 (by rw [mk_list]; exact ha.1) (by rw [mk_list]; exact hb.1) rfl rfl).mono ?_
  rintro e w' ⟨r, rfl, hr, hB⟩
  refine ⟨r, rfl, hide ?_, hB⟩
  have e : Dm.sgn (x != x2) (Dm.num y * Dm.num y2) = Dm.sg ⟨x, y, z⟩ * Dm.sg ⟨x2, y2, z2⟩ := by
    unfold Dm.sg Dm.sgn
    cases x <;> cases x2 <;> simp [Int.neg_mul, Int.mul_neg]
  rw [e] at hr; exact hr
end Go.Proofs.YtmlmplmghlbdmaaGreatDoor
