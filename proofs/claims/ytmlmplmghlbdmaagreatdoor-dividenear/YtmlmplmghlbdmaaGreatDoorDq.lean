/- What is proved here: what the document's examples of package divide come to, walked; condition: the table of powers of ten lies in the world. -/
import Derived.Test.YtmlmplmghlbdmaaGreatDoorDp
import Derived.Test.YtmlmplmghlbdmaaGreatDoorUl
import Derived.Test.YtmlmplmghlbdmaaGreatDoorUc
namespace Go.Proofs.YtmlmplmghlbdmaaGreatDoor
open Go.RowKit
set_option linter.unusedVariables false
set_option linter.unusedSimpArgs false

theorem rparse_c (s : ByteArray) (x : Bool) (d : List UInt8) (z : Nat) (w : World) (hs : s.size ≤ 800) (h : Hid (Dm.parseL s.data.toList = some (some ⟨x, d, z⟩))) :
    Calls Tryz.prog 54 #[.string s] w fun e w' => e = .returned (.tuple #[.agg #[.bool x, .string ⟨d.toArray⟩, .int .i64 (z : Int)], .int .i64 0]) ∧ Below w.heap.size w w' := by
  have := rparse_any s w hs
  rw [unhide h] at this
  exact this
set_option maxRecDepth 100000 in
set_option maxHeartbeats 2000000 in
theorem num_c (s : ByteArray) (x : Bool) (d : List UInt8) (z : Nat) (w : World) (hs : s.size ≤ 800) (h : Hid (Dm.parseL s.data.toList = some (some ⟨x, d, z⟩))) :
    Calls Tryz.prog 30 #[.string s] w fun e w' => e = .returned (.agg #[.bool x, .string ⟨d.toArray⟩, .int .i64 (z : Int)]) ∧ Below w.heap.size w w' := by
  have hO := Own.start w
  go_enter Tryz.func30, Tryz.ntmps30
  go_wp2_with (go_at_call 54; refine (rparse_c s x d z _ hs h).mono ?_; rintro e w1 ⟨rfl, hb⟩; replace hO := hO.step hb; have hO2 := hO.step ((Below.refl w1.heap.size w1).alloc (Nat.le_refl _) (.cells #[.bool x, .string ⟨d.toArray⟩, .int .i64 (z : Int)] 23)); clear hb; obtain ⟨o0, o1, o2, f0, f1, f2⟩ := hO2.facts)
  exact bodyPost_ret (v := .agg #[.bool x, .string ⟨d.toArray⟩, .int .i64 (z : Int)]) (by simp [results, Tryz.results30, go_sem, o0, o1, o2]) rfl ⟨rfl, hO2.end _ _ _⟩
theorem num_z (s : ByteArray) (x : Bool) (d : List UInt8) (w : World) (hs : s.size ≤ 800) (h : Hid (Dm.parseL s.data.toList = some (some ⟨x, d, 0⟩))) :
    Calls Tryz.prog 30 #[.string s] w fun e w' => e = .returned (.agg #[.bool x, .string ⟨d.toArray⟩, .int .i64 0]) ∧ Below w.heap.size w w' := num_c s x d 0 w hs h
theorem num_1 (w : World) : Calls Tryz.prog 30 #[.string ⟨#[49]⟩] w fun e w' => e = .returned (.agg #[.bool false, .string ⟨#[49]⟩, .int .i64 0]) ∧ Below w.heap.size w w' := num_z ⟨#[49]⟩ false [49] w (by decide) (hide (by rfl))
theorem num_8 (w : World) : Calls Tryz.prog 30 #[.string ⟨#[56]⟩] w fun e w' => e = .returned (.agg #[.bool false, .string ⟨#[56]⟩, .int .i64 0]) ∧ Below w.heap.size w w' := num_z ⟨#[56]⟩ false [56] w (by decide) (hide (by rfl))
theorem num_2 (w : World) : Calls Tryz.prog 30 #[.string ⟨#[50]⟩] w fun e w' => e = .returned (.agg #[.bool false, .string ⟨#[50]⟩, .int .i64 0]) ∧ Below w.heap.size w w' := num_z ⟨#[50]⟩ false [50] w (by decide) (hide (by rfl))
theorem num_3 (w : World) : Calls Tryz.prog 30 #[.string ⟨#[51]⟩] w fun e w' => e = .returned (.agg #[.bool false, .string ⟨#[51]⟩, .int .i64 0]) ∧ Below w.heap.size w w' := num_z ⟨#[51]⟩ false [51] w (by decide) (hide (by rfl))
theorem num_m7 (w : World) : Calls Tryz.prog 30 #[.string ⟨#[45, 55]⟩] w fun e w' => e = .returned (.agg #[.bool true, .string ⟨#[55]⟩, .int .i64 0]) ∧ Below w.heap.size w w' := num_z ⟨#[45, 55]⟩ true [55] w (by decide) (hide (by rfl))
theorem num_25 (w : World) : Calls Tryz.prog 30 #[.string ⟨#[50, 46, 53]⟩] w fun e w' => e = .returned (.agg #[.bool false, .string ⟨#[50, 53]⟩, .int .i64 1]) ∧ Below w.heap.size w w' := num_c ⟨#[50, 46, 53]⟩ false [50, 53] 1 w (by decide) (hide (by rfl))
theorem num_m05 (w : World) : Calls Tryz.prog 30 #[.string ⟨#[45, 48, 46, 53]⟩] w fun e w' => e = .returned (.agg #[.bool true, .string ⟨#[53]⟩, .int .i64 1]) ∧ Below w.heap.size w w' := num_c ⟨#[45, 48, 46, 53]⟩ true [53] 1 w (by decide) (hide (by rfl))
theorem num_0125 (w : World) : Calls Tryz.prog 30 #[.string ⟨#[48, 46, 49, 50, 53]⟩] w fun e w' => e = .returned (.agg #[.bool false, .string ⟨#[49, 50, 53]⟩, .int .i64 3]) ∧ Below w.heap.size w w' := num_c ⟨#[48, 46, 49, 50, 53]⟩ false [49, 50, 53] 3 w (by decide) (hide (by rfl))
theorem num_m2 (w : World) : Calls Tryz.prog 30 #[.string ⟨#[45, 50]⟩] w fun e w' => e = .returned (.agg #[.bool true, .string ⟨#[50]⟩, .int .i64 0]) ∧ Below w.heap.size w w' := num_z ⟨#[45, 50]⟩ true [50] w (by decide) (hide (by rfl))
theorem num_m1 (w : World) : Calls Tryz.prog 30 #[.string ⟨#[45, 49]⟩] w fun e w' => e = .returned (.agg #[.bool true, .string ⟨#[49]⟩, .int .i64 0]) ∧ Below w.heap.size w w' := num_z ⟨#[45, 49]⟩ true [49] w (by decide) (hide (by rfl))
def sixes : List UInt8 := [54, 54, 54, 54, 54, 54, 54, 54, 54, 54, 54, 54, 54, 54, 54, 54, 54, 54, 54, 54, 54, 54, 54, 54, 54, 54, 54, 54, 54, 54, 54, 54, 54, 55]
theorem num_23 (s : ByteArray) (hs : s = ⟨(48 :: 46 :: sixes).toArray⟩) (l : List UInt8) (hl : Hid (l = sixes)) (w : World) : Calls Tryz.prog 30 #[.string s] w fun e w' => e = .returned (.agg #[.bool false, .string ⟨l.toArray⟩, .int .i64 34]) ∧ Below w.heap.size w w' := by
  rw [hs, unhide hl]
  exact num_c ⟨(48 :: 46 :: sixes).toArray⟩ false sixes 34 w (by decide) (hide (by rfl))

theorem may_1 : Dm.mayB false [49] 0 = true := by rfl
theorem may_con {x : Bool} {l : List UInt8} {z : Nat} (h : Dm.mayB x l (z : Int) = true) : Dm.May ⟨x, l, z⟩ := by
  have := (Dm.mayB_iff.1 h).2
  rw [Int.toNat_natCast] at this
  exact this
theorem div_18 (w : World) (htab : Pow w) : Calls Tryz.prog 12 #[.agg #[.bool false, .string ⟨#[49]⟩, .int .i64 0], .agg #[.bool false, .string ⟨#[56]⟩, .int .i64 0]] w fun e w' => e = .returned (.tuple #[.agg #[.bool false, .string ⟨#[49, 50, 53]⟩, .int .i64 3], .int .i64 0]) ∧ Below w.heap.size w w' := by
  refine (div_r false [49] 0 false [56] 0 35 w (may_con (by rfl)) (may_con (by rfl)) (by decide) (by decide) htab).mono ?_
  rintro e w' ⟨r, rfl, ⟨n, t, hn, ht, hr⟩, hB⟩
  obtain rfl : n = 35 := by have : max 0 (35 + (([56] : List UInt8).length : Int) - (([49] : List UInt8).length : Int)) = 35 := by decide
                            omega
  obtain rfl : t = 1 := ht.uniq (.inr (by decide +kernel))
  have : r = some ⟨false, [49, 50, 53], 3⟩ := hr.uniq (Dm.Rep.of_eqv (may_con (by rfl)) (by decide +kernel))
  subst this
  exact ⟨rfl, hB⟩
theorem div_23 (w : World) (htab : Pow w) (l : List UInt8) (hl : Hid (l = sixes)) : Calls Tryz.prog 12 #[.agg #[.bool false, .string ⟨#[50]⟩, .int .i64 0], .agg #[.bool false, .string ⟨#[51]⟩, .int .i64 0]] w fun e w' => e = .returned (.tuple #[.agg #[.bool false, .string ⟨l.toArray⟩, .int .i64 34], .int .i64 0]) ∧ Below w.heap.size w w' := by
  refine (div_r false [50] 0 false [51] 0 35 w (may_con (by rfl)) (may_con (by rfl)) (by decide) (by decide) htab).mono ?_
  rintro e w' ⟨r, rfl, ⟨n, t, hn, ht, hr⟩, hB⟩
  obtain rfl : n = 35 := by have : max 0 (35 + (([51] : List UInt8).length : Int) - (([50] : List UInt8).length : Int)) = 35 := by decide
                            omega
  obtain rfl : t = 1 := ht.uniq (.inr (by decide +kernel))
  have : r = some ⟨false, sixes, 34⟩ := hr.uniq (Dm.Rep.of_eqv (may_con (by rfl)) (by decide +kernel))
  subst this
  rw [unhide hl]
  exact ⟨rfl, hB⟩
theorem mod_725 (w : World) (htab : Pow w) : Calls Tryz.prog 14 #[.agg #[.bool true, .string ⟨#[55]⟩, .int .i64 0], .agg #[.bool false, .string ⟨#[50, 53]⟩, .int .i64 1]] w fun e w' => e = .returned (.tuple #[.agg #[.bool true, .string ⟨#[50]⟩, .int .i64 0], .int .i64 0]) ∧ Below w.heap.size w w' := by
  refine (mod_r true [55] 0 false [50, 53] 1 1 w (may_con (by rfl)) (may_con (by rfl)) (by decide) (by decide) htab).mono ?_
  rintro e w' ⟨r, rfl, hr, hB⟩
  have : r = some ⟨true, [50], 0⟩ := hr.uniq (Dm.Rep.of_eqv (may_con (by rfl)) (by decide +kernel))
  subst this
  exact ⟨rfl, hB⟩
theorem round_05 (w : World) (htab : Pow w) : Calls Tryz.prog 21 #[.agg #[.bool true, .string ⟨#[53]⟩, .int .i64 1]] w fun e w' => e = .returned (.tuple #[.agg #[.bool true, .string ⟨#[49]⟩, .int .i64 0], .int .i64 0]) ∧ Below w.heap.size w w' := by
  refine (round_r true [53] 1 true w (may_con (by rfl)) (by decide) htab).mono ?_
  rintro e w' ⟨r, rfl, hr, hB⟩
  have : r = some ⟨true, [49], 0⟩ := (unhide hr).uniq (Dm.Rep.of_eqv (may_con (by rfl)) (by decide +kernel))
  subst this
  exact ⟨rfl, hB⟩
end Go.Proofs.YtmlmplmghlbdmaaGreatDoor
