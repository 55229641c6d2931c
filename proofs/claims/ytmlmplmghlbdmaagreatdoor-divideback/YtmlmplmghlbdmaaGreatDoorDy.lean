/- What is proved here: what the law DivideBack does with any two decimals, walked; condition: the table of powers of ten lies in the world. What is proved here: what the law DivideSteps does with any two decimals and any byte, walked; condition: the table of powers of ten lies in the world. What is proved here: what the law DivideTurns does with any two decimals, walked; condition: the table of powers of ten lies in the world. -/
import Derived.Test.YtmlmplmghlbdmaaGreatDoorDv
namespace Go.Proofs.YtmlmplmghlbdmaaGreatDoor
open Go.RowKit
set_option linter.unusedVariables false
set_option linter.unusedSimpArgs false

theorem may_both (x : Bool) (y : ByteArray) (z : Int) (x2 : Bool) (y2 : ByteArray) (z2 : Int) (m : Bool) (w : World) (hs : y.size ≤ maxLen) (hs2 : y2.size ≤ maxLen) (hm : Hid ((Dm.mayB x y.data.toList z && Dm.mayB x2 y2.data.toList z2) = m)) :
    Calls Tryz.prog 11 #[.agg #[.bool x, .string y, .int .i64 z], .agg #[.bool x2, .string y2, .int .i64 z2]] w fun e w' => e = .returned (.bool m) ∧ Below w.heap.size w w' := by
  have := may_two x y z x2 y2 z2 _ _ w hs hs2 (hide rfl) (hide rfl)
  rw [unhide hm] at this
  exact this
theorem may_d (x : Bool) (y : List UInt8) (z : Nat) (x2 : Bool) (y2 : List UInt8) (z2 : Nat) (w : World) (h : Dm.May ⟨x, y, z⟩) (h2 : Dm.May ⟨x2, y2, z2⟩) :
    Calls Tryz.prog 11 #[.agg #[.bool x, .string ⟨y.toArray⟩, .int .i64 (z : Int)], .agg #[.bool x2, .string ⟨y2.toArray⟩, .int .i64 (z2 : Int)]] w fun e w' => e = .returned (.bool true) ∧ Below w.heap.size w w' := by
  have l1 := (may_len h).2.1
  have l2 := (may_len h2).2.1
  simp only at l1 l2
  have := may_two x ⟨y.toArray⟩ z x2 ⟨y2.toArray⟩ z2 true true w (by rw [mk_size]; unfold maxLen; omega) (by rw [mk_size]; unfold maxLen; omega) (hide (dV_may h)) (hide (dV_may h2))
  exact this
theorem mod_b (x : Bool) (y : List UInt8) (z : Nat) (x2 : Bool) (y2 : List UInt8) (z2 n : Nat) (w : World) (h : Dm.May ⟨x, y, z⟩) (h2 : Dm.May ⟨x2, y2, z2⟩) (hne : y2 ≠ [48]) (hn : max (z : Int) (z2 : Int) = (n : Int)) (htab : Pow w) :
    Calls Tryz.prog 14 #[.agg #[.bool x, .string ⟨y.toArray⟩, .int .i64 (z : Int)], .agg #[.bool x2, .string ⟨y2.toArray⟩, .int .i64 (z2 : Int)]] w fun e w' => ∃ r, e = .returned (.tuple #[.agg #[.bool (rx r), .string (ry r), .int .i64 (rz r)], .int .i64 (re r)]) ∧ Hid (Dm.Rep (Dm.sgn x ((Dm.num y * 10 ^ (n - z)) % (Dm.num y2 * 10 ^ (n - z2)))) n r) ∧ Below w.heap.size w w' := by
  refine (mod_r x y z x2 y2 z2 n w h h2 hne hn htab).mono ?_
  rintro e w' ⟨r, rfl, hr, hB⟩
  exact ⟨r, rfl, hide hr, hB⟩
theorem max_ex (a b : Nat) : ∃ n : Nat, max (a : Int) (b : Int) = (n : Int) := ⟨max a b, by omega⟩
/-- Of a product divided by its second the first is left. -/
theorem div_bk (a1 : Bool) (a2 : List UInt8) (a3 : Nat) (b1 : Bool) (b2 : List UInt8) (b3 : Nat) (p1 : Bool) (p2 : List UInt8) (p3 : Nat) (w : World) (ha : Dm.May ⟨a1, a2, a3⟩) (hb : Dm.May ⟨b1, b2, b3⟩) (hb0 : b2 ≠ [48]) (hl : a2.length ≤ 34) (hp : Hid (Dm.Rep (Dm.sg ⟨a1, a2, a3⟩ * Dm.sg ⟨b1, b2, b3⟩) (a3 + b3) (some ⟨p1, p2, p3⟩))) (htab : Pow w) :
    Calls Tryz.prog 12 #[.agg #[.bool p1, .string ⟨p2.toArray⟩, .int .i64 (p3 : Int)], .agg #[.bool b1, .string ⟨b2.toArray⟩, .int .i64 (b3 : Int)]] w fun e w' => e = .returned (.tuple #[.agg #[.bool a1, .string ⟨a2.toArray⟩, .int .i64 (a3 : Int)], .int .i64 0]) ∧ Below w.heap.size w w' := by
  obtain ⟨n, hn⟩ : ∃ n : Nat, max 0 (35 + (b2.length : Int) - (p2.length : Int)) = (n : Int) := ⟨(max 0 (35 + (b2.length : Int) - (p2.length : Int))).toNat, by omega⟩
  refine (div_r p1 p2 p3 b1 b2 b3 n w (unhide hp).1 hb hb0 hn htab).mono ?_
  rintro e w' ⟨r, rfl, hr, hB⟩
  have := Dm.div_back (a := ⟨a1, a2, a3⟩) (b := ⟨b1, b2, b3⟩) (p := ⟨p1, p2, p3⟩) ha hb hb0 (unhide hp) hl hr
  subst this
  exact ⟨rfl, hB⟩
theorem mod_bk (a1 : Bool) (a2 : List UInt8) (a3 : Nat) (b1 : Bool) (b2 : List UInt8) (p1 : Bool) (p2 : List UInt8) (p3 : Nat) (w : World) (ha : Dm.May ⟨a1, a2, a3⟩) (hb : Dm.May ⟨b1, b2, 0⟩) (ha0 : a2 ≠ [48]) (hb0 : b2 ≠ [48]) (hp : Hid (Dm.Rep (Dm.sg ⟨a1, a2, a3⟩ * Dm.sg ⟨b1, b2, 0⟩) (a3 + 0) (some ⟨p1, p2, p3⟩))) (htab : Pow w) :
    Calls Tryz.prog 14 #[.agg #[.bool p1, .string ⟨p2.toArray⟩, .int .i64 (p3 : Int)], .agg #[.bool a1, .string ⟨a2.toArray⟩, .int .i64 (a3 : Int)]] w fun e w' => e = .returned (.tuple #[.agg #[.bool false, .string ⟨#[48]⟩, .int .i64 0], .int .i64 0]) ∧ Below w.heap.size w w' := by
  obtain ⟨n, hn⟩ := max_ex p3 a3
  refine (mod_r p1 p2 p3 a1 a2 a3 n w (unhide hp).1 ha ha0 hn htab).mono ?_
  rintro e w' ⟨r, rfl, hr, hB⟩
  have := Dm.mod_back (a := ⟨a1, a2, a3⟩) (b := ⟨b1, b2, 0⟩) (p := ⟨p1, p2, p3⟩) ha hb ha0 hb0 rfl (unhide hp) hn hr
  subst this
  exact ⟨rfl, hB⟩
theorem abs_may {x : Bool} {y : List UInt8} {z : Nat} (h : Dm.May ⟨x, y, z⟩) : Dm.May ⟨false, y, z⟩ := by
  obtain ⟨h1, h2, h3, h4⟩ := h
  refine ⟨h1, h2, h3, ?_⟩
  rcases h4 with ⟨g1, g2, _⟩ | g
  · exact .inl ⟨g1, g2, rfl⟩
  · exact .inr g
theorem less_sg {m2 b2 : List UInt8} {m3 b3 : Nat} (h : Dm.num m2 * 10 ^ b3 < Dm.num b2 * 10 ^ m3) : sgI (Dm.sg ⟨false, m2, m3⟩ * Dm.p10 b3 - Dm.sg ⟨false, b2, b3⟩ * Dm.p10 m3) = -1 := by
  have e1 : Dm.sg ⟨false, m2, m3⟩ * Dm.p10 b3 = ((Dm.num m2 * 10 ^ b3 : Nat) : Int) := by rw [Int.natCast_mul]; rfl
  have e2 : Dm.sg ⟨false, b2, b3⟩ * Dm.p10 m3 = ((Dm.num b2 * 10 ^ m3 : Nat) : Int) := by rw [Int.natCast_mul]; rfl
  rw [e1, e2]
  unfold sgI
  rw [if_pos (by omega)]
theorem rcmp_b (x : Bool) (y : List UInt8) (z : Nat) (x2 : Bool) (y2 : List UInt8) (z2 : Nat) (q : Int) (w : World) (h : Dm.May ⟨x, y, z⟩) (h2 : Dm.May ⟨x2, y2, z2⟩) (hq : Hid (sgI (Dm.sg ⟨x, y, z⟩ * Dm.p10 z2 - Dm.sg ⟨x2, y2, z2⟩ * Dm.p10 z) = q)) :
    Calls Tryz.prog 25 #[.agg #[.bool x, .string ⟨y.toArray⟩, .int .i64 (z : Int)], .agg #[.bool x2, .string ⟨y2.toArray⟩, .int .i64 (z2 : Int)]] w fun e w' => e = .returned (.int .i64 q) ∧ Below w.heap.size w w' := rcmp_r x y z x2 y2 z2 q w h h2 (unhide hq)

set_option maxRecDepth 100000 in
set_option maxHeartbeats 2000000 in
theorem back_no (x1 : Bool) (s1 : ByteArray) (n1 : Int) (x2 : Bool) (s2 : ByteArray) (n2 : Int) (w : World) (hs1 : s1.size ≤ maxLen) (hs2 : s2.size ≤ maxLen) (hm : (Dm.mayB x1 s1.data.toList n1 && Dm.mayB x2 s2.data.toList n2) = false) (htab : Pow w) :
    Calls Tryz.prog 5 #[.agg #[.bool x1, .string s1, .int .i64 n1], .agg #[.bool x2, .string s2, .int .i64 n2]] w fun e w' => e = .returned (.bool true) ∧ Below w.heap.size w w' := by
  have hS := Two.start w (.bool x1) (.string s1) (.int .i64 n1) (.bool x2) (.string s2) (.int .i64 n2) 23
  have HM := hide hm
  clear hm
  go_enter Tryz.func5, Tryz.ntmps5
  obtain ⟨_, _, ⟨a0, a01, a02⟩, ⟨b0, b01, b02⟩⟩ := id hS
  go_wp2_with fail
  clear a0 a01 a02 b0 b01 b02
  refine (shown2 _ (htab.next hS.1)).mono ?_
  rintro e w1 ⟨rfl, hb1⟩
  replace hS := hS.next hb1
  clear hb1
  obtain ⟨_, _, ⟨a0, a01, a02⟩, ⟨b0, b01, b02⟩⟩ := id hS
  go_wp2_with fail
  clear a0 a01 a02 b0 b01 b02
  refine (may_both x1 s1 n1 x2 s2 n2 false _ hs1 hs2 HM).mono ?_
  rintro e w2 ⟨rfl, hb2⟩
  replace hS := hS.next hb2
  clear hb2
  replace hS := hS.next ((Below.refl _ _).alloc (Nat.le_refl _) (.cells #[.bool false, .string ⟨#[48]⟩, .int .i64 0] 23))
  have Z := Has3.start w2 (.bool false) (.string ⟨#[48]⟩) (.int .i64 0) 23
  obtain ⟨_, _, ⟨a0, a01, a02⟩, ⟨b0, b01, b02⟩⟩ := id hS
  obtain ⟨_, Z0, Z1, Z2⟩ := id Z
  go_wp2
  go_ret
  exact ⟨rfl, hS.1⟩
set_option maxRecDepth 100000 in
set_option maxHeartbeats 4000000 in
theorem back_zero (a1 : Bool) (a2 : List UInt8) (a3 : Nat) (w : World) (ha : Dm.May ⟨a1, a2, a3⟩) (htab : Pow w) :
    Calls Tryz.prog 5 #[.agg #[.bool a1, .string ⟨a2.toArray⟩, .int .i64 (a3 : Int)], .agg #[.bool false, .string ⟨#[48]⟩, .int .i64 0]] w fun e w' => e = .returned (.bool true) ∧ Below w.heap.size w w' := by
  have hS := Two.start w (.bool a1) (.string ⟨a2.toArray⟩) (.int .i64 (a3 : Int)) (.bool false) (.string ⟨#[48]⟩) (.int .i64 0) 23
  go_enter Tryz.func5, Tryz.ntmps5
  obtain ⟨_, _, ⟨a0, a01, a02⟩, ⟨b0, b01, b02⟩⟩ := id hS
  go_wp2_with fail
  clear a0 a01 a02 b0 b01 b02
  refine (shown2 _ (htab.next hS.1)).mono ?_
  rintro e w1 ⟨rfl, hb1⟩
  replace hS := hS.next hb1
  clear hb1
  obtain ⟨_, _, ⟨a0, a01, a02⟩, ⟨b0, b01, b02⟩⟩ := id hS
  go_wp2_with fail
  clear a0 a01 a02 b0 b01 b02
  refine (may_d a1 a2 a3 false [48] 0 _ ha Dm.zero_may).mono ?_
  rintro e w2 ⟨rfl, hb2⟩
  replace hS := hS.next hb2
  clear hb2
  replace hS := hS.next ((Below.refl _ _).alloc (Nat.le_refl _) (.cells #[.bool false, .string ⟨#[48]⟩, .int .i64 0] 23))
  have Z := Has3.start w2 (.bool false) (.string ⟨#[48]⟩) (.int .i64 0) 23
  obtain ⟨_, _, ⟨a0, a01, a02⟩, ⟨b0, b01, b02⟩⟩ := id hS
  obtain ⟨_, Z0, Z1, Z2⟩ := id Z
  go_wp2_with fail
  clear a0 a01 a02 b0 b01 b02
  clear Z0 Z1 Z2
  refine (mod_none a1 ⟨a2.toArray⟩ (a3 : Int) false 0 _).mono ?_
  rintro e w3 ⟨rfl, hb3⟩
  replace hS := hS.next hb3
  replace Z := Z.next hb3
  clear hb3
  replace hS := hS.next ((Below.refl _ _).alloc (Nat.le_refl _) (.cells #[.bool false, .string ⟨#[]⟩, .int .i64 0] 23))
  replace Z := Z.next ((Below.refl _ _).alloc (Nat.le_refl _) (.cells #[.bool false, .string ⟨#[]⟩, .int .i64 0] 23))
  have M := Has3.start w3 (.bool false) (.string ⟨#[]⟩) (.int .i64 0) 23
  obtain ⟨_, _, ⟨a0, a01, a02⟩, ⟨b0, b01, b02⟩⟩ := id hS
  obtain ⟨_, Z0, Z1, Z2⟩ := id Z
  obtain ⟨_, M0, M1, M2⟩ := id M
  go_wp2_with fail
  clear a0 a01 a02 b0 b01 b02
  clear Z0 Z1 Z2
  clear M0 M1 M2
  refine (div_none a1 ⟨a2.toArray⟩ (a3 : Int) false 0 _).mono ?_
  rintro e w4 ⟨rfl, hb4⟩
  replace hS := hS.next hb4
  replace Z := Z.next hb4
  replace M := M.next hb4
  clear hb4
  replace hS := hS.next ((Below.refl _ _).alloc (Nat.le_refl _) (.cells #[.bool false, .string ⟨#[]⟩, .int .i64 0] 23))
  replace Z := Z.next ((Below.refl _ _).alloc (Nat.le_refl _) (.cells #[.bool false, .string ⟨#[]⟩, .int .i64 0] 23))
  replace M := M.next ((Below.refl _ _).alloc (Nat.le_refl _) (.cells #[.bool false, .string ⟨#[]⟩, .int .i64 0] 23))
  have Q := Has3.start w4 (.bool false) (.string ⟨#[]⟩) (.int .i64 0) 23
  obtain ⟨_, _, ⟨a0, a01, a02⟩, ⟨b0, b01, b02⟩⟩ := id hS
  obtain ⟨_, Z0, Z1, Z2⟩ := id Z
  obtain ⟨_, M0, M1, M2⟩ := id M
  obtain ⟨_, Q0, Q1, Q2⟩ := id Q
  go_wp2
  go_ret
  exact ⟨rfl, hS.1⟩
set_option maxRecDepth 100000 in
set_option maxHeartbeats 8000000 in
theorem back_pos (a1 : Bool) (a2 : List UInt8) (a3 : Nat) (b1 : Bool) (b2 : List UInt8) (b3 : Nat) (w : World) (ha : Dm.May ⟨a1, a2, a3⟩) (hb : Dm.May ⟨b1, b2, b3⟩) (hb0 : b2 ≠ [48]) (htab : Pow w) :
    Calls Tryz.prog 5 #[.agg #[.bool a1, .string ⟨a2.toArray⟩, .int .i64 (a3 : Int)], .agg #[.bool b1, .string ⟨b2.toArray⟩, .int .i64 (b3 : Int)]] w fun e w' => e = .returned (.bool true) ∧ Below w.heap.size w w' := by
  have hS := Two.start w (.bool a1) (.string ⟨a2.toArray⟩) (.int .i64 (a3 : Int)) (.bool b1) (.string ⟨b2.toArray⟩) (.int .i64 (b3 : Int)) 23
  have q0 : (b2 == [48]) = false := beq_eq_false_iff_ne.2 hb0
  obtain ⟨n, hn⟩ := max_ex a3 b3
  have HN := hide hn
  clear hn
  go_enter Tryz.func5, Tryz.ntmps5
  obtain ⟨_, _, ⟨a0, a01, a02⟩, ⟨b0, b01, b02⟩⟩ := id hS
  go_wp2_with fail
  clear a0 a01 a02 b0 b01 b02
  refine (shown2 _ (htab.next hS.1)).mono ?_
  rintro e w1 ⟨rfl, hb1⟩
  replace hS := hS.next hb1
  clear hb1
  obtain ⟨_, _, ⟨a0, a01, a02⟩, ⟨b0, b01, b02⟩⟩ := id hS
  go_wp2_with fail
  clear a0 a01 a02 b0 b01 b02
  refine (may_d a1 a2 a3 b1 b2 b3 _ ha hb).mono ?_
  rintro e w2 ⟨rfl, hb2⟩
  replace hS := hS.next hb2
  clear hb2
  replace hS := hS.next ((Below.refl _ _).alloc (Nat.le_refl _) (.cells #[.bool false, .string ⟨#[48]⟩, .int .i64 0] 23))
  have Z := Has3.start w2 (.bool false) (.string ⟨#[48]⟩) (.int .i64 0) 23
  obtain ⟨_, _, ⟨a0, a01, a02⟩, ⟨b0, b01, b02⟩⟩ := id hS
  obtain ⟨_, Z0, Z1, Z2⟩ := id Z
  go_wp2_with fail
  clear a0 a01 a02 b0 b01 b02
  clear Z0 Z1 Z2
  refine (mod_b a1 a2 a3 b1 b2 b3 n _ ha hb hb0 (unhide HN) (htab.next hS.1)).mono ?_
  rintro e w3 ⟨r, rfl, HR, hb3⟩
  replace hS := hS.next hb3
  replace Z := Z.next hb3
  clear hb3
  have lz : w2.heap.size < w3.heap.size := Z.1
  generalize hz0 : rx r = r_0
  have rZ0 := hide hz0
  clear hz0
  generalize hz1 : ry r = r_1
  have rZ1 := hide hz1
  clear hz1
  generalize hz2 : rz r = r_2
  have rZ2 := hide hz2
  clear hz2
  generalize hz3 : re r = r_3
  have rZ3 := hide hz3
  clear hz3
  replace hS := hS.next ((Below.refl _ _).alloc (Nat.le_refl _) (.cells #[.bool r_0, .string r_1, .int .i64 r_2] 23))
  replace Z := Z.next ((Below.refl _ _).alloc (Nat.le_refl _) (.cells #[.bool r_0, .string r_1, .int .i64 r_2] 23))
  have M := Has3.start w3 (.bool r_0) (.string r_1) (.int .i64 r_2) 23
  obtain ⟨_, _, ⟨a0, a01, a02⟩, ⟨b0, b01, b02⟩⟩ := id hS
  obtain ⟨_, Z0, Z1, Z2⟩ := id Z
  obtain ⟨_, M0, M1, M2⟩ := id M
  go_upto_if 53 with fail
  clear a0 a01 a02 b0 b01 b02
  clear Z0 Z1 Z2
  clear M0 M1 M2
  go_cut [8, 9, 12, 13] from 20 to 73 (fun v8 v9 v12 v13 wx => Two w (.bool a1) (.string ⟨a2.toArray⟩) (.int .i64 (a3 : Int)) (.bool b1) (.string ⟨b2.toArray⟩) (.int .i64 (b3 : Int)) wx ∧ Has3 w2.heap.size (.bool false) (.string ⟨#[48]⟩) (.int .i64 0) wx)
  case first =>
    as_aux_lemma =>
      cases r with
      | none =>
        obtain rfl := unhide rZ3
        simp only [re]
        obtain ⟨_, _, ⟨a0, a01, a02⟩, ⟨b0, b01, b02⟩⟩ := id hS
        obtain ⟨_, Z0, Z1, Z2⟩ := id Z
        obtain ⟨_, M0, M1, M2⟩ := id M
        go_wp2_with fail
        go_meet
        case rel => exact ⟨hS, Z⟩
      | some m =>
        obtain ⟨m1, m2, m3⟩ := m
        obtain rfl : m1 = r_0 := unhide rZ0
        obtain rfl : r_1 = ⟨m2.toArray⟩ := (unhide rZ1).symm
        obtain rfl : r_2 = (m3 : Int) := (unhide rZ2).symm
        obtain rfl : r_3 = 0 := (unhide rZ3).symm
        have hr := unhide HR
        have mm : Dm.May ⟨m1, m2, m3⟩ := hr.1
        have hlt := Dm.mod_less (a := ⟨a1, a2, a3⟩) (b := ⟨b1, b2, b3⟩) (m := ⟨m1, m2, m3⟩) hb (Dm.lead_of hb hb0).2 (unhide HN) hr
        have QC := hide (less_sg (m2 := m2) (b2 := b2) (m3 := m3) (b3 := b3) hlt)
        have hsg : m2 ≠ [48] → m1 = a1 := fun h0 => Dm.mod_sign (a := ⟨a1, a2, a3⟩) (b := ⟨b1, b2, b3⟩) (m := ⟨m1, m2, m3⟩) hr h0
        have HSG := hide hsg
        clear hr hlt hsg HR rZ0 rZ1 rZ2 rZ3
        have lm : w3.heap.size < (w3.alloc (.cells #[.bool m1, .string ⟨m2.toArray⟩, .int .i64 (m3 : Int)] 23)).heap.size := M.1
        have ls : w.heap.size + 1 < (w3.alloc (.cells #[.bool m1, .string ⟨m2.toArray⟩, .int .i64 (m3 : Int)] 23)).heap.size := hS.2.1
        have lz2 : w2.heap.size < (w3.alloc (.cells #[.bool m1, .string ⟨m2.toArray⟩, .int .i64 (m3 : Int)] 23)).heap.size := Z.1
        generalize (w3.alloc (.cells #[.bool m1, .string ⟨m2.toArray⟩, .int .i64 (m3 : Int)] 23)) = v0 at *
        obtain ⟨_, _, ⟨a0, a01, a02⟩, ⟨b0, b01, b02⟩⟩ := id hS
        obtain ⟨_, Z0, Z1, Z2⟩ := id Z
        obtain ⟨_, M0, M1, M2⟩ := id M
        go_upto_region 12 with fail
        clear a0 a01 a02 b0 b01 b02
        clear Z0 Z1 Z2
        clear M0 M1 M2
        have G := Own3.start v0 (.bool b1) (.string ⟨b2.toArray⟩) (.int .i64 (b3 : Int)) 23
        replace hS := hS.next ((Below.refl _ _).alloc (Nat.le_refl _) (.cells #[.bool b1, .string ⟨b2.toArray⟩, .int .i64 (b3 : Int)] 23))
        replace Z := Z.next ((Below.refl _ _).alloc (Nat.le_refl _) (.cells #[.bool b1, .string ⟨b2.toArray⟩, .int .i64 (b3 : Int)] 23))
        replace M := M.next ((Below.refl _ _).alloc (Nat.le_refl _) (.cells #[.bool b1, .string ⟨b2.toArray⟩, .int .i64 (b3 : Int)] 23))
        generalize v0.alloc (.cells #[.bool b1, .string ⟨b2.toArray⟩, .int .i64 (b3 : Int)] 23) = v1 at *
        obtain ⟨_, _, ⟨a0, a01, a02⟩, ⟨b0, b01, b02⟩⟩ := id hS
        obtain ⟨_, Z0, Z1, Z2⟩ := id Z
        obtain ⟨_, M0, M1, M2⟩ := id M
        obtain ⟨⟨_, g0, g1, g2⟩, s0, s1, s2⟩ := id G
        go_upto_region 13 with fail
        clear a0 a01 a02 b0 b01 b02
        clear Z0 Z1 Z2
        clear M0 M1 M2
        clear g0 g1 g2 s0 s1 s2
        replace hS := Two.step (B := v0.heap.size) hS (by omega) ((Below.refl v0.heap.size v1).setCell (p := ⟨v0.heap.size, 0, none⟩) (Nat.le_refl _) (.bool false))
        replace Z := Z.seto (c := v0.heap.size) (i := 0) (by omega) (.bool false)
        replace M := M.seto (c := v0.heap.size) (i := 0) (by omega) (.bool false)
        replace G := G.1.set0 (.bool false)
        generalize v1.setCell ⟨v0.heap.size, 0, none⟩ (.bool false) = v2 at *
        have lg : v0.heap.size < v2.heap.size := G.1
        have ls2 : w.heap.size + 1 < v2.heap.size := by omega
        obtain ⟨_, _, ⟨a0, a01, a02⟩, ⟨b0, b01, b02⟩⟩ := id hS
        obtain ⟨_, Z0, Z1, Z2⟩ := id Z
        obtain ⟨_, M0, M1, M2⟩ := id M
        obtain ⟨_, G0, G1, G2⟩ := id G
        go_upto_region 14 with fail
        clear a0 a01 a02 b0 b01 b02
        clear Z0 Z1 Z2
        clear M0 M1 M2
        clear G0 G1 G2
        have L := Own3.start v2 (.bool m1) (.string ⟨m2.toArray⟩) (.int .i64 (m3 : Int)) 23
        replace hS := hS.next ((Below.refl _ _).alloc (Nat.le_refl _) (.cells #[.bool m1, .string ⟨m2.toArray⟩, .int .i64 (m3 : Int)] 23))
        replace Z := Z.next ((Below.refl _ _).alloc (Nat.le_refl _) (.cells #[.bool m1, .string ⟨m2.toArray⟩, .int .i64 (m3 : Int)] 23))
        replace M := M.next ((Below.refl _ _).alloc (Nat.le_refl _) (.cells #[.bool m1, .string ⟨m2.toArray⟩, .int .i64 (m3 : Int)] 23))
        replace G := G.next ((Below.refl _ _).alloc (Nat.le_refl _) (.cells #[.bool m1, .string ⟨m2.toArray⟩, .int .i64 (m3 : Int)] 23))
        generalize v2.alloc (.cells #[.bool m1, .string ⟨m2.toArray⟩, .int .i64 (m3 : Int)] 23) = v3 at *
        obtain ⟨_, _, ⟨a0, a01, a02⟩, ⟨b0, b01, b02⟩⟩ := id hS
        obtain ⟨_, Z0, Z1, Z2⟩ := id Z
        obtain ⟨_, M0, M1, M2⟩ := id M
        obtain ⟨_, G0, G1, G2⟩ := id G
        obtain ⟨⟨_, g0, g1, g2⟩, s0, s1, s2⟩ := id L
        go_upto_region 15 with fail
        clear a0 a01 a02 b0 b01 b02
        clear Z0 Z1 Z2
        clear M0 M1 M2
        clear G0 G1 G2
        clear g0 g1 g2 s0 s1 s2
        replace hS := Two.step (B := v2.heap.size) hS (by omega) ((Below.refl v2.heap.size v3).setCell (p := ⟨v2.heap.size, 0, none⟩) (Nat.le_refl _) (.bool false))
        replace Z := Z.seto (c := v2.heap.size) (i := 0) (by omega) (.bool false)
        replace M := M.seto (c := v2.heap.size) (i := 0) (by omega) (.bool false)
        replace G := G.seto (c := v2.heap.size) (i := 0) (by omega) (.bool false)
        replace L := L.1.set0 (.bool false)
        generalize v3.setCell ⟨v2.heap.size, 0, none⟩ (.bool false) = v4 at *
        obtain ⟨_, _, ⟨a0, a01, a02⟩, ⟨b0, b01, b02⟩⟩ := id hS
        obtain ⟨_, Z0, Z1, Z2⟩ := id Z
        obtain ⟨_, M0, M1, M2⟩ := id M
        obtain ⟨_, G0, G1, G2⟩ := id G
        obtain ⟨_, L0, L1, L2⟩ := id L
        go_wp2_with fail
        clear a0 a01 a02 b0 b01 b02
        clear Z0 Z1 Z2
        clear M0 M1 M2
        clear G0 G1 G2
        clear L0 L1 L2
        refine (rcmp_b false m2 m3 false b2 b3 (-1) _ (abs_may mm) (abs_may hb) QC).mono ?_
        rintro e w5 ⟨rfl, hb5⟩
        replace hS := hS.next hb5
        replace Z := Z.next hb5
        replace M := M.next hb5
        replace G := G.next hb5
        replace L := L.next hb5
        clear hb5
        by_cases hm0 : m2 = [48]
        · have e := Dm.zero_of mm hm0
          injection e with e1 e2 e3
          subst e1 e2 e3
          obtain ⟨_, _, ⟨a0, a01, a02⟩, ⟨b0, b01, b02⟩⟩ := id hS
          obtain ⟨_, Z0, Z1, Z2⟩ := id Z
          obtain ⟨_, M0, M1, M2⟩ := id M
          obtain ⟨_, G0, G1, G2⟩ := id G
          obtain ⟨_, L0, L1, L2⟩ := id L
          go_wp2_with fail
          go_meet
          case rel => exact ⟨hS, Z⟩
        · have q1 : (m2 == [48]) = false := beq_eq_false_iff_ne.2 hm0
          have hm1 := unhide HSG hm0
          subst hm1
          obtain ⟨_, _, ⟨a0, a01, a02⟩, ⟨b0, b01, b02⟩⟩ := id hS
          obtain ⟨_, Z0, Z1, Z2⟩ := id Z
          obtain ⟨_, M0, M1, M2⟩ := id M
          obtain ⟨_, G0, G1, G2⟩ := id G
          obtain ⟨_, L0, L1, L2⟩ := id L
          go_wp2_with fail
          go_meet
          case rel => exact ⟨hS, Z⟩
  case rest =>
    as_aux_lemma =>
      clear hS Z M lz HR rZ0 rZ1 rZ2 rZ3
      obtain ⟨hS, Z⟩ := hcut
      obtain ⟨_, _, ⟨a0, a01, a02⟩, ⟨b0, b01, b02⟩⟩ := id hS
      obtain ⟨_, Z0, Z1, Z2⟩ := id Z
      go_wp2_with fail
      clear a0 a01 a02 b0 b01 b02
      clear Z0 Z1 Z2
      refine (rmul_b a1 a2 a3 b1 b2 b3 _ ha hb).mono ?_
      rintro e w6 ⟨p, rfl, HP, hb6⟩
      replace hS := hS.next hb6
      replace Z := Z.next hb6
      clear hb6
      cases p with
      | none =>
        simp only [rx, ry, rz, re]
        replace hS := hS.next ((Below.refl _ _).alloc (Nat.le_refl _) (.cells #[.bool false, .string ⟨#[]⟩, .int .i64 0] 23))
        replace Z := Z.next ((Below.refl _ _).alloc (Nat.le_refl _) (.cells #[.bool false, .string ⟨#[]⟩, .int .i64 0] 23))
        have P := Has3.start w6 (.bool false) (.string ⟨#[]⟩) (.int .i64 0) 23
        obtain ⟨_, _, ⟨a0, a01, a02⟩, ⟨b0, b01, b02⟩⟩ := id hS
        obtain ⟨_, Z0, Z1, Z2⟩ := id Z
        obtain ⟨_, P0, P1, P2⟩ := id P
        go_wp2
        go_ret
        exact ⟨rfl, hS.1⟩
      | some p =>
        obtain ⟨p1, p2, p3⟩ := p
        simp only [rx, ry, rz, re]
        replace hS := hS.next ((Below.refl _ _).alloc (Nat.le_refl _) (.cells #[.bool p1, .string ⟨p2.toArray⟩, .int .i64 (p3 : Int)] 23))
        replace Z := Z.next ((Below.refl _ _).alloc (Nat.le_refl _) (.cells #[.bool p1, .string ⟨p2.toArray⟩, .int .i64 (p3 : Int)] 23))
        have P := Has3.start w6 (.bool p1) (.string ⟨p2.toArray⟩) (.int .i64 (p3 : Int)) 23
        by_cases hl : a2.length ≤ 34
        · have hl2 : (a2.length : Int) ≤ 34 := by omega
          obtain ⟨_, _, ⟨a0, a01, a02⟩, ⟨b0, b01, b02⟩⟩ := id hS
          obtain ⟨_, Z0, Z1, Z2⟩ := id Z
          obtain ⟨_, P0, P1, P2⟩ := id P
          go_wp2_with fail
          clear a0 a01 a02 b0 b01 b02
          clear Z0 Z1 Z2
          clear P0 P1 P2
          refine (div_bk a1 a2 a3 b1 b2 b3 p1 p2 p3 _ ha hb hb0 hl HP (htab.next hS.1)).mono ?_
          rintro e w7 ⟨rfl, hb7⟩
          replace hS := hS.next hb7
          replace Z := Z.next hb7
          replace P := P.next hb7
          clear hb7
          replace hS := hS.next ((Below.refl _ _).alloc (Nat.le_refl _) (.cells #[.bool a1, .string ⟨a2.toArray⟩, .int .i64 (a3 : Int)] 23))
          replace Z := Z.next ((Below.refl _ _).alloc (Nat.le_refl _) (.cells #[.bool a1, .string ⟨a2.toArray⟩, .int .i64 (a3 : Int)] 23))
          replace P := P.next ((Below.refl _ _).alloc (Nat.le_refl _) (.cells #[.bool a1, .string ⟨a2.toArray⟩, .int .i64 (a3 : Int)] 23))
          have Q := Has3.start w7 (.bool a1) (.string ⟨a2.toArray⟩) (.int .i64 (a3 : Int)) 23
          obtain ⟨_, _, ⟨a0, a01, a02⟩, ⟨b0, b01, b02⟩⟩ := id hS
          obtain ⟨_, Z0, Z1, Z2⟩ := id Z
          obtain ⟨_, P0, P1, P2⟩ := id P
          obtain ⟨_, Q0, Q1, Q2⟩ := id Q
          go_upto_region 20 with fail
          clear a0 a01 a02 b0 b01 b02
          clear Z0 Z1 Z2
          clear P0 P1 P2
          clear Q0 Q1 Q2
          generalize w7.alloc (.cells #[.bool a1, .string ⟨a2.toArray⟩, .int .i64 (a3 : Int)] 23) = v7 at *
          by_cases ha0 : a2 = [48]
          · have e := Dm.zero_of ha ha0
            injection e with e1 e2 e3
            subst e1 e2 e3
            obtain ⟨_, _, ⟨a0, a01, a02⟩, ⟨b0, b01, b02⟩⟩ := id hS
            obtain ⟨_, Z0, Z1, Z2⟩ := id Z
            obtain ⟨_, P0, P1, P2⟩ := id P
            obtain ⟨_, Q0, Q1, Q2⟩ := id Q
            go_wp2_with fail
            clear a0 a01 a02 b0 b01 b02
            clear Z0 Z1 Z2
            clear P0 P1 P2
            clear Q0 Q1 Q2
            refine (mod_none p1 ⟨p2.toArray⟩ (p3 : Int) false 0 _).mono ?_
            rintro e w8 ⟨rfl, hb8⟩
            replace hS := hS.next hb8
            replace Z := Z.next hb8
            replace P := P.next hb8
            replace Q := Q.next hb8
            clear hb8
            replace hS := hS.next ((Below.refl _ _).alloc (Nat.le_refl _) (.cells #[.bool false, .string ⟨#[]⟩, .int .i64 0] 23))
            replace Z := Z.next ((Below.refl _ _).alloc (Nat.le_refl _) (.cells #[.bool false, .string ⟨#[]⟩, .int .i64 0] 23))
            replace P := P.next ((Below.refl _ _).alloc (Nat.le_refl _) (.cells #[.bool false, .string ⟨#[]⟩, .int .i64 0] 23))
            replace Q := Q.next ((Below.refl _ _).alloc (Nat.le_refl _) (.cells #[.bool false, .string ⟨#[]⟩, .int .i64 0] 23))
            have R := Has3.start w8 (.bool false) (.string ⟨#[]⟩) (.int .i64 0) 23
            obtain ⟨_, _, ⟨a0, a01, a02⟩, ⟨b0, b01, b02⟩⟩ := id hS
            obtain ⟨_, Z0, Z1, Z2⟩ := id Z
            obtain ⟨_, P0, P1, P2⟩ := id P
            obtain ⟨_, Q0, Q1, Q2⟩ := id Q
            obtain ⟨_, R0, R1, R2⟩ := id R
            go_wp2
            go_ret
            exact ⟨rfl, hS.1⟩
          · have q1 : (a2 == [48]) = false := beq_eq_false_iff_ne.2 ha0
            by_cases hs3 : b3 = 0
            · subst hs3
              obtain ⟨_, _, ⟨a0, a01, a02⟩, ⟨b0, b01, b02⟩⟩ := id hS
              obtain ⟨_, Z0, Z1, Z2⟩ := id Z
              obtain ⟨_, P0, P1, P2⟩ := id P
              obtain ⟨_, Q0, Q1, Q2⟩ := id Q
              go_wp2_with fail
              clear a0 a01 a02 b0 b01 b02
              clear Z0 Z1 Z2
              clear P0 P1 P2
              clear Q0 Q1 Q2
              refine (mod_bk a1 a2 a3 b1 b2 p1 p2 p3 _ ha hb ha0 hb0 HP (htab.next hS.1)).mono ?_
              rintro e w8 ⟨rfl, hb8⟩
              replace hS := hS.next hb8
              replace Z := Z.next hb8
              replace P := P.next hb8
              replace Q := Q.next hb8
              clear hb8
              replace hS := hS.next ((Below.refl _ _).alloc (Nat.le_refl _) (.cells #[.bool false, .string ⟨#[48]⟩, .int .i64 0] 23))
              replace Z := Z.next ((Below.refl _ _).alloc (Nat.le_refl _) (.cells #[.bool false, .string ⟨#[48]⟩, .int .i64 0] 23))
              replace P := P.next ((Below.refl _ _).alloc (Nat.le_refl _) (.cells #[.bool false, .string ⟨#[48]⟩, .int .i64 0] 23))
              replace Q := Q.next ((Below.refl _ _).alloc (Nat.le_refl _) (.cells #[.bool false, .string ⟨#[48]⟩, .int .i64 0] 23))
              have R := Has3.start w8 (.bool false) (.string ⟨#[48]⟩) (.int .i64 0) 23
              obtain ⟨_, _, ⟨a0, a01, a02⟩, ⟨b0, b01, b02⟩⟩ := id hS
              obtain ⟨_, Z0, Z1, Z2⟩ := id Z
              obtain ⟨_, P0, P1, P2⟩ := id P
              obtain ⟨_, Q0, Q1, Q2⟩ := id Q
              obtain ⟨_, R0, R1, R2⟩ := id R
              go_wp2
              go_ret
              exact ⟨rfl, hS.1⟩
            · have q3 : ((b3 : Int) == 0) = false := beq_eq_false_iff_ne.2 (by omega)
              obtain ⟨n2, hn2⟩ := max_ex p3 a3
              have HN2 := hide hn2
              clear hn2
              obtain ⟨_, _, ⟨a0, a01, a02⟩, ⟨b0, b01, b02⟩⟩ := id hS
              obtain ⟨_, Z0, Z1, Z2⟩ := id Z
              obtain ⟨_, P0, P1, P2⟩ := id P
              obtain ⟨_, Q0, Q1, Q2⟩ := id Q
              go_wp2_with fail
              clear a0 a01 a02 b0 b01 b02
              clear Z0 Z1 Z2
              clear P0 P1 P2
              clear Q0 Q1 Q2
              refine (mod_b p1 p2 p3 a1 a2 a3 n2 _ (unhide HP).1 ha ha0 (unhide HN2) (htab.next hS.1)).mono ?_
              rintro e w8 ⟨r8, rfl, HR8, hb8⟩
              replace hS := hS.next hb8
              replace Z := Z.next hb8
              replace P := P.next hb8
              replace Q := Q.next hb8
              clear hb8
              generalize hz0 : rx r8 = t_0
              have tZ0 := hide hz0
              clear hz0
              generalize hz1 : ry r8 = t_1
              have tZ1 := hide hz1
              clear hz1
              generalize hz2 : rz r8 = t_2
              have tZ2 := hide hz2
              clear hz2
              generalize hz3 : re r8 = t_3
              have tZ3 := hide hz3
              clear hz3
              replace hS := hS.next ((Below.refl _ _).alloc (Nat.le_refl _) (.cells #[.bool t_0, .string t_1, .int .i64 t_2] 23))
              replace Z := Z.next ((Below.refl _ _).alloc (Nat.le_refl _) (.cells #[.bool t_0, .string t_1, .int .i64 t_2] 23))
              replace P := P.next ((Below.refl _ _).alloc (Nat.le_refl _) (.cells #[.bool t_0, .string t_1, .int .i64 t_2] 23))
              replace Q := Q.next ((Below.refl _ _).alloc (Nat.le_refl _) (.cells #[.bool t_0, .string t_1, .int .i64 t_2] 23))
              have R := Has3.start w8 (.bool t_0) (.string t_1) (.int .i64 t_2) 23
              obtain ⟨_, _, ⟨a0, a01, a02⟩, ⟨b0, b01, b02⟩⟩ := id hS
              obtain ⟨_, Z0, Z1, Z2⟩ := id Z
              obtain ⟨_, P0, P1, P2⟩ := id P
              obtain ⟨_, Q0, Q1, Q2⟩ := id Q
              obtain ⟨_, R0, R1, R2⟩ := id R
              go_wp2
              go_ret
              exact ⟨rfl, hS.1⟩
        · have hl2 : ¬ (a2.length : Int) ≤ 34 := by omega
          obtain ⟨_, _, ⟨a0, a01, a02⟩, ⟨b0, b01, b02⟩⟩ := id hS
          obtain ⟨_, Z0, Z1, Z2⟩ := id Z
          obtain ⟨_, P0, P1, P2⟩ := id P
          go_wp2
          go_ret
          exact ⟨rfl, hS.1⟩
theorem back_walk (x1 : Bool) (s1 : ByteArray) (n1 : Int) (x2 : Bool) (s2 : ByteArray) (n2 : Int) (w : World) (hs1 : s1.size ≤ maxLen) (hs2 : s2.size ≤ maxLen) (htab : Pow w) :
    Calls Tryz.prog 5 #[.agg #[.bool x1, .string s1, .int .i64 n1], .agg #[.bool x2, .string s2, .int .i64 n2]] w fun e w' => e = .returned (.bool true) ∧ Below w.heap.size w w' := by
  cases hm : (Dm.mayB x1 s1.data.toList n1 && Dm.mayB x2 s2.data.toList n2) with
  | false => exact back_no x1 s1 n1 x2 s2 n2 w hs1 hs2 hm htab
  | true =>
    rw [Bool.and_eq_true] at hm
    obtain ⟨l1, j1, rfl, rfl, h1⟩ := may_split5 hm.1
    obtain ⟨l2, j2, rfl, rfl, h2⟩ := may_split5 hm.2
    by_cases h0 : l2 = [48]
    · have e := Dm.zero_of h2 h0
      injection e with e1 e2 e3
      subst e1 e2 e3
      exact back_zero x1 l1 j1 w h1 htab
    · exact back_pos x1 l1 j1 x2 l2 j2 w h1 h2 h0 htab
end Go.Proofs.YtmlmplmghlbdmaaGreatDoor

namespace Go.Proofs.YtmlmplmghlbdmaaGreatDoor
open Go.RowKit
set_option linter.unusedVariables false
set_option linter.unusedSimpArgs false

theorem and_7 : ∀ c : Fin 256, bits .and .i64 ((c.val : Nat) : Int) 7 = ((c.val % 8 : Nat) : Int) := by decide +kernel
theorem rint_7 (c : Nat) (l : List UInt8) (w : World) (hc : c < 256) (hl : Hid (Dm.ofInt ((c % 8 : Nat) : Int) = ⟨false, l, 0⟩)) :
    Calls Tryz.prog 29 #[.int .i64 (bits .and .i64 (c : Int) 7)] w fun e w' => e = .returned (.agg #[.bool false, .string ⟨l.toArray⟩, .int .i64 0]) ∧ Below w.heap.size w w' := by
  have e := and_7 ⟨c, hc⟩
  simp only at e
  rw [e]
  have := rint_any ((c % 8 : Nat) : Int) w (by omega) (by omega)
  rw [unhide hl] at this
  exact this
theorem ofInt_8 (i : Nat) (h : i < 8) : ∃ l, Dm.ofInt ((i : Nat) : Int) = ⟨false, l, 0⟩ ∧ Dm.May ⟨false, l, 0⟩ ∧ Dm.sg ⟨false, l, 0⟩ = (i : Int) := by
  obtain ⟨x, l, e⟩ := ofInt_eta ((i : Nat) : Int)
  have hr := (Dm.ofInt_rep (n := ((i : Nat) : Int)) (r := some (Dm.ofInt ((i : Nat) : Int))) (by omega)).2 rfl
  rw [e] at hr
  have hs : Dm.sg ⟨x, l, 0⟩ = (i : Int) := by
    have := hr.2
    rw [Dm.p10_zero, Int.mul_one, Int.mul_one] at this
    exact this
  have hx : x = false := Dm.nonneg_of hr.1 (by rw [hs]; omega)
  subst hx
  exact ⟨l, e, hr.1, hs⟩
theorem rmul_i (b2 : List UInt8) (b3 : Nat) (l : List UInt8) (i : Nat) (w : World) (hb : Dm.May ⟨false, b2, b3⟩) (hl : Dm.May ⟨false, l, 0⟩) (hs : Hid (Dm.sg ⟨false, l, 0⟩ = (i : Int))) :
    Calls Tryz.prog 26 #[.agg #[.bool false, .string ⟨b2.toArray⟩, .int .i64 (b3 : Int)], .agg #[.bool false, .string ⟨l.toArray⟩, .int .i64 0]] w fun e w' => ∃ r, e = .returned (.tuple #[.agg #[.bool (rx r), .string (ry r), .int .i64 (rz r)], .int .i64 (re r)]) ∧ Hid (Dm.Rep (Dm.sg ⟨false, b2, b3⟩ * (i : Int)) b3 r) ∧ Below w.heap.size w w' := by
  refine (rmul_b false b2 b3 false l 0 w hb hl).mono ?_
  rintro e w' ⟨r, rfl, hr, hB⟩
  have := unhide hr
  rw [unhide hs, Nat.add_zero] at this
  exact ⟨r, rfl, hide this, hB⟩
theorem radd_b (x : Bool) (y : List UInt8) (z : Nat) (x2 : Bool) (y2 : List UInt8) (z2 : Nat) (w : World) (h : Dm.May ⟨x, y, z⟩) (h2 : Dm.May ⟨x2, y2, z2⟩) :
    Calls Tryz.prog 27 #[.agg #[.bool x, .string ⟨y.toArray⟩, .int .i64 (z : Int)], .agg #[.bool x2, .string ⟨y2.toArray⟩, .int .i64 (z2 : Int)]] w fun e w' => ∃ r, e = .returned (.tuple #[.agg #[.bool (rx r), .string (ry r), .int .i64 (rz r)], .int .i64 (re r)]) ∧ Hid (Dm.Rep (Dm.sg ⟨x, y, z⟩ * Dm.p10 z2 + Dm.sg ⟨x2, y2, z2⟩ * Dm.p10 z) (z + z2) r) ∧ Below w.heap.size w w' := by
  refine (radd_r x y z x2 y2 z2 w h h2).mono ?_
  rintro e w' ⟨r, rfl, hr, hB⟩
  exact ⟨r, rfl, hide hr, hB⟩
theorem mod_is (s2 : List UInt8) (s3 : Nat) (b2 : List UInt8) (b3 : Nat) (m2 : List UInt8) (m3 : Nat) (w : World) (hs : Dm.May ⟨false, s2, s3⟩) (hb : Dm.May ⟨false, b2, b3⟩) (hb0 : b2 ≠ [48])
    (hu : Hid (∀ (n : Nat) (r : Option Dm.D), max (s3 : Int) (b3 : Int) = (n : Int) → Dm.Rep (Dm.sgn false ((Dm.num s2 * 10 ^ (n - s3)) % (Dm.num b2 * 10 ^ (n - b3)))) n r → r = some ⟨false, m2, m3⟩)) (htab : Pow w) :
    Calls Tryz.prog 14 #[.agg #[.bool false, .string ⟨s2.toArray⟩, .int .i64 (s3 : Int)], .agg #[.bool false, .string ⟨b2.toArray⟩, .int .i64 (b3 : Int)]] w fun e w' => e = .returned (.tuple #[.agg #[.bool false, .string ⟨m2.toArray⟩, .int .i64 (m3 : Int)], .int .i64 0]) ∧ Below w.heap.size w w' := by
  obtain ⟨n, hn⟩ := max_ex s3 b3
  refine (mod_r false s2 s3 false b2 b3 n w hs hb hb0 hn htab).mono ?_
  rintro e w' ⟨r, rfl, hr, hB⟩
  have := unhide hu n r hn hr
  subst this
  exact ⟨rfl, hB⟩
theorem leq_sg {m2 a2 : List UInt8} {m3 a3 : Nat} (h : Dm.num m2 * 10 ^ a3 ≤ Dm.num a2 * 10 ^ m3) : sgI (Dm.sg ⟨false, m2, m3⟩ * Dm.p10 a3 - Dm.sg ⟨false, a2, a3⟩ * Dm.p10 m3) ≤ 0 := by
  have e1 : Dm.sg ⟨false, m2, m3⟩ * Dm.p10 a3 = ((Dm.num m2 * 10 ^ a3 : Nat) : Int) := by rw [Int.natCast_mul]; rfl
  have e2 : Dm.sg ⟨false, a2, a3⟩ * Dm.p10 m3 = ((Dm.num a2 * 10 ^ m3 : Nat) : Int) := by rw [Int.natCast_mul]; rfl
  rw [e1, e2]
  unfold sgI
  by_cases g : ((Dm.num m2 * 10 ^ a3 : Nat) : Int) - ((Dm.num a2 * 10 ^ m3 : Nat) : Int) < 0
  · rw [if_pos g]; decide
  · rw [if_neg g, if_neg (by omega)]; decide
theorem Has3.c0 {b : Nat} {x y z : Value} {w : World} (h : Has3 b x y z w) : w.cell? ⟨b, 0, none⟩ = some x ∧ w.cell? ⟨b, 1, none⟩ = some y ∧ w.cell? ⟨b, 2, none⟩ = some z := h.2
theorem Has3.c_a {b : Nat} {x y z : Value} {w : World} (h : Has3 b x y z w) (o : Obj) : (w.alloc o).cell? ⟨b, 0, none⟩ = some x ∧ (w.alloc o).cell? ⟨b, 1, none⟩ = some y ∧ (w.alloc o).cell? ⟨b, 2, none⟩ = some z := (h.next ((Below.refl _ _).alloc (Nat.le_refl _) o)).2
theorem Has3.c_ad {b : Nat} {x y z : Value} {w : World} (h : Has3 b x y z w) (o : Obj) : (w.alloc o).drew.cell? ⟨b, 0, none⟩ = some x ∧ (w.alloc o).drew.cell? ⟨b, 1, none⟩ = some y ∧ (w.alloc o).drew.cell? ⟨b, 2, none⟩ = some z := (h.next ((Below.refl _ _).alloc (Nat.le_refl _) o)).drew.2
theorem Has3.c_s {b g : Nat} {x y z : Value} {w : World} (h : Has3 b x y z w) (hg : b < g) (p q r : Value) : (((w.setCell ⟨g, 0, none⟩ p).setCell ⟨g, 1, none⟩ q).setCell ⟨g, 2, none⟩ r).cell? ⟨b, 0, none⟩ = some x ∧ (((w.setCell ⟨g, 0, none⟩ p).setCell ⟨g, 1, none⟩ q).setCell ⟨g, 2, none⟩ r).cell? ⟨b, 1, none⟩ = some y ∧ (((w.setCell ⟨g, 0, none⟩ p).setCell ⟨g, 1, none⟩ q).setCell ⟨g, 2, none⟩ r).cell? ⟨b, 2, none⟩ = some z := (h.store (b := g) (by omega) p q r).2

set_option maxRecDepth 100000 in
set_option maxHeartbeats 2000000 in
theorem steps_no (x1 : Bool) (s1 : ByteArray) (n1 : Int) (x2 : Bool) (s2 : ByteArray) (n2 : Int) (c : Nat) (w : World) (hs1 : s1.size ≤ maxLen) (hs2 : s2.size ≤ maxLen) (hm : (Dm.mayB x1 s1.data.toList n1 && Dm.mayB x2 s2.data.toList n2) = false) (htab : Pow w) :
    Calls Tryz.prog 9 #[.agg #[.bool x1, .string s1, .int .i64 n1], .agg #[.bool x2, .string s2, .int .i64 n2], .int .u8 (c : Int)] w fun e w' => e = .returned (.bool true) ∧ Below w.heap.size w w' := by
  have hS := Two.start w (.bool x1) (.string s1) (.int .i64 n1) (.bool x2) (.string s2) (.int .i64 n2) 23
  have HM := hide hm
  clear hm
  go_enter Tryz.func9, Tryz.ntmps9
  obtain ⟨_, _, ⟨a0, a01, a02⟩, ⟨b0, b01, b02⟩⟩ := id hS
  go_wp2_with fail
  clear a0 a01 a02 b0 b01 b02
  refine (shown2 _ (htab.next hS.1)).mono ?_
  rintro e w1 ⟨rfl, hb1⟩
  replace hS := hS.next hb1
  clear hb1
  obtain ⟨_, _, ⟨a0, a01, a02⟩, ⟨b0, b01, b02⟩⟩ := id hS
  go_wp2_with fail
  clear a0 a01 a02 b0 b01 b02
  refine (may_both x1 s1 n1 x2 s2 n2 false _ hs1 hs2 HM).mono ?_
  rintro e w2 ⟨rfl, hb2⟩
  replace hS := hS.next hb2
  clear hb2
  obtain ⟨_, _, ⟨a0, a01, a02⟩, ⟨b0, b01, b02⟩⟩ := id hS
  go_wp2
  go_ret
  exact ⟨rfl, hS.1⟩
set_option maxRecDepth 100000 in
set_option maxHeartbeats 4000000 in
theorem steps_stop (a1 : Bool) (a2 : List UInt8) (a3 : Nat) (b1 : Bool) (b2 : List UInt8) (b3 : Nat) (c : Nat) (w : World) (ha : Dm.May ⟨a1, a2, a3⟩) (hb : Dm.May ⟨b1, b2, b3⟩) (hst : a1 = true ∨ (a1 = false ∧ b1 = true) ∨ (a1 = false ∧ b1 = false ∧ (b2 == [48]) = true)) (htab : Pow w) :
    Calls Tryz.prog 9 #[.agg #[.bool a1, .string ⟨a2.toArray⟩, .int .i64 (a3 : Int)], .agg #[.bool b1, .string ⟨b2.toArray⟩, .int .i64 (b3 : Int)], .int .u8 (c : Int)] w fun e w' => e = .returned (.bool true) ∧ Below w.heap.size w w' := by
  have hS := Two.start w (.bool a1) (.string ⟨a2.toArray⟩) (.int .i64 (a3 : Int)) (.bool b1) (.string ⟨b2.toArray⟩) (.int .i64 (b3 : Int)) 23
  rcases hst with rfl | ⟨rfl, rfl⟩ | ⟨rfl, rfl, hq⟩
  all_goals
    go_enter Tryz.func9, Tryz.ntmps9
    obtain ⟨_, _, ⟨a0, a01, a02⟩, ⟨b0, b01, b02⟩⟩ := id hS
    go_wp2_with fail
    clear a0 a01 a02 b0 b01 b02
    refine (shown2 _ (htab.next hS.1)).mono ?_
    rintro e w1 ⟨rfl, hb1⟩
    replace hS := hS.next hb1
    clear hb1
    obtain ⟨_, _, ⟨a0, a01, a02⟩, ⟨b0, b01, b02⟩⟩ := id hS
    go_wp2_with fail
    clear a0 a01 a02 b0 b01 b02
    refine (may_d _ a2 a3 _ b2 b3 _ ha hb).mono ?_
    rintro e w2 ⟨rfl, hb2⟩
    replace hS := hS.next hb2
    clear hb2
    obtain ⟨_, _, ⟨a0, a01, a02⟩, ⟨b0, b01, b02⟩⟩ := id hS
    go_wp2
    go_ret
    exact ⟨rfl, hS.1⟩
set_option maxRecDepth 100000 in
set_option maxHeartbeats 8000000 in
theorem steps_pos (a2 : List UInt8) (a3 : Nat) (b2 : List UInt8) (b3 : Nat) (c : Nat) (w : World) (hc : c < 256) (ha : Dm.May ⟨false, a2, a3⟩) (hb : Dm.May ⟨false, b2, b3⟩) (hb0 : b2 ≠ [48]) (htab : Pow w) :
    Calls Tryz.prog 9 #[.agg #[.bool false, .string ⟨a2.toArray⟩, .int .i64 (a3 : Int)], .agg #[.bool false, .string ⟨b2.toArray⟩, .int .i64 (b3 : Int)], .int .u8 (c : Int)] w fun e w' => e = .returned (.bool true) ∧ Below w.heap.size w w' := by
  have hS := Two.start w (.bool false) (.string ⟨a2.toArray⟩) (.int .i64 (a3 : Int)) (.bool false) (.string ⟨b2.toArray⟩) (.int .i64 (b3 : Int)) 23
  have q0 : (b2 == [48]) = false := beq_eq_false_iff_ne.2 hb0
  obtain ⟨n, hn⟩ := max_ex a3 b3
  have HN := hide hn
  clear hn
  obtain ⟨l, el, ml, sl⟩ := ofInt_8 (c % 8) (by omega)
  have EL := hide el
  have SL := hide sl
  clear el sl
  have wb : IntKind.i64.wrap (c : Int) = (c : Int) := wrap_id (by omega) (by omega)
  go_enter Tryz.func9, Tryz.ntmps9
  obtain ⟨_, _, ⟨a0, a01, a02⟩, ⟨b0, b01, b02⟩⟩ := id hS
  go_wp2_with fail
  clear a0 a01 a02 b0 b01 b02
  refine (shown2 _ (htab.next hS.1)).mono ?_
  rintro e w1 ⟨rfl, hb1⟩
  replace hS := hS.next hb1
  clear hb1
  obtain ⟨_, _, ⟨a0, a01, a02⟩, ⟨b0, b01, b02⟩⟩ := id hS
  go_wp2_with fail
  clear a0 a01 a02 b0 b01 b02
  refine (may_d false a2 a3 false b2 b3 _ ha hb).mono ?_
  rintro e w2 ⟨rfl, hb2⟩
  replace hS := hS.next hb2
  clear hb2
  obtain ⟨_, _, ⟨a0, a01, a02⟩, ⟨b0, b01, b02⟩⟩ := id hS
  go_wp2_with fail
  clear a0 a01 a02 b0 b01 b02
  refine (mod_b false a2 a3 false b2 b3 n _ ha hb hb0 (unhide HN) (htab.next hS.1)).mono ?_
  rintro e w3 ⟨r, rfl, HR, hb3⟩
  replace hS := hS.next hb3
  clear hb3
  generalize hz0 : rx r = r_0
  have rZ0 := hide hz0
  clear hz0
  generalize hz1 : ry r = r_1
  have rZ1 := hide hz1
  clear hz1
  generalize hz2 : rz r = r_2
  have rZ2 := hide hz2
  clear hz2
  generalize hz3 : re r = r_3
  have rZ3 := hide hz3
  clear hz3
  replace hS := hS.next ((Below.refl _ _).alloc (Nat.le_refl _) (.cells #[.bool r_0, .string r_1, .int .i64 r_2] 23))
  have M := Has3.start w3 (.bool r_0) (.string r_1) (.int .i64 r_2) 23
  obtain ⟨_, _, ⟨a0, a01, a02⟩, ⟨b0, b01, b02⟩⟩ := id hS
  obtain ⟨_, M0, M1, M2⟩ := id M
  go_upto_region 6 with fail
  clear a0 a01 a02 b0 b01 b02
  clear M0 M1 M2
  generalize w3.alloc (.cells #[.bool r_0, .string r_1, .int .i64 r_2] 23) = v0 at *
  go_cut [11, 12] from 19 to 53 (fun v11 v12 wx => ∃ (g : Nat) (t : Option Dm.D), v11 = .pointer (some ⟨g, 0, none⟩) ∧ v12 = .int .i64 (re t) ∧ Hid (Dm.Rep (Dm.sg ⟨false, b2, b3⟩ * ((c % 8 : Nat) : Int)) b3 t) ∧ v0.heap.size ≤ g ∧ Below v0.heap.size v0 wx ∧ Has3 g (.bool (rx t)) (.string (ry t)) (.int .i64 (rz t)) wx)
  case first =>
    have Hb : Has3 (w.heap.size + 1) (.bool false) (.string ⟨b2.toArray⟩) (.int .i64 (b3 : Int)) v0 := ⟨hS.2.1, hS.2.2.2⟩
    have hB : Below v0.heap.size v0 v0.drew := (Below.refl _ _).drew
    obtain ⟨hlt, b0, b01, b02⟩ := id Hb
    go_region_held3 (fun w' => w'.cell? ⟨w.heap.size + 1, 0, none⟩ = some (.bool false) ∧ w'.cell? ⟨w.heap.size + 1, 1, none⟩ = some (.string ⟨b2.toArray⟩) ∧ w'.cell? ⟨w.heap.size + 1, 2, none⟩ = some (.int .i64 (b3 : Int))) (first | with_reducible exact Has3.c0 (Has3.next Hb hB) | with_reducible exact Has3.c_a (Has3.next Hb hB) _ | with_reducible exact Has3.c_ad Hb _ | with_reducible exact Has3.c_s (Has3.next Hb hB) (Nat.lt_of_lt_of_le hlt hg) _ _ _) (first | (go_at_call 29; first | ((fail_if_success have := hA); refine (rint_7 c l _ hc EL).mono ?_; rintro e w' ⟨rfl, hbw⟩; replace hB := hB.trans (hbw.mono hB.size); clear hbw) | ((fail_if_success have := hA); refine (rint_7 c l _ hc EL).mono ?_; rintro e w' ⟨rfl, hbw⟩; have hg := Nat.le_refl v0.heap.size; have hA := Own3.next (Own3.next (Own3.start _ (.bool false) (.string ⟨#[]⟩) (.int .i64 0) 23) (Below.refl _ _).drew) hbw; replace hB := (((Below.refl _ _).alloc (Nat.le_refl _) _).drew).trans (hbw.mono (((Below.refl v0.heap.size v0).alloc (Nat.le_refl _) (.cells #[.bool false, .string ⟨#[]⟩, .int .i64 0] 23)).drew).size); obtain ⟨⟨_, k0, k1, k2⟩, f0, f1, f2⟩ := id hA; clear hbw)) | (go_at_call 26; first | ((fail_if_success have := hA); refine (rmul_i b2 b3 l (c % 8) _ hb ml SL).mono ?_; rintro e w' ⟨t, rfl, HT, hbw⟩; replace hB := hB.trans (hbw.mono hB.size); clear hbw) | (have := hA; refine (rmul_i b2 b3 l (c % 8) _ hb ml SL).mono ?_; rintro e w' ⟨t, rfl, HT, hbw⟩; replace hA := hA.next hbw; replace hB := hB.trans (hbw.mono hB.size); clear k0 k1 k2 f0 f1 f2; obtain ⟨⟨_, k0, k1, k2⟩, f0, f1, f2⟩ := id hA; clear hbw) | ((fail_if_success have := hA); refine (rmul_i b2 b3 l (c % 8) _ hb ml SL).mono ?_; rintro e w' ⟨t, rfl, HT, hbw⟩; have hg := hB.size; have hA := Own3.next (Own3.start _ (.bool false) (.string ⟨#[]⟩) (.int .i64 0) 23) hbw; replace hB := (hB.alloc hB.size _).trans (hbw.mono (hB.alloc hB.size (.cells #[.bool false, .string ⟨#[]⟩, .int .i64 0] 23)).size); obtain ⟨⟨_, k0, k1, k2⟩, f0, f1, f2⟩ := id hA; clear hbw)))
    all_goals
      go_wp2_with fail
      go_meet
      case rel =>
        first
        | exact ⟨_, t, rfl, rfl, HT, hB.size, hB.alloc hB.size _, Has3.start _ _ _ _ _⟩
        | exact ⟨_, t, rfl, rfl, HT, hg, set3_below hB hg _ _ _, (hA.store _ _ _).1⟩
  case rest =>
    as_aux_lemma =>
      obtain ⟨g, t, rfl, rfl, HT, hg, hB, T⟩ := hcut
      replace hS := hS.next hB
      replace M := M.next hB
      clear hB
      generalize hz0 : rx t = t_0 at T
      have tZ0 := hide hz0
      clear hz0
      generalize hz1 : ry t = t_1 at T
      have tZ1 := hide hz1
      clear hz1
      generalize hz2 : rz t = t_2 at T
      have tZ2 := hide hz2
      clear hz2
      generalize hz3 : re t = t_3
      have tZ3 := hide hz3
      clear hz3
      cases r with
      | none =>
        obtain rfl := unhide rZ3
        simp only [re]
        obtain ⟨_, _, ⟨a0, a01, a02⟩, ⟨b0, b01, b02⟩⟩ := id hS
        obtain ⟨_, M0, M1, M2⟩ := id M
        obtain ⟨_, T0, T1, T2⟩ := id T
        go_wp2
        go_ret
        exact ⟨rfl, hS.1⟩
      | some m =>
        obtain ⟨m1, m2, m3⟩ := m
        obtain rfl : m1 = r_0 := unhide rZ0
        obtain rfl : r_1 = ⟨m2.toArray⟩ := (unhide rZ1).symm
        obtain rfl : r_2 = (m3 : Int) := (unhide rZ2).symm
        obtain rfl : r_3 = 0 := (unhide rZ3).symm
        cases t with
        | none =>
          obtain rfl := unhide tZ3
          simp only [re]
          obtain ⟨_, _, ⟨a0, a01, a02⟩, ⟨b0, b01, b02⟩⟩ := id hS
          obtain ⟨_, M0, M1, M2⟩ := id M
          obtain ⟨_, T0, T1, T2⟩ := id T
          go_wp2
          go_ret
          exact ⟨rfl, hS.1⟩
        | some t =>
          obtain ⟨t1, t2, t3⟩ := t
          obtain rfl : t1 = t_0 := unhide tZ0
          obtain rfl : t_1 = ⟨t2.toArray⟩ := (unhide tZ1).symm
          obtain rfl : t_2 = (t3 : Int) := (unhide tZ2).symm
          obtain rfl : t_3 = 0 := (unhide tZ3).symm
          obtain ⟨_, _, ⟨a0, a01, a02⟩, ⟨b0, b01, b02⟩⟩ := id hS
          obtain ⟨_, M0, M1, M2⟩ := id M
          obtain ⟨_, T0, T1, T2⟩ := id T
          go_wp2_with fail
          clear a0 a01 a02 b0 b01 b02
          clear M0 M1 M2
          clear T0 T1 T2
          refine (radd_b false a2 a3 t1 t2 t3 _ ha (unhide HT).1).mono ?_
          rintro e w5 ⟨s, rfl, HS, hb5⟩
          replace hS := hS.next hb5
          replace M := M.next hb5
          replace T := T.next hb5
          clear hb5
          cases s with
          | none =>
            simp only [rx, ry, rz, re]
            replace hS := hS.next ((Below.refl _ _).alloc (Nat.le_refl _) (.cells #[.bool false, .string ⟨#[]⟩, .int .i64 0] 23))
            replace M := M.next ((Below.refl _ _).alloc (Nat.le_refl _) (.cells #[.bool false, .string ⟨#[]⟩, .int .i64 0] 23))
            replace T := T.next ((Below.refl _ _).alloc (Nat.le_refl _) (.cells #[.bool false, .string ⟨#[]⟩, .int .i64 0] 23))
            have SB := Has3.start w5 (.bool false) (.string ⟨#[]⟩) (.int .i64 0) 23
            obtain ⟨_, _, ⟨a0, a01, a02⟩, ⟨b0, b01, b02⟩⟩ := id hS
            obtain ⟨_, M0, M1, M2⟩ := id M
            obtain ⟨_, T0, T1, T2⟩ := id T
            obtain ⟨_, SB0, SB1, SB2⟩ := id SB
            go_wp2
            go_ret
            exact ⟨rfl, hS.1⟩
          | some s =>
            obtain ⟨s1, s2, s3⟩ := s
            simp only [rx, ry, rz, re]
            obtain ⟨e1, e2, u1, u2, x1, x2⟩ := Dm.steps_spec (a := ⟨false, a2, a3⟩) (b := ⟨false, b2, b3⟩) (m := ⟨m1, m2, m3⟩) (t := ⟨t1, t2, t3⟩) (s := ⟨s1, s2, s3⟩) ha hb rfl rfl hb0 (unhide HN) (unhide HR) (unhide HT) (unhide HS)
            simp only at e1 e2
            subst e1 e2
            have U1 := hide u1
            have U2 := hide u2
            have C1 := hide (less_sg x1)
            have c2 := leq_sg x2
            obtain ⟨qq, hqq⟩ : ∃ qq, sgI (Dm.sg ⟨false, m2, m3⟩ * Dm.p10 a3 - Dm.sg ⟨false, a2, a3⟩ * Dm.p10 m3) = qq := ⟨_, rfl⟩
            rw [hqq] at c2
            have C2 := hide hqq
            clear u1 u2 x1 x2 hqq
            have ms : Dm.May ⟨false, s2, s3⟩ := (unhide HS).1
            have mm : Dm.May ⟨false, m2, m3⟩ := (unhide HR).1
            replace hS := hS.next ((Below.refl _ _).alloc (Nat.le_refl _) (.cells #[.bool false, .string ⟨s2.toArray⟩, .int .i64 (s3 : Int)] 23))
            replace M := M.next ((Below.refl _ _).alloc (Nat.le_refl _) (.cells #[.bool false, .string ⟨s2.toArray⟩, .int .i64 (s3 : Int)] 23))
            replace T := T.next ((Below.refl _ _).alloc (Nat.le_refl _) (.cells #[.bool false, .string ⟨s2.toArray⟩, .int .i64 (s3 : Int)] 23))
            have SB := Has3.start w5 (.bool false) (.string ⟨s2.toArray⟩) (.int .i64 (s3 : Int)) 23
            obtain ⟨_, _, ⟨a0, a01, a02⟩, ⟨b0, b01, b02⟩⟩ := id hS
            obtain ⟨_, M0, M1, M2⟩ := id M
            obtain ⟨_, T0, T1, T2⟩ := id T
            obtain ⟨_, SB0, SB1, SB2⟩ := id SB
            go_wp2_with fail
            clear a0 a01 a02 b0 b01 b02
            clear M0 M1 M2
            clear T0 T1 T2
            clear SB0 SB1 SB2
            refine (mod_is s2 s3 b2 b3 m2 m3 _ ms hb hb0 U1 (htab.next hS.1)).mono ?_
            rintro e w6 ⟨rfl, hb6⟩
            replace hS := hS.next hb6
            replace M := M.next hb6
            replace T := T.next hb6
            replace SB := SB.next hb6
            clear hb6
            replace hS := hS.next ((Below.refl _ _).alloc (Nat.le_refl _) (.cells #[.bool false, .string ⟨m2.toArray⟩, .int .i64 (m3 : Int)] 23))
            replace M := M.next ((Below.refl _ _).alloc (Nat.le_refl _) (.cells #[.bool false, .string ⟨m2.toArray⟩, .int .i64 (m3 : Int)] 23))
            replace T := T.next ((Below.refl _ _).alloc (Nat.le_refl _) (.cells #[.bool false, .string ⟨m2.toArray⟩, .int .i64 (m3 : Int)] 23))
            replace SB := SB.next ((Below.refl _ _).alloc (Nat.le_refl _) (.cells #[.bool false, .string ⟨m2.toArray⟩, .int .i64 (m3 : Int)] 23))
            have K := Has3.start w6 (.bool false) (.string ⟨m2.toArray⟩) (.int .i64 (m3 : Int)) 23
            obtain ⟨_, _, ⟨a0, a01, a02⟩, ⟨b0, b01, b02⟩⟩ := id hS
            obtain ⟨_, M0, M1, M2⟩ := id M
            obtain ⟨_, T0, T1, T2⟩ := id T
            obtain ⟨_, SB0, SB1, SB2⟩ := id SB
            obtain ⟨_, K0, K1, K2⟩ := id K
            go_wp2_with fail
            clear a0 a01 a02 b0 b01 b02
            clear M0 M1 M2
            clear T0 T1 T2
            clear SB0 SB1 SB2
            clear K0 K1 K2
            refine (mod_is m2 m3 b2 b3 m2 m3 _ mm hb hb0 U2 (htab.next hS.1)).mono ?_
            rintro e w7 ⟨rfl, hb7⟩
            replace hS := hS.next hb7
            replace M := M.next hb7
            replace T := T.next hb7
            replace SB := SB.next hb7
            replace K := K.next hb7
            clear hb7
            replace hS := hS.next ((Below.refl _ _).alloc (Nat.le_refl _) (.cells #[.bool false, .string ⟨m2.toArray⟩, .int .i64 (m3 : Int)] 23))
            replace M := M.next ((Below.refl _ _).alloc (Nat.le_refl _) (.cells #[.bool false, .string ⟨m2.toArray⟩, .int .i64 (m3 : Int)] 23))
            replace T := T.next ((Below.refl _ _).alloc (Nat.le_refl _) (.cells #[.bool false, .string ⟨m2.toArray⟩, .int .i64 (m3 : Int)] 23))
            replace SB := SB.next ((Below.refl _ _).alloc (Nat.le_refl _) (.cells #[.bool false, .string ⟨m2.toArray⟩, .int .i64 (m3 : Int)] 23))
            replace K := K.next ((Below.refl _ _).alloc (Nat.le_refl _) (.cells #[.bool false, .string ⟨m2.toArray⟩, .int .i64 (m3 : Int)] 23))
            have J := Has3.start w7 (.bool false) (.string ⟨m2.toArray⟩) (.int .i64 (m3 : Int)) 23
            obtain ⟨_, _, ⟨a0, a01, a02⟩, ⟨b0, b01, b02⟩⟩ := id hS
            obtain ⟨_, M0, M1, M2⟩ := id M
            obtain ⟨_, T0, T1, T2⟩ := id T
            obtain ⟨_, SB0, SB1, SB2⟩ := id SB
            obtain ⟨_, K0, K1, K2⟩ := id K
            obtain ⟨_, J0, J1, J2⟩ := id J
            go_wp2_with fail
            clear a0 a01 a02 b0 b01 b02
            clear M0 M1 M2
            clear T0 T1 T2
            clear SB0 SB1 SB2
            clear K0 K1 K2
            clear J0 J1 J2
            refine (rcmp_b false m2 m3 false b2 b3 (-1) _ mm hb C1).mono ?_
            rintro e w8 ⟨rfl, hb8⟩
            replace hS := hS.next hb8
            replace M := M.next hb8
            replace T := T.next hb8
            replace SB := SB.next hb8
            replace K := K.next hb8
            replace J := J.next hb8
            clear hb8
            obtain ⟨_, _, ⟨a0, a01, a02⟩, ⟨b0, b01, b02⟩⟩ := id hS
            obtain ⟨_, M0, M1, M2⟩ := id M
            obtain ⟨_, T0, T1, T2⟩ := id T
            obtain ⟨_, SB0, SB1, SB2⟩ := id SB
            obtain ⟨_, K0, K1, K2⟩ := id K
            obtain ⟨_, J0, J1, J2⟩ := id J
            go_wp2_with fail
            clear a0 a01 a02 b0 b01 b02
            clear M0 M1 M2
            clear T0 T1 T2
            clear SB0 SB1 SB2
            clear K0 K1 K2
            clear J0 J1 J2
            refine (rcmp_b false m2 m3 false a2 a3 qq _ mm ha C2).mono ?_
            rintro e w9 ⟨rfl, hb9⟩
            replace hS := hS.next hb9
            replace M := M.next hb9
            replace T := T.next hb9
            replace SB := SB.next hb9
            replace K := K.next hb9
            replace J := J.next hb9
            clear hb9
            obtain ⟨_, _, ⟨a0, a01, a02⟩, ⟨b0, b01, b02⟩⟩ := id hS
            obtain ⟨_, M0, M1, M2⟩ := id M
            obtain ⟨_, T0, T1, T2⟩ := id T
            obtain ⟨_, SB0, SB1, SB2⟩ := id SB
            obtain ⟨_, K0, K1, K2⟩ := id K
            obtain ⟨_, J0, J1, J2⟩ := id J
            go_wp2
            go_ret
            exact ⟨rfl, hS.1⟩
theorem steps_walk (x1 : Bool) (s1 : ByteArray) (n1 : Int) (x2 : Bool) (s2 : ByteArray) (n2 : Int) (c : Nat) (w : World) (hs1 : s1.size ≤ maxLen) (hs2 : s2.size ≤ maxLen) (hc : c < 256) (htab : Pow w) :
    Calls Tryz.prog 9 #[.agg #[.bool x1, .string s1, .int .i64 n1], .agg #[.bool x2, .string s2, .int .i64 n2], .int .u8 (c : Int)] w fun e w' => e = .returned (.bool true) ∧ Below w.heap.size w w' := by
  cases hm : (Dm.mayB x1 s1.data.toList n1 && Dm.mayB x2 s2.data.toList n2) with
  | false => exact steps_no x1 s1 n1 x2 s2 n2 c w hs1 hs2 hm htab
  | true =>
    rw [Bool.and_eq_true] at hm
    obtain ⟨l1, j1, rfl, rfl, h1⟩ := may_split5 hm.1
    obtain ⟨l2, j2, rfl, rfl, h2⟩ := may_split5 hm.2
    by_cases g1 : x1 = true
    · exact steps_stop x1 l1 j1 x2 l2 j2 c w h1 h2 (.inl g1) htab
    · by_cases g2 : x2 = true
      · exact steps_stop x1 l1 j1 x2 l2 j2 c w h1 h2 (.inr (.inl ⟨by simpa using g1, g2⟩)) htab
      · by_cases g3 : l2 = [48]
        · exact steps_stop x1 l1 j1 x2 l2 j2 c w h1 h2 (.inr (.inr ⟨by simpa using g1, by simpa using g2, by rw [g3]; rfl⟩)) htab
        · obtain rfl : x1 = false := by simpa using g1
          obtain rfl : x2 = false := by simpa using g2
          exact steps_pos l1 j1 l2 j2 c w hc h1 h2 g3 htab
end Go.Proofs.YtmlmplmghlbdmaaGreatDoor

namespace Go.Proofs.YtmlmplmghlbdmaaGreatDoor
open Go.RowKit
set_option linter.unusedVariables false
set_option linter.unusedSimpArgs false

theorem rturn_o (x : Bool) (y : List UInt8) (z : Int) (t : Bool) (w : World) (h : Hid (trn x y = t)) :
    Calls Tryz.prog 28 #[.agg #[.bool x, .string ⟨y.toArray⟩, .int .i64 z]] w fun e w' => e = .returned (.agg #[.bool t, .string ⟨y.toArray⟩, .int .i64 z]) ∧ Below w.heap.size w w' := by
  have := rturn_b x y z w
  rw [unhide h] at this
  exact this
theorem trn_may {x : Bool} {y : List UInt8} {z : Nat} (h : Dm.May ⟨x, y, z⟩) : Dm.May ⟨trn x y, y, z⟩ := by
  have := Dm.turn_may h
  simp only at this
  unfold trn
  by_cases e : y = [48]
  · rw [if_pos e] at this ⊢; exact this
  · rw [if_neg e] at this ⊢; exact this
theorem turnR_some (x : Bool) (y : List UInt8) (z : Nat) : Dm.turnR (some ⟨x, y, z⟩) = some ⟨trn x y, y, z⟩ := by
  unfold Dm.turnR trn
  simp only
  by_cases e : y = [48]
  · rw [if_pos e, if_pos e]
  · rw [if_neg e, if_neg e]
theorem trn_trn (x : Bool) (y : List UInt8) : trn (trn x y) y = x := by
  unfold trn
  by_cases e : y = [48]
  · rw [if_pos e, if_pos e]
  · rw [if_neg e, if_neg e, Bool.not_not]
theorem div_zero_rep {s : Bool} {y2 : List UInt8} {z z2 : Nat} {r : Option Dm.D} (h : Dm.DivRep s [48] z y2 z2 r) : r = some ⟨false, [48], 0⟩ := by
  obtain ⟨n, t, hn, ht, hr⟩ := h
  have h0 : Dm.num [48] = 0 := rfl
  rw [h0, Nat.zero_mul, Nat.zero_div, Nat.zero_mod, Dm.near_none (Nat.zero_mod _), Nat.zero_div, Dm.sgn_zero, Int.zero_mul] at hr
  exact hr.uniq (Dm.zero_rep _)
theorem div_turn {a1 b1 : Bool} {a2 b2 : List UInt8} {a3 b3 : Nat} {r r2 : Option Dm.D} (h : Dm.DivRep (a1 != b1) a2 a3 b2 b3 r) (h2 : Dm.DivRep (trn a1 a2 != b1) a2 a3 b2 b3 r2) : r2 = Dm.turnR r := by
  by_cases e : a2 = [48]
  · subst e
    rw [div_zero_rep h, div_zero_rep h2]
    rfl
  · have hs : (trn a1 a2 != b1) = !(a1 != b1) := by unfold trn; rw [if_neg e]; cases a1 <;> cases b1 <;> rfl
    rw [hs] at h2
    exact h2.uniq h.turn
theorem div_turn2 {a1 b1 : Bool} {a2 b2 : List UInt8} {a3 b3 : Nat} {r r2 : Option Dm.D} (hb : b2 ≠ [48]) (h : Dm.DivRep (a1 != b1) a2 a3 b2 b3 r) (h2 : Dm.DivRep (trn a1 a2 != trn b1 b2) a2 a3 b2 b3 r2) : r2 = r := by
  by_cases e : a2 = [48]
  · subst e
    rw [div_zero_rep h, div_zero_rep h2]
  · have hs : (trn a1 a2 != trn b1 b2) = (a1 != b1) := by unfold trn; rw [if_neg e, if_neg hb]; cases a1 <;> cases b1 <;> rfl
    rw [hs] at h2
    exact h2.uniq h
/-- Ceil is Floor seen from the other side. -/
theorem ceil_floor {a1 f1 : Bool} {a2 f2 : List UInt8} {a3 : Nat} (h : Dm.May ⟨a1, a2, a3⟩) (hf : Dm.Rep (Dm.sgn (trn a1 a2) (Dm.num a2 / 10 ^ a3 + (decide (0 < a3) && trn a1 a2).toNat)) 0 (some ⟨f1, f2, 0⟩)) :
    ∀ r, Dm.Rep (Dm.sgn a1 (Dm.num a2 / 10 ^ a3 + (decide (0 < a3) && !a1).toNat)) 0 r → r = some ⟨trn f1 f2, f2, 0⟩ := by
  intro r hr
  by_cases e : a2 = [48]
  · have e2 := Dm.zero_of h e
    injection e2 with e2 e3 e4
    subst e2 e3 e4
    have z1 := Dm.rep_zero (ng := trn false [48]) (s := 0) (r := some ⟨f1, f2, 0⟩) hf
    have z2 := Dm.rep_zero (ng := false) (s := 0) (r := r) hr
    rw [z2]
    injection z1 with z1
    injection z1 with q1 q2 q3
    subst q1 q2
    rfl
  · have ht : trn a1 a2 = !a1 := by unfold trn; rw [if_neg e]
    rw [ht] at hf
    have := hf.turn
    rw [← Dm.sgn_not, Bool.not_not, turnR_some] at this
    exact hr.uniq this

set_option maxRecDepth 100000 in
set_option maxHeartbeats 2000000 in
theorem turns_no (x1 : Bool) (s1 : ByteArray) (n1 : Int) (x2 : Bool) (s2 : ByteArray) (n2 : Int) (w : World) (hs1 : s1.size ≤ maxLen) (hs2 : s2.size ≤ maxLen) (hm : (Dm.mayB x1 s1.data.toList n1 && Dm.mayB x2 s2.data.toList n2) = false) (htab : Pow w) :
    Calls Tryz.prog 7 #[.agg #[.bool x1, .string s1, .int .i64 n1], .agg #[.bool x2, .string s2, .int .i64 n2]] w fun e w' => e = .returned (.bool true) ∧ Below w.heap.size w w' := by
  have hS := Two.start w (.bool x1) (.string s1) (.int .i64 n1) (.bool x2) (.string s2) (.int .i64 n2) 23
  have HM := hide hm
  clear hm
  go_enter Tryz.func7, Tryz.ntmps7
  obtain ⟨_, _, ⟨a0, a01, a02⟩, ⟨b0, b01, b02⟩⟩ := id hS
  go_wp2_with fail
  clear a0 a01 a02 b0 b01 b02
  refine (shown2 _ (htab.next hS.1)).mono ?_
  rintro e w1 ⟨rfl, hb1⟩
  replace hS := hS.next hb1
  clear hb1
  obtain ⟨_, _, ⟨a0, a01, a02⟩, ⟨b0, b01, b02⟩⟩ := id hS
  go_wp2_with fail
  clear a0 a01 a02 b0 b01 b02
  refine (may_both x1 s1 n1 x2 s2 n2 false _ hs1 hs2 HM).mono ?_
  rintro e w2 ⟨rfl, hb2⟩
  replace hS := hS.next hb2
  clear hb2
  obtain ⟨_, _, ⟨a0, a01, a02⟩, ⟨b0, b01, b02⟩⟩ := id hS
  go_wp2
  go_ret
  exact ⟨rfl, hS.1⟩
set_option maxRecDepth 100000 in
set_option maxHeartbeats 8000000 in
theorem turns_ok (a1 : Bool) (a2 : List UInt8) (a3 : Nat) (b1 : Bool) (b2 : List UInt8) (b3 : Nat) (ta tb : Bool) (f1 : Bool) (f2 : List UInt8) (tf : Bool) (w : World) (ha : Dm.May ⟨a1, a2, a3⟩) (hb : Dm.May ⟨b1, b2, b3⟩) (TA : Hid (trn a1 a2 = ta)) (TB : Hid (trn b1 b2 = tb)) (TF : Hid (trn f1 f2 = tf)) (hta : Dm.May ⟨ta, a2, a3⟩)
    (HC : Hid (∀ r, Dm.Rep (Dm.sgn a1 (Dm.num a2 / 10 ^ a3 + (decide (0 < a3) && !a1).toNat)) 0 r → r = some ⟨tf, f2, 0⟩))
    (HF : Hid (∀ r, Dm.Rep (Dm.sgn ta (Dm.num a2 / 10 ^ a3 + (decide (0 < a3) && ta).toNat)) 0 r → r = some ⟨f1, f2, 0⟩))
    (d1 : Bool) (d2 : List UInt8) (d3 : Nat) (td : Bool) (TD : Hid (trn d1 d2 = td)) 
    (H1 : Hid (∀ W, Pow W → Calls Tryz.prog 12 #[.agg #[.bool a1, .string ⟨a2.toArray⟩, .int .i64 (a3 : Int)], .agg #[.bool b1, .string ⟨b2.toArray⟩, .int .i64 (b3 : Int)]] W fun e w' => e = .returned (.tuple #[.agg #[.bool d1, .string ⟨d2.toArray⟩, .int .i64 (d3 : Int)], .int .i64 0]) ∧ Below W.heap.size W w'))
    (H2 : Hid (∀ W, Pow W → Calls Tryz.prog 12 #[.agg #[.bool ta, .string ⟨a2.toArray⟩, .int .i64 (a3 : Int)], .agg #[.bool b1, .string ⟨b2.toArray⟩, .int .i64 (b3 : Int)]] W fun e w' => e = .returned (.tuple #[.agg #[.bool td, .string ⟨d2.toArray⟩, .int .i64 (d3 : Int)], .int .i64 0]) ∧ Below W.heap.size W w'))
    (H3 : Hid (∀ W, Pow W → Calls Tryz.prog 12 #[.agg #[.bool ta, .string ⟨a2.toArray⟩, .int .i64 (a3 : Int)], .agg #[.bool tb, .string ⟨b2.toArray⟩, .int .i64 (b3 : Int)]] W fun e w' => e = .returned (.tuple #[.agg #[.bool d1, .string ⟨d2.toArray⟩, .int .i64 (d3 : Int)], .int .i64 0]) ∧ Below W.heap.size W w'))
    (htab : Pow w) :
    Calls Tryz.prog 7 #[.agg #[.bool a1, .string ⟨a2.toArray⟩, .int .i64 (a3 : Int)], .agg #[.bool b1, .string ⟨b2.toArray⟩, .int .i64 (b3 : Int)]] w fun e w' => e = .returned (.bool true) ∧ Below w.heap.size w w' := by
  have hS := Two.start w (.bool a1) (.string ⟨a2.toArray⟩) (.int .i64 (a3 : Int)) (.bool b1) (.string ⟨b2.toArray⟩) (.int .i64 (b3 : Int)) 23
  have tok1 : True := trivial
  have tok2 : True := trivial
  go_enter Tryz.func7, Tryz.ntmps7
  obtain ⟨_, _, ⟨a0, a01, a02⟩, ⟨b0, b01, b02⟩⟩ := id hS
  go_wp2_with fail
  clear a0 a01 a02 b0 b01 b02
  refine (shown2 _ (htab.next hS.1)).mono ?_
  rintro e w1 ⟨rfl, hb1⟩
  replace hS := hS.next hb1
  clear hb1
  obtain ⟨_, _, ⟨a0, a01, a02⟩, ⟨b0, b01, b02⟩⟩ := id hS
  go_wp2_with fail
  clear a0 a01 a02 b0 b01 b02
  refine (may_d a1 a2 a3 b1 b2 b3 _ ha hb).mono ?_
  rintro e w2 ⟨rfl, hb2⟩
  replace hS := hS.next hb2
  clear hb2
  obtain ⟨_, _, ⟨a0, a01, a02⟩, ⟨b0, b01, b02⟩⟩ := id hS
  go_wp2_with fail
  clear a0 a01 a02 b0 b01 b02
  refine (unhide H1 _ (htab.next hS.1)).mono ?_
  rintro e w3 ⟨rfl, hb3⟩
  replace hS := hS.next hb3
  clear hb3
  replace hS := hS.next ((Below.refl _ _).alloc (Nat.le_refl _) (.cells #[.bool d1, .string ⟨d2.toArray⟩, .int .i64 (d3 : Int)] 23))
  have X := Has3.start w3 (.bool d1) (.string ⟨d2.toArray⟩) (.int .i64 (d3 : Int)) 23
  obtain ⟨_, _, ⟨a0, a01, a02⟩, ⟨b0, b01, b02⟩⟩ := id hS
  obtain ⟨_, X0, X1, X2⟩ := id X
  go_upto_region 6 with fail
  clear a0 a01 a02 b0 b01 b02
  clear X0 X1 X2
  generalize w3.alloc (.cells #[.bool d1, .string ⟨d2.toArray⟩, .int .i64 (d3 : Int)] 23) = v0 at *
  obtain ⟨_, _, ⟨a0, a01, a02⟩, ⟨b0, b01, b02⟩⟩ := id hS
  obtain ⟨_, X0, X1, X2⟩ := id X
  go_upto_region 6 with fail
  clear a0 a01 a02 b0 b01 b02
  clear X0 X1 X2
  go_cut [9, 10] from 18 to 37 (fun v1 v2 wx => ∃ g : Nat, v1 = .pointer (some ⟨g, 0, none⟩) ∧ v2 = .int .i64 0 ∧ v0.heap.size ≤ g ∧ Below v0.heap.size v0 wx ∧ Has3 g (.bool td) (.string ⟨d2.toArray⟩) (.int .i64 (d3 : Int)) wx)
  case first =>
    as_aux_lemma =>
      have Ha : Has3 w.heap.size (.bool a1) (.string ⟨a2.toArray⟩) (.int .i64 (a3 : Int)) v0 := ⟨Nat.lt_of_succ_lt hS.2.1, hS.2.2.1⟩
      have Hb : Has3 (w.heap.size + 1) (.bool b1) (.string ⟨b2.toArray⟩) (.int .i64 (b3 : Int)) v0 := ⟨hS.2.1, hS.2.2.2⟩
      have hP := htab.next hS.1
      have hB : Below v0.heap.size v0 v0.drew := (Below.refl _ _).drew
      obtain ⟨hlt, b0, b01, b02⟩ := id Hb
      obtain ⟨hla, a0, a01, a02⟩ := id Ha
      go_region_held3 (fun w' => (w'.cell? ⟨w.heap.size, 0, none⟩ = some (.bool a1) ∧ w'.cell? ⟨w.heap.size, 1, none⟩ = some (.string ⟨a2.toArray⟩) ∧ w'.cell? ⟨w.heap.size, 2, none⟩ = some (.int .i64 (a3 : Int))) ∧ (w'.cell? ⟨w.heap.size + 1, 0, none⟩ = some (.bool b1) ∧ w'.cell? ⟨w.heap.size + 1, 1, none⟩ = some (.string ⟨b2.toArray⟩) ∧ w'.cell? ⟨w.heap.size + 1, 2, none⟩ = some (.int .i64 (b3 : Int)))) (first | with_reducible exact ⟨Has3.c0 (Has3.next Ha hB), Has3.c0 (Has3.next Hb hB)⟩ | with_reducible exact ⟨Has3.c_a (Has3.next Ha hB) _, Has3.c_a (Has3.next Hb hB) _⟩ | with_reducible exact ⟨Has3.c_ad Ha _, Has3.c_ad Hb _⟩ | with_reducible exact ⟨Has3.c_s (Has3.next Ha hB) (Nat.lt_of_lt_of_le hla hg) _ _ _, Has3.c_s (Has3.next Hb hB) (Nat.lt_of_lt_of_le hlt hg) _ _ _⟩) (first | (go_at_call 28; first | ((fail_if_success have := hA); refine (rturn_o a1 a2 (a3 : Int) ta _ TA).mono ?_; rintro e w' ⟨rfl, hbw⟩; replace hB := hB.trans (hbw.mono hB.size); clear hbw) | ((fail_if_success have := hA); refine (rturn_o a1 a2 (a3 : Int) ta _ TA).mono ?_; rintro e w' ⟨rfl, hbw⟩; have hg := Nat.le_refl v0.heap.size; have hA := Own3.next (Own3.next (Own3.start _ (.bool false) (.string ⟨#[]⟩) (.int .i64 0) 23) (Below.refl _ _).drew) hbw; replace hB := (((Below.refl _ _).alloc (Nat.le_refl _) _).drew).trans (hbw.mono (((Below.refl v0.heap.size v0).alloc (Nat.le_refl _) (.cells #[.bool false, .string ⟨#[]⟩, .int .i64 0] 23)).drew).size); obtain ⟨⟨_, k0, k1, k2⟩, f0, f1, f2⟩ := id hA; clear hbw)) | (go_at_call 12; first | ((fail_if_success have := hA); refine (unhide H2 _ (hP.next hB)).mono ?_; rintro e w' ⟨rfl, hbw⟩; replace hB := hB.trans (hbw.mono hB.size); clear hbw) | (have := hA; refine (unhide H2 _ (hP.next hB)).mono ?_; rintro e w' ⟨rfl, hbw⟩; replace hA := hA.next hbw; replace hB := hB.trans (hbw.mono hB.size); clear k0 k1 k2 f0 f1 f2; obtain ⟨⟨_, k0, k1, k2⟩, f0, f1, f2⟩ := id hA; clear hbw) | ((fail_if_success have := hA); refine (unhide H2 _ (hP.next (hB.alloc hB.size _))).mono ?_; rintro e w' ⟨rfl, hbw⟩; have hg := hB.size; have hA := Own3.next (Own3.start _ (.bool false) (.string ⟨#[]⟩) (.int .i64 0) 23) hbw; replace hB := (hB.alloc hB.size _).trans (hbw.mono (hB.alloc hB.size (.cells #[.bool false, .string ⟨#[]⟩, .int .i64 0] 23)).size); obtain ⟨⟨_, k0, k1, k2⟩, f0, f1, f2⟩ := id hA; clear hbw)))
      all_goals
        go_wp2_with fail
        go_meet
        case rel =>
          first
          | exact ⟨_, rfl, rfl, hB.size, hB.alloc hB.size _, Has3.start _ _ _ _ _⟩
          | exact ⟨_, rfl, rfl, hg, set3_below hB hg _ _ _, (hA.store _ _ _).1⟩
  case rest =>
    as_aux_lemma =>
      obtain ⟨gY, rfl, rfl, hgY, hB, Y⟩ := hcut
      replace hS := hS.next hB
      replace X := X.next hB
      clear hB
      obtain ⟨_, _, ⟨a0, a01, a02⟩, ⟨b0, b01, b02⟩⟩ := id hS
      obtain ⟨_, X0, X1, X2⟩ := id X
      obtain ⟨_, Y0, Y1, Y2⟩ := id Y
      go_upto_region 7 with fail
      clear a0 a01 a02 b0 b01 b02
      clear X0 X1 X2
      clear Y0 Y1 Y2
      go_cut [11, 12] from 18 to 45 (fun v1 v2 wx => ∃ g : Nat, v1 = .pointer (some ⟨g, 0, none⟩) ∧ v2 = .int .i64 0 ∧ wc.heap.size ≤ g ∧ Below wc.heap.size wc wx ∧ Has3 g (.bool d1) (.string ⟨d2.toArray⟩) (.int .i64 (d3 : Int)) wx)
      case first =>
        as_aux_lemma =>
          have Ha : Has3 w.heap.size (.bool a1) (.string ⟨a2.toArray⟩) (.int .i64 (a3 : Int)) wc := ⟨Nat.lt_of_succ_lt hS.2.1, hS.2.2.1⟩
          have Hb : Has3 (w.heap.size + 1) (.bool b1) (.string ⟨b2.toArray⟩) (.int .i64 (b3 : Int)) wc := ⟨hS.2.1, hS.2.2.2⟩
          have hP := htab.next hS.1
          have hB : Below wc.heap.size wc wc.drew := (Below.refl _ _).drew
          obtain ⟨hlt, b0, b01, b02⟩ := id Hb
          obtain ⟨hla, a0, a01, a02⟩ := id Ha
          go_region_held3 (fun w' => (w'.cell? ⟨w.heap.size, 0, none⟩ = some (.bool a1) ∧ w'.cell? ⟨w.heap.size, 1, none⟩ = some (.string ⟨a2.toArray⟩) ∧ w'.cell? ⟨w.heap.size, 2, none⟩ = some (.int .i64 (a3 : Int))) ∧ (w'.cell? ⟨w.heap.size + 1, 0, none⟩ = some (.bool b1) ∧ w'.cell? ⟨w.heap.size + 1, 1, none⟩ = some (.string ⟨b2.toArray⟩) ∧ w'.cell? ⟨w.heap.size + 1, 2, none⟩ = some (.int .i64 (b3 : Int)))) (first | with_reducible exact ⟨Has3.c0 (Has3.next Ha hB), Has3.c0 (Has3.next Hb hB)⟩ | with_reducible exact ⟨Has3.c_a (Has3.next Ha hB) _, Has3.c_a (Has3.next Hb hB) _⟩ | with_reducible exact ⟨Has3.c_ad Ha _, Has3.c_ad Hb _⟩ | with_reducible exact ⟨Has3.c_s (Has3.next Ha hB) (Nat.lt_of_lt_of_le hla hg) _ _ _, Has3.c_s (Has3.next Hb hB) (Nat.lt_of_lt_of_le hlt hg) _ _ _⟩) (first | (go_at_call 28; have _t := tok1; first | ((fail_if_success have := hA); refine (rturn_o a1 a2 (a3 : Int) ta _ TA).mono ?_; rintro e w' ⟨rfl, hbw⟩; replace hB := hB.trans (hbw.mono hB.size); clear hbw; clear tok1 _t) | ((fail_if_success have := hA); refine (rturn_o a1 a2 (a3 : Int) ta _ TA).mono ?_; rintro e w' ⟨rfl, hbw⟩; have hg := Nat.le_refl wc.heap.size; have hA := Own3.next (Own3.next (Own3.start _ (.bool false) (.string ⟨#[]⟩) (.int .i64 0) 23) (Below.refl _ _).drew) hbw; replace hB := (((Below.refl _ _).alloc (Nat.le_refl _) _).drew).trans (hbw.mono (((Below.refl wc.heap.size wc).alloc (Nat.le_refl _) (.cells #[.bool false, .string ⟨#[]⟩, .int .i64 0] 23)).drew).size); obtain ⟨⟨_, k0, k1, k2⟩, f0, f1, f2⟩ := id hA; clear hbw; clear tok1 _t)) | (go_at_call 28; have _t := tok2; first | ((fail_if_success have := hA); refine (rturn_o b1 b2 (b3 : Int) tb _ TB).mono ?_; rintro e w' ⟨rfl, hbw⟩; replace hB := hB.trans (hbw.mono hB.size); clear hbw; clear tok2 _t) | (have := hA; refine (rturn_o b1 b2 (b3 : Int) tb _ TB).mono ?_; rintro e w' ⟨rfl, hbw⟩; replace hA := hA.next hbw; replace hB := hB.trans (hbw.mono hB.size); clear k0 k1 k2 f0 f1 f2; obtain ⟨⟨_, k0, k1, k2⟩, f0, f1, f2⟩ := id hA; clear hbw; clear tok2 _t) | ((fail_if_success have := hA); refine (rturn_o b1 b2 (b3 : Int) tb _ TB).mono ?_; rintro e w' ⟨rfl, hbw⟩; have hg := hB.size; have hA := Own3.next (Own3.start _ (.bool false) (.string ⟨#[]⟩) (.int .i64 0) 23) hbw; replace hB := (hB.alloc hB.size _).trans (hbw.mono (hB.alloc hB.size (.cells #[.bool false, .string ⟨#[]⟩, .int .i64 0] 23)).size); obtain ⟨⟨_, k0, k1, k2⟩, f0, f1, f2⟩ := id hA; clear hbw; clear tok2 _t)) | (go_at_call 12; first | ((fail_if_success have := hA); refine (unhide H3 _ (hP.next hB)).mono ?_; rintro e w' ⟨rfl, hbw⟩; replace hB := hB.trans (hbw.mono hB.size); clear hbw) | (have := hA; refine (unhide H3 _ (hP.next hB)).mono ?_; rintro e w' ⟨rfl, hbw⟩; replace hA := hA.next hbw; replace hB := hB.trans (hbw.mono hB.size); clear k0 k1 k2 f0 f1 f2; obtain ⟨⟨_, k0, k1, k2⟩, f0, f1, f2⟩ := id hA; clear hbw) | ((fail_if_success have := hA); refine (unhide H3 _ (hP.next (hB.alloc hB.size _))).mono ?_; rintro e w' ⟨rfl, hbw⟩; have hg := hB.size; have hA := Own3.next (Own3.start _ (.bool false) (.string ⟨#[]⟩) (.int .i64 0) 23) hbw; replace hB := (hB.alloc hB.size _).trans (hbw.mono (hB.alloc hB.size (.cells #[.bool false, .string ⟨#[]⟩, .int .i64 0] 23)).size); obtain ⟨⟨_, k0, k1, k2⟩, f0, f1, f2⟩ := id hA; clear hbw)))
          all_goals
            go_wp2_with fail
            go_meet
            case rel =>
              first
              | exact ⟨_, rfl, rfl, hB.size, hB.alloc hB.size _, Has3.start _ _ _ _ _⟩
              | exact ⟨_, rfl, rfl, hg, set3_below hB hg _ _ _, (hA.store _ _ _).1⟩
      case rest =>
        as_aux_lemma =>
          obtain ⟨gZ, rfl, rfl, hgZ, hB, Z⟩ := hcut
          replace hS := hS.next hB
          replace X := X.next hB
          replace Y := Y.next hB
          clear hB
          obtain ⟨_, _, ⟨a0, a01, a02⟩, ⟨b0, b01, b02⟩⟩ := id hS
          obtain ⟨_, X0, X1, X2⟩ := id X
          obtain ⟨_, Y0, Y1, Y2⟩ := id Y
          obtain ⟨_, Z0, Z1, Z2⟩ := id Z
          go_wp2_with fail
          clear a0 a01 a02 b0 b01 b02
          clear X0 X1 X2
          clear Y0 Y1 Y2
          clear Z0 Z1 Z2
          refine (ceil_c a1 a2 a3 tf f2 _ ha HC (htab.next hS.1)).mono ?_
          rintro e w6 ⟨rfl, hb6⟩
          replace hS := hS.next hb6
          replace X := X.next hb6
          replace Y := Y.next hb6
          replace Z := Z.next hb6
          clear hb6
          replace hS := hS.next ((Below.refl _ _).alloc (Nat.le_refl _) (.cells #[.bool tf, .string ⟨f2.toArray⟩, .int .i64 0] 23))
          replace X := X.next ((Below.refl _ _).alloc (Nat.le_refl _) (.cells #[.bool tf, .string ⟨f2.toArray⟩, .int .i64 0] 23))
          replace Y := Y.next ((Below.refl _ _).alloc (Nat.le_refl _) (.cells #[.bool tf, .string ⟨f2.toArray⟩, .int .i64 0] 23))
          replace Z := Z.next ((Below.refl _ _).alloc (Nat.le_refl _) (.cells #[.bool tf, .string ⟨f2.toArray⟩, .int .i64 0] 23))
          have C := Has3.start w6 (.bool tf) (.string ⟨f2.toArray⟩) (.int .i64 0) 23
          obtain ⟨_, _, ⟨a0, a01, a02⟩, ⟨b0, b01, b02⟩⟩ := id hS
          obtain ⟨_, X0, X1, X2⟩ := id X
          obtain ⟨_, Y0, Y1, Y2⟩ := id Y
          obtain ⟨_, Z0, Z1, Z2⟩ := id Z
          obtain ⟨_, C0, C1, C2⟩ := id C
          go_wp2_with fail
          clear a0 a01 a02 b0 b01 b02
          clear X0 X1 X2
          clear Y0 Y1 Y2
          clear Z0 Z1 Z2
          clear C0 C1 C2
          refine (rturn_o a1 a2 (a3 : Int) ta _ TA).mono ?_
          rintro e w7 ⟨rfl, hb7⟩
          replace hS := hS.next hb7
          replace X := X.next hb7
          replace Y := Y.next hb7
          replace Z := Z.next hb7
          replace C := C.next hb7
          clear hb7
          obtain ⟨_, _, ⟨a0, a01, a02⟩, ⟨b0, b01, b02⟩⟩ := id hS
          obtain ⟨_, X0, X1, X2⟩ := id X
          obtain ⟨_, Y0, Y1, Y2⟩ := id Y
          obtain ⟨_, Z0, Z1, Z2⟩ := id Z
          obtain ⟨_, C0, C1, C2⟩ := id C
          go_wp2_with fail
          clear a0 a01 a02 b0 b01 b02
          clear X0 X1 X2
          clear Y0 Y1 Y2
          clear Z0 Z1 Z2
          clear C0 C1 C2
          refine (floor_c ta a2 a3 f1 f2 _ hta HF (htab.next hS.1)).mono ?_
          rintro e w8 ⟨rfl, hb8⟩
          replace hS := hS.next hb8
          replace X := X.next hb8
          replace Y := Y.next hb8
          replace Z := Z.next hb8
          replace C := C.next hb8
          clear hb8
          replace hS := hS.next ((Below.refl _ _).alloc (Nat.le_refl _) (.cells #[.bool f1, .string ⟨f2.toArray⟩, .int .i64 0] 23))
          replace X := X.next ((Below.refl _ _).alloc (Nat.le_refl _) (.cells #[.bool f1, .string ⟨f2.toArray⟩, .int .i64 0] 23))
          replace Y := Y.next ((Below.refl _ _).alloc (Nat.le_refl _) (.cells #[.bool f1, .string ⟨f2.toArray⟩, .int .i64 0] 23))
          replace Z := Z.next ((Below.refl _ _).alloc (Nat.le_refl _) (.cells #[.bool f1, .string ⟨f2.toArray⟩, .int .i64 0] 23))
          replace C := C.next ((Below.refl _ _).alloc (Nat.le_refl _) (.cells #[.bool f1, .string ⟨f2.toArray⟩, .int .i64 0] 23))
          have F := Has3.start w8 (.bool f1) (.string ⟨f2.toArray⟩) (.int .i64 0) 23
          obtain ⟨_, _, ⟨a0, a01, a02⟩, ⟨b0, b01, b02⟩⟩ := id hS
          obtain ⟨_, X0, X1, X2⟩ := id X
          obtain ⟨_, Y0, Y1, Y2⟩ := id Y
          obtain ⟨_, Z0, Z1, Z2⟩ := id Z
          obtain ⟨_, C0, C1, C2⟩ := id C
          obtain ⟨_, F0, F1, F2⟩ := id F
          go_upto_region 12 with fail
          clear a0 a01 a02 b0 b01 b02
          clear X0 X1 X2
          clear Y0 Y1 Y2
          clear Z0 Z1 Z2
          clear C0 C1 C2
          clear F0 F1 F2
          generalize w8.alloc (.cells #[.bool f1, .string ⟨f2.toArray⟩, .int .i64 0] 23) = v8 at *
          go_cut [17] from 18 to 85 (fun v1 wx => v1 = .bool true ∧ Two w (.bool a1) (.string ⟨a2.toArray⟩) (.int .i64 (a3 : Int)) (.bool b1) (.string ⟨b2.toArray⟩) (.int .i64 (b3 : Int)) wx ∧ Has3 w6.heap.size (.bool tf) (.string ⟨f2.toArray⟩) (.int .i64 0) wx ∧ Has3 w8.heap.size (.bool f1) (.string ⟨f2.toArray⟩) (.int .i64 0) wx)
          case first =>
            as_aux_lemma =>
              obtain ⟨_, _, ⟨a0, a01, a02⟩, ⟨b0, b01, b02⟩⟩ := id hS
              obtain ⟨_, X0, X1, X2⟩ := id X
              obtain ⟨_, Y0, Y1, Y2⟩ := id Y
              obtain ⟨_, Z0, Z1, Z2⟩ := id Z
              obtain ⟨_, C0, C1, C2⟩ := id C
              obtain ⟨_, F0, F1, F2⟩ := id F
              go_region_held3 (fun w' => (w'.cell? ⟨w3.heap.size, 0, none⟩ = some (.bool d1) ∧ w'.cell? ⟨w3.heap.size, 1, none⟩ = some (.string ⟨d2.toArray⟩) ∧ w'.cell? ⟨w3.heap.size, 2, none⟩ = some (.int .i64 (d3 : Int))) ∧ (w'.cell? ⟨gY, 0, none⟩ = some (.bool td) ∧ w'.cell? ⟨gY, 1, none⟩ = some (.string ⟨d2.toArray⟩) ∧ w'.cell? ⟨gY, 2, none⟩ = some (.int .i64 (d3 : Int))) ∧ (w'.cell? ⟨gZ, 0, none⟩ = some (.bool d1) ∧ w'.cell? ⟨gZ, 1, none⟩ = some (.string ⟨d2.toArray⟩) ∧ w'.cell? ⟨gZ, 2, none⟩ = some (.int .i64 (d3 : Int)))) (first | exact ⟨X.2, Y.2, Z.2⟩ | exact ⟨X.drew.2, Y.drew.2, Z.drew.2⟩) (first | (go_at_call 28; refine (rturn_o d1 d2 (d3 : Int) td _ TD).mono ?_; rintro e w' ⟨rfl, hbw⟩; replace hS := Two.next (by first | exact hS | exact hS.drew) hbw; clear a0 a01 a02 b0 b01 b02; obtain ⟨_, _, ⟨a0, a01, a02⟩, ⟨b0, b01, b02⟩⟩ := id hS; replace X := Has3.next (by first | exact X | exact X.drew) hbw; clear X0 X1 X2; obtain ⟨_, X0, X1, X2⟩ := id X; replace Y := Has3.next (by first | exact Y | exact Y.drew) hbw; clear Y0 Y1 Y2; obtain ⟨_, Y0, Y1, Y2⟩ := id Y; replace Z := Has3.next (by first | exact Z | exact Z.drew) hbw; clear Z0 Z1 Z2; obtain ⟨_, Z0, Z1, Z2⟩ := id Z; replace C := Has3.next (by first | exact C | exact C.drew) hbw; clear C0 C1 C2; obtain ⟨_, C0, C1, C2⟩ := id C; replace F := Has3.next (by first | exact F | exact F.drew) hbw; clear F0 F1 F2; obtain ⟨_, F0, F1, F2⟩ := id F; clear hbw))
              all_goals
                go_wp2_with fail
                go_meet
                case rel => exact ⟨rfl, hS, C, F⟩
          case rest =>
            as_aux_lemma =>
              clear X Y Z hS C F
              obtain ⟨rfl, hS, C, F⟩ := hcut
              obtain ⟨_, _, ⟨a0, a01, a02⟩, ⟨b0, b01, b02⟩⟩ := id hS
              obtain ⟨_, C0, C1, C2⟩ := id C
              obtain ⟨_, F0, F1, F2⟩ := id F
              go_wp2_with fail
              go_region_held3 (fun w' => (w'.cell? ⟨w6.heap.size, 0, none⟩ = some (.bool tf) ∧ w'.cell? ⟨w6.heap.size, 1, none⟩ = some (.string ⟨f2.toArray⟩) ∧ w'.cell? ⟨w6.heap.size, 2, none⟩ = some (.int .i64 0)) ∧ (w'.cell? ⟨w8.heap.size, 0, none⟩ = some (.bool f1) ∧ w'.cell? ⟨w8.heap.size, 1, none⟩ = some (.string ⟨f2.toArray⟩) ∧ w'.cell? ⟨w8.heap.size, 2, none⟩ = some (.int .i64 0))) (first | exact ⟨C.2, F.2⟩ | exact ⟨C.drew.2, F.drew.2⟩) (first | (go_at_call 28; refine (rturn_o f1 f2 0 tf _ TF).mono ?_; rintro e w' ⟨rfl, hbw⟩; replace hS := Two.next (by first | exact hS | exact hS.drew) hbw; clear a0 a01 a02 b0 b01 b02; obtain ⟨_, _, ⟨a0, a01, a02⟩, ⟨b0, b01, b02⟩⟩ := id hS; replace C := Has3.next (by first | exact C | exact C.drew) hbw; clear C0 C1 C2; obtain ⟨_, C0, C1, C2⟩ := id C; replace F := Has3.next (by first | exact F | exact F.drew) hbw; clear F0 F1 F2; obtain ⟨_, F0, F1, F2⟩ := id F; clear hbw))
              all_goals
                go_wp2
                go_ret
                exact ⟨rfl, hS.1⟩
set_option maxRecDepth 100000 in
set_option maxHeartbeats 8000000 in
theorem turns_err (a1 : Bool) (a2 : List UInt8) (a3 : Nat) (b1 : Bool) (b2 : List UInt8) (b3 : Nat) (ta tb : Bool) (f1 : Bool) (f2 : List UInt8) (tf : Bool) (w : World) (ha : Dm.May ⟨a1, a2, a3⟩) (hb : Dm.May ⟨b1, b2, b3⟩) (TA : Hid (trn a1 a2 = ta)) (TB : Hid (trn b1 b2 = tb)) (TF : Hid (trn f1 f2 = tf)) (hta : Dm.May ⟨ta, a2, a3⟩)
    (HC : Hid (∀ r, Dm.Rep (Dm.sgn a1 (Dm.num a2 / 10 ^ a3 + (decide (0 < a3) && !a1).toNat)) 0 r → r = some ⟨tf, f2, 0⟩))
    (HF : Hid (∀ r, Dm.Rep (Dm.sgn ta (Dm.num a2 / 10 ^ a3 + (decide (0 < a3) && ta).toNat)) 0 r → r = some ⟨f1, f2, 0⟩))
    (ec : Int) (hec : ec ≠ 0) 
    (H1 : Hid (∀ W, Pow W → Calls Tryz.prog 12 #[.agg #[.bool a1, .string ⟨a2.toArray⟩, .int .i64 (a3 : Int)], .agg #[.bool b1, .string ⟨b2.toArray⟩, .int .i64 (b3 : Int)]] W fun e w' => e = .returned (.tuple #[.agg #[.bool false, .string ⟨#[]⟩, .int .i64 0], .int .i64 ec]) ∧ Below W.heap.size W w'))
    (H2 : Hid (∀ W, Pow W → Calls Tryz.prog 12 #[.agg #[.bool ta, .string ⟨a2.toArray⟩, .int .i64 (a3 : Int)], .agg #[.bool b1, .string ⟨b2.toArray⟩, .int .i64 (b3 : Int)]] W fun e w' => e = .returned (.tuple #[.agg #[.bool false, .string ⟨#[]⟩, .int .i64 0], .int .i64 ec]) ∧ Below W.heap.size W w'))
    (H3 : Hid (∀ W, Pow W → Calls Tryz.prog 12 #[.agg #[.bool ta, .string ⟨a2.toArray⟩, .int .i64 (a3 : Int)], .agg #[.bool tb, .string ⟨b2.toArray⟩, .int .i64 (b3 : Int)]] W fun e w' => e = .returned (.tuple #[.agg #[.bool false, .string ⟨#[]⟩, .int .i64 0], .int .i64 ec]) ∧ Below W.heap.size W w'))
    (htab : Pow w) :
    Calls Tryz.prog 7 #[.agg #[.bool a1, .string ⟨a2.toArray⟩, .int .i64 (a3 : Int)], .agg #[.bool b1, .string ⟨b2.toArray⟩, .int .i64 (b3 : Int)]] w fun e w' => e = .returned (.bool true) ∧ Below w.heap.size w w' := by
  have hS := Two.start w (.bool a1) (.string ⟨a2.toArray⟩) (.int .i64 (a3 : Int)) (.bool b1) (.string ⟨b2.toArray⟩) (.int .i64 (b3 : Int)) 23
  have tok1 : True := trivial
  have tok2 : True := trivial
  have e1 : (ec == 0) = false := beq_eq_false_iff_ne.2 hec
  have e2 : (ec != 0) = true := by rw [bne, e1]; rfl
  go_enter Tryz.func7, Tryz.ntmps7
  obtain ⟨_, _, ⟨a0, a01, a02⟩, ⟨b0, b01, b02⟩⟩ := id hS
  go_wp2_with fail
  clear a0 a01 a02 b0 b01 b02
  refine (shown2 _ (htab.next hS.1)).mono ?_
  rintro e w1 ⟨rfl, hb1⟩
  replace hS := hS.next hb1
  clear hb1
  obtain ⟨_, _, ⟨a0, a01, a02⟩, ⟨b0, b01, b02⟩⟩ := id hS
  go_wp2_with fail
  clear a0 a01 a02 b0 b01 b02
  refine (may_d a1 a2 a3 b1 b2 b3 _ ha hb).mono ?_
  rintro e w2 ⟨rfl, hb2⟩
  replace hS := hS.next hb2
  clear hb2
  obtain ⟨_, _, ⟨a0, a01, a02⟩, ⟨b0, b01, b02⟩⟩ := id hS
  go_wp2_with fail
  clear a0 a01 a02 b0 b01 b02
  refine (unhide H1 _ (htab.next hS.1)).mono ?_
  rintro e w3 ⟨rfl, hb3⟩
  replace hS := hS.next hb3
  clear hb3
  replace hS := hS.next ((Below.refl _ _).alloc (Nat.le_refl _) (.cells #[.bool false, .string ⟨#[]⟩, .int .i64 0] 23))
  have X := Has3.start w3 (.bool false) (.string ⟨#[]⟩) (.int .i64 0) 23
  obtain ⟨_, _, ⟨a0, a01, a02⟩, ⟨b0, b01, b02⟩⟩ := id hS
  obtain ⟨_, X0, X1, X2⟩ := id X
  go_upto_region 6 with fail
  clear a0 a01 a02 b0 b01 b02
  clear X0 X1 X2
  generalize w3.alloc (.cells #[.bool false, .string ⟨#[]⟩, .int .i64 0] 23) = v0 at *
  obtain ⟨_, _, ⟨a0, a01, a02⟩, ⟨b0, b01, b02⟩⟩ := id hS
  obtain ⟨_, X0, X1, X2⟩ := id X
  go_upto_region 6 with fail
  clear a0 a01 a02 b0 b01 b02
  clear X0 X1 X2
  go_cut [9, 10] from 18 to 37 (fun v1 v2 wx => ∃ g : Nat, v1 = .pointer (some ⟨g, 0, none⟩) ∧ v2 = .int .i64 ec ∧ v0.heap.size ≤ g ∧ Below v0.heap.size v0 wx ∧ Has3 g (.bool false) (.string ⟨#[]⟩) (.int .i64 0) wx)
  case first =>
    as_aux_lemma =>
      have Ha : Has3 w.heap.size (.bool a1) (.string ⟨a2.toArray⟩) (.int .i64 (a3 : Int)) v0 := ⟨Nat.lt_of_succ_lt hS.2.1, hS.2.2.1⟩
      have Hb : Has3 (w.heap.size + 1) (.bool b1) (.string ⟨b2.toArray⟩) (.int .i64 (b3 : Int)) v0 := ⟨hS.2.1, hS.2.2.2⟩
      have hP := htab.next hS.1
      have hB : Below v0.heap.size v0 v0.drew := (Below.refl _ _).drew
      obtain ⟨hlt, b0, b01, b02⟩ := id Hb
      obtain ⟨hla, a0, a01, a02⟩ := id Ha
      go_region_held3 (fun w' => (w'.cell? ⟨w.heap.size, 0, none⟩ = some (.bool a1) ∧ w'.cell? ⟨w.heap.size, 1, none⟩ = some (.string ⟨a2.toArray⟩) ∧ w'.cell? ⟨w.heap.size, 2, none⟩ = some (.int .i64 (a3 : Int))) ∧ (w'.cell? ⟨w.heap.size + 1, 0, none⟩ = some (.bool b1) ∧ w'.cell? ⟨w.heap.size + 1, 1, none⟩ = some (.string ⟨b2.toArray⟩) ∧ w'.cell? ⟨w.heap.size + 1, 2, none⟩ = some (.int .i64 (b3 : Int)))) (first | with_reducible exact ⟨Has3.c0 (Has3.next Ha hB), Has3.c0 (Has3.next Hb hB)⟩ | with_reducible exact ⟨Has3.c_a (Has3.next Ha hB) _, Has3.c_a (Has3.next Hb hB) _⟩ | with_reducible exact ⟨Has3.c_ad Ha _, Has3.c_ad Hb _⟩ | with_reducible exact ⟨Has3.c_s (Has3.next Ha hB) (Nat.lt_of_lt_of_le hla hg) _ _ _, Has3.c_s (Has3.next Hb hB) (Nat.lt_of_lt_of_le hlt hg) _ _ _⟩) (first | (go_at_call 28; first | ((fail_if_success have := hA); refine (rturn_o a1 a2 (a3 : Int) ta _ TA).mono ?_; rintro e w' ⟨rfl, hbw⟩; replace hB := hB.trans (hbw.mono hB.size); clear hbw) | ((fail_if_success have := hA); refine (rturn_o a1 a2 (a3 : Int) ta _ TA).mono ?_; rintro e w' ⟨rfl, hbw⟩; have hg := Nat.le_refl v0.heap.size; have hA := Own3.next (Own3.next (Own3.start _ (.bool false) (.string ⟨#[]⟩) (.int .i64 0) 23) (Below.refl _ _).drew) hbw; replace hB := (((Below.refl _ _).alloc (Nat.le_refl _) _).drew).trans (hbw.mono (((Below.refl v0.heap.size v0).alloc (Nat.le_refl _) (.cells #[.bool false, .string ⟨#[]⟩, .int .i64 0] 23)).drew).size); obtain ⟨⟨_, k0, k1, k2⟩, f0, f1, f2⟩ := id hA; clear hbw)) | (go_at_call 12; first | ((fail_if_success have := hA); refine (unhide H2 _ (hP.next hB)).mono ?_; rintro e w' ⟨rfl, hbw⟩; replace hB := hB.trans (hbw.mono hB.size); clear hbw) | (have := hA; refine (unhide H2 _ (hP.next hB)).mono ?_; rintro e w' ⟨rfl, hbw⟩; replace hA := hA.next hbw; replace hB := hB.trans (hbw.mono hB.size); clear k0 k1 k2 f0 f1 f2; obtain ⟨⟨_, k0, k1, k2⟩, f0, f1, f2⟩ := id hA; clear hbw) | ((fail_if_success have := hA); refine (unhide H2 _ (hP.next (hB.alloc hB.size _))).mono ?_; rintro e w' ⟨rfl, hbw⟩; have hg := hB.size; have hA := Own3.next (Own3.start _ (.bool false) (.string ⟨#[]⟩) (.int .i64 0) 23) hbw; replace hB := (hB.alloc hB.size _).trans (hbw.mono (hB.alloc hB.size (.cells #[.bool false, .string ⟨#[]⟩, .int .i64 0] 23)).size); obtain ⟨⟨_, k0, k1, k2⟩, f0, f1, f2⟩ := id hA; clear hbw)))
      all_goals
        go_wp2_with fail
        go_meet
        case rel =>
          first
          | exact ⟨_, rfl, rfl, hB.size, hB.alloc hB.size _, Has3.start _ _ _ _ _⟩
          | exact ⟨_, rfl, rfl, hg, set3_below hB hg _ _ _, (hA.store _ _ _).1⟩
  case rest =>
    as_aux_lemma =>
      obtain ⟨gY, rfl, rfl, hgY, hB, Y⟩ := hcut
      replace hS := hS.next hB
      replace X := X.next hB
      clear hB
      obtain ⟨_, _, ⟨a0, a01, a02⟩, ⟨b0, b01, b02⟩⟩ := id hS
      obtain ⟨_, X0, X1, X2⟩ := id X
      obtain ⟨_, Y0, Y1, Y2⟩ := id Y
      go_upto_region 7 with fail
      clear a0 a01 a02 b0 b01 b02
      clear X0 X1 X2
      clear Y0 Y1 Y2
      go_cut [11, 12] from 18 to 45 (fun v1 v2 wx => ∃ g : Nat, v1 = .pointer (some ⟨g, 0, none⟩) ∧ v2 = .int .i64 ec ∧ wc.heap.size ≤ g ∧ Below wc.heap.size wc wx ∧ Has3 g (.bool false) (.string ⟨#[]⟩) (.int .i64 0) wx)
      case first =>
        as_aux_lemma =>
          have Ha : Has3 w.heap.size (.bool a1) (.string ⟨a2.toArray⟩) (.int .i64 (a3 : Int)) wc := ⟨Nat.lt_of_succ_lt hS.2.1, hS.2.2.1⟩
          have Hb : Has3 (w.heap.size + 1) (.bool b1) (.string ⟨b2.toArray⟩) (.int .i64 (b3 : Int)) wc := ⟨hS.2.1, hS.2.2.2⟩
          have hP := htab.next hS.1
          have hB : Below wc.heap.size wc wc.drew := (Below.refl _ _).drew
          obtain ⟨hlt, b0, b01, b02⟩ := id Hb
          obtain ⟨hla, a0, a01, a02⟩ := id Ha
          go_region_held3 (fun w' => (w'.cell? ⟨w.heap.size, 0, none⟩ = some (.bool a1) ∧ w'.cell? ⟨w.heap.size, 1, none⟩ = some (.string ⟨a2.toArray⟩) ∧ w'.cell? ⟨w.heap.size, 2, none⟩ = some (.int .i64 (a3 : Int))) ∧ (w'.cell? ⟨w.heap.size + 1, 0, none⟩ = some (.bool b1) ∧ w'.cell? ⟨w.heap.size + 1, 1, none⟩ = some (.string ⟨b2.toArray⟩) ∧ w'.cell? ⟨w.heap.size + 1, 2, none⟩ = some (.int .i64 (b3 : Int)))) (first | with_reducible exact ⟨Has3.c0 (Has3.next Ha hB), Has3.c0 (Has3.next Hb hB)⟩ | with_reducible exact ⟨Has3.c_a (Has3.next Ha hB) _, Has3.c_a (Has3.next Hb hB) _⟩ | with_reducible exact ⟨Has3.c_ad Ha _, Has3.c_ad Hb _⟩ | with_reducible exact ⟨Has3.c_s (Has3.next Ha hB) (Nat.lt_of_lt_of_le hla hg) _ _ _, Has3.c_s (Has3.next Hb hB) (Nat.lt_of_lt_of_le hlt hg) _ _ _⟩) (first | (go_at_call 28; have _t := tok1; first | ((fail_if_success have := hA); refine (rturn_o a1 a2 (a3 : Int) ta _ TA).mono ?_; rintro e w' ⟨rfl, hbw⟩; replace hB := hB.trans (hbw.mono hB.size); clear hbw; clear tok1 _t) | ((fail_if_success have := hA); refine (rturn_o a1 a2 (a3 : Int) ta _ TA).mono ?_; rintro e w' ⟨rfl, hbw⟩; have hg := Nat.le_refl wc.heap.size; have hA := Own3.next (Own3.next (Own3.start _ (.bool false) (.string ⟨#[]⟩) (.int .i64 0) 23) (Below.refl _ _).drew) hbw; replace hB := (((Below.refl _ _).alloc (Nat.le_refl _) _).drew).trans (hbw.mono (((Below.refl wc.heap.size wc).alloc (Nat.le_refl _) (.cells #[.bool false, .string ⟨#[]⟩, .int .i64 0] 23)).drew).size); obtain ⟨⟨_, k0, k1, k2⟩, f0, f1, f2⟩ := id hA; clear hbw; clear tok1 _t)) | (go_at_call 28; have _t := tok2; first | ((fail_if_success have := hA); refine (rturn_o b1 b2 (b3 : Int) tb _ TB).mono ?_; rintro e w' ⟨rfl, hbw⟩; replace hB := hB.trans (hbw.mono hB.size); clear hbw; clear tok2 _t) | (have := hA; refine (rturn_o b1 b2 (b3 : Int) tb _ TB).mono ?_; rintro e w' ⟨rfl, hbw⟩; replace hA := hA.next hbw; replace hB := hB.trans (hbw.mono hB.size); clear k0 k1 k2 f0 f1 f2; obtain ⟨⟨_, k0, k1, k2⟩, f0, f1, f2⟩ := id hA; clear hbw; clear tok2 _t) | ((fail_if_success have := hA); refine (rturn_o b1 b2 (b3 : Int) tb _ TB).mono ?_; rintro e w' ⟨rfl, hbw⟩; have hg := hB.size; have hA := Own3.next (Own3.start _ (.bool false) (.string ⟨#[]⟩) (.int .i64 0) 23) hbw; replace hB := (hB.alloc hB.size _).trans (hbw.mono (hB.alloc hB.size (.cells #[.bool false, .string ⟨#[]⟩, .int .i64 0] 23)).size); obtain ⟨⟨_, k0, k1, k2⟩, f0, f1, f2⟩ := id hA; clear hbw; clear tok2 _t)) | (go_at_call 12; first | ((fail_if_success have := hA); refine (unhide H3 _ (hP.next hB)).mono ?_; rintro e w' ⟨rfl, hbw⟩; replace hB := hB.trans (hbw.mono hB.size); clear hbw) | (have := hA; refine (unhide H3 _ (hP.next hB)).mono ?_; rintro e w' ⟨rfl, hbw⟩; replace hA := hA.next hbw; replace hB := hB.trans (hbw.mono hB.size); clear k0 k1 k2 f0 f1 f2; obtain ⟨⟨_, k0, k1, k2⟩, f0, f1, f2⟩ := id hA; clear hbw) | ((fail_if_success have := hA); refine (unhide H3 _ (hP.next (hB.alloc hB.size _))).mono ?_; rintro e w' ⟨rfl, hbw⟩; have hg := hB.size; have hA := Own3.next (Own3.start _ (.bool false) (.string ⟨#[]⟩) (.int .i64 0) 23) hbw; replace hB := (hB.alloc hB.size _).trans (hbw.mono (hB.alloc hB.size (.cells #[.bool false, .string ⟨#[]⟩, .int .i64 0] 23)).size); obtain ⟨⟨_, k0, k1, k2⟩, f0, f1, f2⟩ := id hA; clear hbw)))
          all_goals
            go_wp2_with fail
            go_meet
            case rel =>
              first
              | exact ⟨_, rfl, rfl, hB.size, hB.alloc hB.size _, Has3.start _ _ _ _ _⟩
              | exact ⟨_, rfl, rfl, hg, set3_below hB hg _ _ _, (hA.store _ _ _).1⟩
      case rest =>
        as_aux_lemma =>
          obtain ⟨gZ, rfl, rfl, hgZ, hB, Z⟩ := hcut
          replace hS := hS.next hB
          replace X := X.next hB
          replace Y := Y.next hB
          clear hB
          obtain ⟨_, _, ⟨a0, a01, a02⟩, ⟨b0, b01, b02⟩⟩ := id hS
          obtain ⟨_, X0, X1, X2⟩ := id X
          obtain ⟨_, Y0, Y1, Y2⟩ := id Y
          obtain ⟨_, Z0, Z1, Z2⟩ := id Z
          go_wp2_with fail
          clear a0 a01 a02 b0 b01 b02
          clear X0 X1 X2
          clear Y0 Y1 Y2
          clear Z0 Z1 Z2
          refine (ceil_c a1 a2 a3 tf f2 _ ha HC (htab.next hS.1)).mono ?_
          rintro e w6 ⟨rfl, hb6⟩
          replace hS := hS.next hb6
          replace X := X.next hb6
          replace Y := Y.next hb6
          replace Z := Z.next hb6
          clear hb6
          replace hS := hS.next ((Below.refl _ _).alloc (Nat.le_refl _) (.cells #[.bool tf, .string ⟨f2.toArray⟩, .int .i64 0] 23))
          replace X := X.next ((Below.refl _ _).alloc (Nat.le_refl _) (.cells #[.bool tf, .string ⟨f2.toArray⟩, .int .i64 0] 23))
          replace Y := Y.next ((Below.refl _ _).alloc (Nat.le_refl _) (.cells #[.bool tf, .string ⟨f2.toArray⟩, .int .i64 0] 23))
          replace Z := Z.next ((Below.refl _ _).alloc (Nat.le_refl _) (.cells #[.bool tf, .string ⟨f2.toArray⟩, .int .i64 0] 23))
          have C := Has3.start w6 (.bool tf) (.string ⟨f2.toArray⟩) (.int .i64 0) 23
          obtain ⟨_, _, ⟨a0, a01, a02⟩, ⟨b0, b01, b02⟩⟩ := id hS
          obtain ⟨_, X0, X1, X2⟩ := id X
          obtain ⟨_, Y0, Y1, Y2⟩ := id Y
          obtain ⟨_, Z0, Z1, Z2⟩ := id Z
          obtain ⟨_, C0, C1, C2⟩ := id C
          go_wp2_with fail
          clear a0 a01 a02 b0 b01 b02
          clear X0 X1 X2
          clear Y0 Y1 Y2
          clear Z0 Z1 Z2
          clear C0 C1 C2
          refine (rturn_o a1 a2 (a3 : Int) ta _ TA).mono ?_
          rintro e w7 ⟨rfl, hb7⟩
          replace hS := hS.next hb7
          replace X := X.next hb7
          replace Y := Y.next hb7
          replace Z := Z.next hb7
          replace C := C.next hb7
          clear hb7
          obtain ⟨_, _, ⟨a0, a01, a02⟩, ⟨b0, b01, b02⟩⟩ := id hS
          obtain ⟨_, X0, X1, X2⟩ := id X
          obtain ⟨_, Y0, Y1, Y2⟩ := id Y
          obtain ⟨_, Z0, Z1, Z2⟩ := id Z
          obtain ⟨_, C0, C1, C2⟩ := id C
          go_wp2_with fail
          clear a0 a01 a02 b0 b01 b02
          clear X0 X1 X2
          clear Y0 Y1 Y2
          clear Z0 Z1 Z2
          clear C0 C1 C2
          refine (floor_c ta a2 a3 f1 f2 _ hta HF (htab.next hS.1)).mono ?_
          rintro e w8 ⟨rfl, hb8⟩
          replace hS := hS.next hb8
          replace X := X.next hb8
          replace Y := Y.next hb8
          replace Z := Z.next hb8
          replace C := C.next hb8
          clear hb8
          replace hS := hS.next ((Below.refl _ _).alloc (Nat.le_refl _) (.cells #[.bool f1, .string ⟨f2.toArray⟩, .int .i64 0] 23))
          replace X := X.next ((Below.refl _ _).alloc (Nat.le_refl _) (.cells #[.bool f1, .string ⟨f2.toArray⟩, .int .i64 0] 23))
          replace Y := Y.next ((Below.refl _ _).alloc (Nat.le_refl _) (.cells #[.bool f1, .string ⟨f2.toArray⟩, .int .i64 0] 23))
          replace Z := Z.next ((Below.refl _ _).alloc (Nat.le_refl _) (.cells #[.bool f1, .string ⟨f2.toArray⟩, .int .i64 0] 23))
          replace C := C.next ((Below.refl _ _).alloc (Nat.le_refl _) (.cells #[.bool f1, .string ⟨f2.toArray⟩, .int .i64 0] 23))
          have F := Has3.start w8 (.bool f1) (.string ⟨f2.toArray⟩) (.int .i64 0) 23
          obtain ⟨_, _, ⟨a0, a01, a02⟩, ⟨b0, b01, b02⟩⟩ := id hS
          obtain ⟨_, X0, X1, X2⟩ := id X
          obtain ⟨_, Y0, Y1, Y2⟩ := id Y
          obtain ⟨_, Z0, Z1, Z2⟩ := id Z
          obtain ⟨_, C0, C1, C2⟩ := id C
          obtain ⟨_, F0, F1, F2⟩ := id F
          go_upto_region 12 with fail
          clear a0 a01 a02 b0 b01 b02
          clear X0 X1 X2
          clear Y0 Y1 Y2
          clear Z0 Z1 Z2
          clear C0 C1 C2
          clear F0 F1 F2
          generalize w8.alloc (.cells #[.bool f1, .string ⟨f2.toArray⟩, .int .i64 0] 23) = v8 at *
          go_cut [17] from 18 to 85 (fun v1 wx => v1 = .bool true ∧ Two w (.bool a1) (.string ⟨a2.toArray⟩) (.int .i64 (a3 : Int)) (.bool b1) (.string ⟨b2.toArray⟩) (.int .i64 (b3 : Int)) wx ∧ Has3 w6.heap.size (.bool tf) (.string ⟨f2.toArray⟩) (.int .i64 0) wx ∧ Has3 w8.heap.size (.bool f1) (.string ⟨f2.toArray⟩) (.int .i64 0) wx)
          case first =>
            as_aux_lemma =>
              refine wp_region_held_drew (S := fun w' => w'.heap.size = w'.heap.size) (by kernel_rfl) ?hS0 (fun hHeld => ?rest0)
              case hS0 => rfl
              case rest0 =>
              refine wpAnyH_take (i := 0) (v := ?v0) rfl (by kernel_rfl) (by kernel_rfl) (by kernel_rfl) (fun _ _ _ h => h) (Or.inl ⟨by rfl, ?hy0⟩) (by assumption) ?rest1
              case hy0 => ((intro w hSw; (try dsimp only at hSw); go_simp) <;> with_reducible rfl)
              case rest1 =>
              try simp only [Act.put, List.getElem_toArray, List.getElem_cons_zero, List.getElem_cons_succ, List.setIfInBounds_toArray, List.set_cons_zero, List.set_cons_succ]
              refine wpAnyH_take (i := 1) (v := ?v1) rfl (by kernel_rfl) (by kernel_rfl) (by kernel_rfl) (fun _ _ _ h => h) (Or.inl ⟨by rfl, ?hy1⟩) (by assumption) ?rest2
              case hy1 => ((intro w hSw; (try dsimp only at hSw); go_simp) <;> with_reducible rfl)
              case rest2 =>
              try simp only [Act.put, List.getElem_toArray, List.getElem_cons_zero, List.getElem_cons_succ, List.setIfInBounds_toArray, List.set_cons_zero, List.set_cons_succ]
              refine wpAnyH_take (i := 2) (v := ?v2) rfl (by kernel_rfl) (by kernel_rfl) (by kernel_rfl) (fun _ _ _ h => h) (Or.inl ⟨by rfl, ?hy2⟩) (by assumption) ?rest3
              case hy2 => ((intro w hSw; (try dsimp only at hSw); go_simp) <;> with_reducible rfl)
              case rest3 =>
              try simp only [Act.put, List.getElem_toArray, List.getElem_cons_zero, List.getElem_cons_succ, List.setIfInBounds_toArray, List.set_cons_zero, List.set_cons_succ]
              refine wpAnyH_take (i := 3) (v := undef) rfl (by kernel_rfl) (by kernel_rfl) (by kernel_rfl) (fun _ _ _ h => h) (Or.inr ⟨by kernel_rfl, rfl⟩) (by assumption) ?_
              try simp only [Act.put, List.getElem_toArray, List.getElem_cons_zero, List.getElem_cons_succ, List.setIfInBounds_toArray, List.set_cons_zero, List.set_cons_succ]
              refine wpAnyH_take (i := 4) (v := undef) rfl (by kernel_rfl) (by kernel_rfl) (by kernel_rfl) (fun _ _ _ h => h) (Or.inr ⟨by kernel_rfl, rfl⟩) (by assumption) ?_
              try simp only [Act.put, List.getElem_toArray, List.getElem_cons_zero, List.getElem_cons_succ, List.setIfInBounds_toArray, List.set_cons_zero, List.set_cons_succ]
              refine wpAnyH_take (i := 5) (v := undef) rfl (by kernel_rfl) (by kernel_rfl) (by kernel_rfl) (fun _ _ _ h => h) (Or.inr ⟨by kernel_rfl, rfl⟩) (by assumption) ?_
              try simp only [Act.put, List.getElem_toArray, List.getElem_cons_zero, List.getElem_cons_succ, List.setIfInBounds_toArray, List.set_cons_zero, List.set_cons_succ]
              refine wpAnyH_take (i := 6) (v := undef) rfl (by kernel_rfl) (by kernel_rfl) (by kernel_rfl) (fun _ _ _ h => h) (Or.inr ⟨by kernel_rfl, rfl⟩) (by assumption) ?_
              try simp only [Act.put, List.getElem_toArray, List.getElem_cons_zero, List.getElem_cons_succ, List.setIfInBounds_toArray, List.set_cons_zero, List.set_cons_succ]
              refine wpAnyH_take (i := 7) (v := undef) rfl (by kernel_rfl) (by kernel_rfl) (by kernel_rfl) (fun _ _ _ h => h) (Or.inr ⟨by kernel_rfl, rfl⟩) (by assumption) ?_
              try simp only [Act.put, List.getElem_toArray, List.getElem_cons_zero, List.getElem_cons_succ, List.setIfInBounds_toArray, List.set_cons_zero, List.set_cons_succ]
              refine wpAnyH_take (i := 8) (v := undef) rfl (by kernel_rfl) (by kernel_rfl) (by kernel_rfl) (fun _ _ _ h => h) (Or.inr ⟨by kernel_rfl, rfl⟩) (by assumption) ?_
              try simp only [Act.put, List.getElem_toArray, List.getElem_cons_zero, List.getElem_cons_succ, List.setIfInBounds_toArray, List.set_cons_zero, List.set_cons_succ]
              refine wpAnyH_take (i := 9) (v := undef) rfl (by kernel_rfl) (by kernel_rfl) (by kernel_rfl) (fun _ _ _ h => h) (Or.inr ⟨by kernel_rfl, rfl⟩) (by assumption) ?_
              try simp only [Act.put, List.getElem_toArray, List.getElem_cons_zero, List.getElem_cons_succ, List.setIfInBounds_toArray, List.set_cons_zero, List.set_cons_succ]
              refine wpAnyH_take (i := 10) (v := undef) rfl (by kernel_rfl) (by kernel_rfl) (by kernel_rfl) (fun _ _ _ h => h) (Or.inr ⟨by kernel_rfl, rfl⟩) (by assumption) ?_
              try simp only [Act.put, List.getElem_toArray, List.getElem_cons_zero, List.getElem_cons_succ, List.setIfInBounds_toArray, List.set_cons_zero, List.set_cons_succ]
              refine wpAnyH_take (i := 11) (v := undef) rfl (by kernel_rfl) (by kernel_rfl) (by kernel_rfl) (fun _ _ _ h => h) (Or.inr ⟨by kernel_rfl, rfl⟩) (by assumption) ?_
              try simp only [Act.put, List.getElem_toArray, List.getElem_cons_zero, List.getElem_cons_succ, List.setIfInBounds_toArray, List.set_cons_zero, List.set_cons_succ]
              refine wpAnyH_take (i := 12) (v := ?v12) rfl (by kernel_rfl) (by kernel_rfl) (by kernel_rfl) (fun _ _ _ h => h) (Or.inl ⟨by rfl, ?hy12⟩) (by assumption) ?rest13
              case hy12 => ((intro w hSw; (try dsimp only at hSw); go_simp) <;> with_reducible rfl)
              case rest13 =>
              try simp only [Act.put, List.getElem_toArray, List.getElem_cons_zero, List.getElem_cons_succ, List.setIfInBounds_toArray, List.set_cons_zero, List.set_cons_succ]
              refine wpAnyH_take (i := 13) (v := ?v13) rfl (by kernel_rfl) (by kernel_rfl) (by kernel_rfl) (fun _ _ _ h => h) (Or.inl ⟨by rfl, ?hy13⟩) (by assumption) ?rest14
              case hy13 => ((intro w hSw; (try dsimp only at hSw); go_simp) <;> with_reducible rfl)
              case rest14 =>
              try simp only [Act.put, List.getElem_toArray, List.getElem_cons_zero, List.getElem_cons_succ, List.setIfInBounds_toArray, List.set_cons_zero, List.set_cons_succ]
              refine wpAnyH_done (by kernel_rfl) ?_ _
              go_wp2_with fail
              go_meet
              case rel => exact ⟨rfl, hS.drew, C.drew, F.drew⟩
          case rest =>
            as_aux_lemma =>
              clear X Y Z hS C F
              obtain ⟨rfl, hS, C, F⟩ := hcut
              obtain ⟨_, _, ⟨a0, a01, a02⟩, ⟨b0, b01, b02⟩⟩ := id hS
              obtain ⟨_, C0, C1, C2⟩ := id C
              obtain ⟨_, F0, F1, F2⟩ := id F
              go_wp2_with fail
              go_region_held3 (fun w' => (w'.cell? ⟨w6.heap.size, 0, none⟩ = some (.bool tf) ∧ w'.cell? ⟨w6.heap.size, 1, none⟩ = some (.string ⟨f2.toArray⟩) ∧ w'.cell? ⟨w6.heap.size, 2, none⟩ = some (.int .i64 0)) ∧ (w'.cell? ⟨w8.heap.size, 0, none⟩ = some (.bool f1) ∧ w'.cell? ⟨w8.heap.size, 1, none⟩ = some (.string ⟨f2.toArray⟩) ∧ w'.cell? ⟨w8.heap.size, 2, none⟩ = some (.int .i64 0))) (first | exact ⟨C.2, F.2⟩ | exact ⟨C.drew.2, F.drew.2⟩) (first | (go_at_call 28; refine (rturn_o f1 f2 0 tf _ TF).mono ?_; rintro e w' ⟨rfl, hbw⟩; replace hS := Two.next (by first | exact hS | exact hS.drew) hbw; clear a0 a01 a02 b0 b01 b02; obtain ⟨_, _, ⟨a0, a01, a02⟩, ⟨b0, b01, b02⟩⟩ := id hS; replace C := Has3.next (by first | exact C | exact C.drew) hbw; clear C0 C1 C2; obtain ⟨_, C0, C1, C2⟩ := id C; replace F := Has3.next (by first | exact F | exact F.drew) hbw; clear F0 F1 F2; obtain ⟨_, F0, F1, F2⟩ := id F; clear hbw))
              all_goals
                go_wp2
                go_ret
                exact ⟨rfl, hS.1⟩
theorem rep_any (z : Int) (s : Nat) : ∃ r, Dm.Rep z s r := by
  by_cases h : ∃ d, Dm.May d ∧ Dm.sg d * Dm.p10 s = z * Dm.p10 d.sc
  · obtain ⟨d, h1, h2⟩ := h
    exact ⟨some d, h1, h2⟩
  · exact ⟨none, fun d hd he => h ⟨d, hd, he⟩⟩
theorem drop_ex {W : Nat} (h : W = 0 ∨ 10 ^ 34 ≤ W) : ∃ t, Dm.DropT W t := by
  rcases h with h | h
  · exact ⟨0, .inl ⟨h, rfl⟩⟩
  · obtain ⟨l, hl, e⟩ := Dm.digits_exist W
    have hT := Dm.tl_allD hl
    have hTn : Dm.num (Dm.tl l) = W := by rw [Dm.tl_num, e]
    have hne : Dm.tl l ≠ [] := by
      intro h0
      rw [h0, Dm.num_nil] at hTn
      have := Dm.pow_pos' 34
      omega
    obtain ⟨c, t, ec, hc⟩ := Dm.tl_lead l hne
    rw [ec] at hT hTn
    have h1 := Dm.num_ge (l := t) (Dm.allD_cons.1 hT).1 hc
    have h2 := Dm.num_lt hT
    rw [hTn] at h1 h2
    rw [List.length_cons] at h2
    have h3 : 34 < t.length + 1 := by
      rcases Nat.lt_or_ge 34 (t.length + 1) with g | g
      · exact g
      · have := Nat.pow_le_pow_right (n := 10) (by omega) g
        omega
    refine ⟨t.length - 33, .inr ⟨by omega, ?_, ?_⟩⟩
    · rw [show t.length - 33 + 33 = t.length from by omega]; exact h1
    · rw [show t.length - 33 + 34 = t.length + 1 from by omega]; exact h2
theorem div_ex (s : Bool) {y : List UInt8} {z : Nat} {y2 : List UInt8} {z2 : Nat} {x x2 : Bool} (h : Dm.May ⟨x, y, z⟩) (h2 : Dm.May ⟨x2, y2, z2⟩) (hne : y2 ≠ [48]) : ∃ r, Dm.DivRep s y z y2 z2 r := by
  obtain ⟨n, hn⟩ : ∃ n : Nat, (n : Int) = max 0 (35 + (y2.length : Int) - (y.length : Int)) := ⟨(max 0 (35 + (y2.length : Int) - (y.length : Int))).toNat, by omega⟩
  have hpos := (Dm.lead_of h2 hne).2
  have hbig : Dm.num y * 10 ^ n / Dm.num y2 = 0 ∨ 10 ^ 34 ≤ Dm.num y * 10 ^ n / Dm.num y2 := by
    by_cases e : y = [48]
    · left
      have h0 : Dm.num y = 0 := by rw [e]; rfl
      rw [h0, Nat.zero_mul, Nat.zero_div]
    · exact .inr (Dm.big_quot h.1 (Dm.lead_of h e).1 h2.1 hn hpos)
  obtain ⟨t, ht⟩ := drop_ex hbig
  obtain ⟨r, hr⟩ := rep_any (Dm.sgn s (Dm.nearN t (y2.length + 1) (Dm.num y * 10 ^ n / Dm.num y2) (Dm.num y * 10 ^ n % Dm.num y2)) * Dm.p10 (-((z : Int) + n - z2 - t)).toNat) ((z : Int) + n - z2 - t).toNat
  exact ⟨r, n, t, hn, ht, hr⟩
theorem div_is (x : Bool) (y : List UInt8) (z : Nat) (x2 : Bool) (y2 : List UInt8) (z2 : Nat) (r : Option Dm.D) (W : World) (h : Dm.May ⟨x, y, z⟩) (h2 : Dm.May ⟨x2, y2, z2⟩) (hne : y2 ≠ [48]) (hu : ∀ r', Dm.DivRep (x != x2) y z y2 z2 r' → r' = r) (hW : Pow W) :
    Calls Tryz.prog 12 #[.agg #[.bool x, .string ⟨y.toArray⟩, .int .i64 (z : Int)], .agg #[.bool x2, .string ⟨y2.toArray⟩, .int .i64 (z2 : Int)]] W fun e w' => e = .returned (tV r) ∧ Below W.heap.size W w' := by
  obtain ⟨n, hn⟩ : ∃ n : Nat, max 0 (35 + (y2.length : Int) - (y.length : Int)) = (n : Int) := ⟨(max 0 (35 + (y2.length : Int) - (y.length : Int))).toNat, by omega⟩
  refine (div_r x y z x2 y2 z2 n W h h2 hne hn hW).mono ?_
  rintro e w' ⟨r', rfl, hr, hB⟩
  rw [hu r' hr]
  exact ⟨rfl, hB⟩
theorem turns_walk (x1 : Bool) (s1 : ByteArray) (n1 : Int) (x2 : Bool) (s2 : ByteArray) (n2 : Int) (w : World) (hs1 : s1.size ≤ maxLen) (hs2 : s2.size ≤ maxLen) (htab : Pow w) :
    Calls Tryz.prog 7 #[.agg #[.bool x1, .string s1, .int .i64 n1], .agg #[.bool x2, .string s2, .int .i64 n2]] w fun e w' => e = .returned (.bool true) ∧ Below w.heap.size w w' := by
  cases hm : (Dm.mayB x1 s1.data.toList n1 && Dm.mayB x2 s2.data.toList n2) with
  | false => exact turns_no x1 s1 n1 x2 s2 n2 w hs1 hs2 hm htab
  | true =>
    rw [Bool.and_eq_true] at hm
    obtain ⟨a2, a3, rfl, rfl, ha⟩ := may_split5 hm.1
    obtain ⟨b2, b3, rfl, rfl, hb⟩ := may_split5 hm.2
    have hta := trn_may ha
    have htb := trn_may hb
    have hlt : Dm.num a2 / 10 ^ a3 + (decide (0 < a3) && trn x1 a2).toNat < 10 ^ 60 := Dm.whole_lt ha _ (by cases (decide (0 < a3) && trn x1 a2) <;> decide) (by
      by_cases g : 0 < a3
      · exact .inl g
      · right; rw [decide_eq_false g]; rfl)
    obtain ⟨f1, f2, mf, sf, hf⟩ := Dm.rep_ex (ng := trn x1 a2) hlt
    have hc := ceil_floor ha (Dm.Rep.of_eqv mf (by rw [sf]))
    by_cases h0 : b2 = [48]
    · have e := Dm.zero_of hb h0
      injection e with e1 e2 e3
      subst e1 e2 e3
      exact turns_err x1 a2 a3 false [48] 0 _ _ f1 f2 _ w ha hb (hide rfl) (hide rfl) (hide rfl) hta (hide hc) (hide hf) 5 (by decide) (hide (fun W _ => div_none _ _ _ _ _ W)) (hide (fun W _ => div_none _ _ _ _ _ W)) (hide (fun W _ => div_none _ _ _ _ _ W)) htab
    · obtain ⟨r, hr⟩ := div_ex (x1 != x2) ha hb h0
      have d1 := fun W hW => div_is x1 a2 a3 x2 b2 b3 r W ha hb h0 (fun r' h => h.uniq hr) hW
      have d2 := fun W hW => div_is (trn x1 a2) a2 a3 x2 b2 b3 (Dm.turnR r) W hta hb h0 (fun r' h => div_turn hr h) hW
      have d3 := fun W hW => div_is (trn x1 a2) a2 a3 (trn x2 b2) b2 b3 r W hta htb h0 (fun r' h => div_turn2 h0 hr h) hW
      cases r with
      | none => exact turns_err x1 a2 a3 x2 b2 b3 _ _ f1 f2 _ w ha hb (hide rfl) (hide rfl) (hide rfl) hta (hide hc) (hide hf) 3 (by decide) (hide d1) (hide d2) (hide d3) htab
      | some d =>
        obtain ⟨p1, p2, p3⟩ := d
        rw [turnR_some] at d2
        exact turns_ok x1 a2 a3 x2 b2 b3 _ _ f1 f2 _ w ha hb (hide rfl) (hide rfl) (hide rfl) hta (hide hc) (hide hf) p1 p2 p3 _ (hide rfl) (hide d1) (hide d2) (hide d3) htab
end Go.Proofs.YtmlmplmghlbdmaaGreatDoor
