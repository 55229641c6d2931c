/- What is proved here: what the law DivideNear does with any decimal, walked; condition: the table of powers of ten lies in the world. -/
import Derived.Test.YtmlmplmghlbdmaaGreatDoorDv
namespace Go.Proofs.YtmlmplmghlbdmaaGreatDoor
open Go.RowKit
set_option linter.unusedVariables false
set_option linter.unusedSimpArgs false

set_option maxRecDepth 100000 in
set_option maxHeartbeats 2000000 in
theorem near_no (ng : Bool) (t : ByteArray) (z : Int) (w : World) (ht : t.size ≤ maxLen) (hm : Dm.mayB ng t.data.toList z = false) (htab : Pow w) :
    Calls Tryz.prog 6 #[.agg #[.bool ng, .string t, .int .i64 z]] w fun e w' => e = .returned (.bool true) ∧ Below w.heap.size w w' := by
  have hS := Box3.start w (.bool ng) (.string t) (.int .i64 z) 23
  have HM := hide hm
  clear hm
  go_enter Tryz.func6, Tryz.ntmps6
  obtain ⟨_, _, a0, a1, a2⟩ := id hS
  go_wp2_with fail
  clear a0 a1 a2
  refine (shown2 _ (htab.next hS.1)).mono ?_
  rintro e w1 ⟨rfl, hb1⟩
  replace hS := hS.next hb1
  clear hb1
  obtain ⟨_, _, a0, a1, a2⟩ := id hS
  go_wp2_with fail
  clear a0 a1 a2
  refine (rmay_b ng t z false _ ht (unhide HM)).mono ?_
  rintro e w2 ⟨rfl, hb2⟩
  replace hS := hS.next hb2
  clear hb2
  obtain ⟨_, _, a0, a1, a2⟩ := id hS
  go_wp2
  go_ret
  exact ⟨rfl, hS.1⟩
set_option maxRecDepth 100000 in
set_option maxHeartbeats 4000000 in
theorem near_0 (x : Bool) (l : List UInt8) (w : World) (h : Dm.May ⟨x, l, 0⟩) (htab : Pow w) :
    Calls Tryz.prog 6 #[.agg #[.bool x, .string ⟨l.toArray⟩, .int .i64 0]] w fun e w' => e = .returned (.bool true) ∧ Below w.heap.size w w' := by
  have hS := Box3.start w (.bool x) (.string ⟨l.toArray⟩) (.int .i64 0) 23
  have hs : (⟨l.toArray⟩ : ByteArray).size ≤ maxLen := by rw [mk_size]; have := (may_len h).2.1; simp only at this; unfold maxLen; omega
  have HM := hide (dV_may h)
  have ft : ∀ b : Bool, (decide (0 < 0) && b).toNat = 0 := by intro b; rfl
  have HF : Hid (∀ r, Dm.Rep (Dm.sgn x (Dm.num l / 10 ^ 0 + (decide (0 < 0) && x).toNat)) 0 r → r = some ⟨x, l, 0⟩) := hide (fun r hr => Dm.whole_same h rfl (by rw [ft] at hr; exact hr))
  have HC : Hid (∀ r, Dm.Rep (Dm.sgn x (Dm.num l / 10 ^ 0 + (decide (0 < 0) && !x).toNat)) 0 r → r = some ⟨x, l, 0⟩) := hide (fun r hr => Dm.whole_same h rfl (by rw [ft] at hr; exact hr))
  have HB : Hid ((decide (0 < 0) && (decide (0 ≤ l.length) && decide (53 ≤ (l.getD (l.length - 0) 0).toNat))) = false) := hide rfl
  have HR : Hid (∀ r, Dm.Rep (Dm.sgn x (Dm.num l / 10 ^ 0 + false.toNat)) 0 r → r = some ⟨x, l, 0⟩) := hide (fun r hr => Dm.whole_same h rfl hr)
  clear ft
  go_enter Tryz.func6, Tryz.ntmps6
  obtain ⟨_, _, a0, a1, a2⟩ := id hS
  go_wp2_with fail
  clear a0 a1 a2
  refine (shown2 _ (htab.next hS.1)).mono ?_
  rintro e w1 ⟨rfl, hb1⟩
  replace hS := hS.next hb1
  clear hb1
  obtain ⟨_, _, a0, a1, a2⟩ := id hS
  go_wp2_with fail
  clear a0 a1 a2
  refine (rmay_b x ⟨l.toArray⟩ 0 true _ hs (unhide HM)).mono ?_
  rintro e w2 ⟨rfl, hb2⟩
  replace hS := hS.next hb2
  clear hb2
  obtain ⟨_, _, a0, a1, a2⟩ := id hS
  go_wp2_with fail
  clear a0 a1 a2
  refine (floor_c x l 0 x l _ h HF (htab.next hS.1)).mono ?_
  rintro e w3 ⟨rfl, hb3⟩
  replace hS := hS.next hb3
  clear hb3
  replace hS := hS.next ((Below.refl _ _).alloc (Nat.le_refl _) (.cells #[.bool x, .string ⟨l.toArray⟩, .int .i64 0] 23))
  have F := Has3.start w3 (.bool x) (.string ⟨l.toArray⟩) (.int .i64 0) 23
  obtain ⟨_, _, a0, a1, a2⟩ := id hS
  obtain ⟨_, F0, F1, F2⟩ := id F
  go_wp2_with fail
  clear a0 a1 a2
  clear F0 F1 F2
  refine (ceil_c x l 0 x l _ h HC (htab.next hS.1)).mono ?_
  rintro e w4 ⟨rfl, hb4⟩
  replace hS := hS.next hb4
  replace F := F.next hb4
  clear hb4
  replace hS := hS.next ((Below.refl _ _).alloc (Nat.le_refl _) (.cells #[.bool x, .string ⟨l.toArray⟩, .int .i64 0] 23))
  replace F := F.next ((Below.refl _ _).alloc (Nat.le_refl _) (.cells #[.bool x, .string ⟨l.toArray⟩, .int .i64 0] 23))
  have C := Has3.start w4 (.bool x) (.string ⟨l.toArray⟩) (.int .i64 0) 23
  obtain ⟨_, _, a0, a1, a2⟩ := id hS
  obtain ⟨_, F0, F1, F2⟩ := id F
  obtain ⟨_, C0, C1, C2⟩ := id C
  go_wp2_with fail
  clear a0 a1 a2
  clear F0 F1 F2
  clear C0 C1 C2
  refine (round_c x l 0 false x l _ h HB HR (htab.next hS.1)).mono ?_
  rintro e w5 ⟨rfl, hb5⟩
  replace hS := hS.next hb5
  replace F := F.next hb5
  replace C := C.next hb5
  clear hb5
  replace hS := hS.next ((Below.refl _ _).alloc (Nat.le_refl _) (.cells #[.bool x, .string ⟨l.toArray⟩, .int .i64 0] 23))
  replace F := F.next ((Below.refl _ _).alloc (Nat.le_refl _) (.cells #[.bool x, .string ⟨l.toArray⟩, .int .i64 0] 23))
  replace C := C.next ((Below.refl _ _).alloc (Nat.le_refl _) (.cells #[.bool x, .string ⟨l.toArray⟩, .int .i64 0] 23))
  have R := Has3.start w5 (.bool x) (.string ⟨l.toArray⟩) (.int .i64 0) 23
  obtain ⟨_, _, a0, a1, a2⟩ := id hS
  obtain ⟨_, F0, F1, F2⟩ := id F
  obtain ⟨_, C0, C1, C2⟩ := id C
  obtain ⟨_, R0, R1, R2⟩ := id R
  go_wp2_with fail
  clear a0 a1 a2
  clear F0 F1 F2
  clear C0 C1 C2
  clear R0 R1 R2
  refine (radd_u x l _ h).mono ?_
  rintro e w6 ⟨o1, o2, o3, o4, rfl, hb6⟩
  replace hS := hS.next hb6
  replace F := F.next hb6
  replace C := C.next hb6
  replace R := R.next hb6
  clear hb6
  replace hS := hS.next ((Below.refl _ _).alloc (Nat.le_refl _) (.cells #[.bool o1, .string o2, .int .i64 o3] 23))
  replace F := F.next ((Below.refl _ _).alloc (Nat.le_refl _) (.cells #[.bool o1, .string o2, .int .i64 o3] 23))
  replace C := C.next ((Below.refl _ _).alloc (Nat.le_refl _) (.cells #[.bool o1, .string o2, .int .i64 o3] 23))
  replace R := R.next ((Below.refl _ _).alloc (Nat.le_refl _) (.cells #[.bool o1, .string o2, .int .i64 o3] 23))
  have O := Has3.start w6 (.bool o1) (.string o2) (.int .i64 o3) 23
  obtain ⟨_, _, a0, a1, a2⟩ := id hS
  obtain ⟨_, F0, F1, F2⟩ := id F
  obtain ⟨_, C0, C1, C2⟩ := id C
  obtain ⟨_, R0, R1, R2⟩ := id R
  obtain ⟨_, O0, O1, O2⟩ := id O
  go_wp2
  go_ret
  exact ⟨rfl, hS.1⟩
set_option maxRecDepth 100000 in
set_option maxHeartbeats 4000000 in
theorem near_pos (x : Bool) (l : List UInt8) (z : Nat) (b f1 c1 g1 : Bool) (f2 c2 g2 : List UInt8) (w : World) (h : Dm.May ⟨x, l, z⟩) (hz : 0 < z) (mf : Dm.May ⟨f1, f2, 0⟩) (mc : Dm.May ⟨c1, c2, 0⟩)
    (HF : Hid (∀ r, Dm.Rep (Dm.sgn x (Dm.num l / 10 ^ z + (decide (0 < z) && x).toNat)) 0 r → r = some ⟨f1, f2, 0⟩))
    (HC : Hid (∀ r, Dm.Rep (Dm.sgn x (Dm.num l / 10 ^ z + (decide (0 < z) && !x).toNat)) 0 r → r = some ⟨c1, c2, 0⟩))
    (HB : Hid ((decide (0 < z) && (decide (z ≤ l.length) && decide (53 ≤ (l.getD (l.length - z) 0).toNat))) = b))
    (HR : Hid (∀ r, Dm.Rep (Dm.sgn x (Dm.num l / 10 ^ z + b.toNat)) 0 r → r = some ⟨g1, g2, 0⟩))
    (HA : Hid (∀ r, Dm.Rep (Dm.sg ⟨f1, f2, 0⟩ + 1) 0 r → r = some ⟨c1, c2, 0⟩))
    (Q1 : Hid (sgI (Dm.sg ⟨f1, f2, 0⟩ * Dm.p10 z - Dm.sg ⟨x, l, z⟩ * Dm.p10 0) = -1)) (Q2 : Hid (sgI (Dm.sg ⟨x, l, z⟩ * Dm.p10 0 - Dm.sg ⟨c1, c2, 0⟩ * Dm.p10 z) = -1))
    (hg : (g1 = f1 ∧ g2 = f2) ∨ (g1 = c1 ∧ g2 = c2)) (hcf : (c2 == f2) = false) (htab : Pow w) :
    Calls Tryz.prog 6 #[.agg #[.bool x, .string ⟨l.toArray⟩, .int .i64 (z : Int)]] w fun e w' => e = .returned (.bool true) ∧ Below w.heap.size w w' := by
  have hS := Box3.start w (.bool x) (.string ⟨l.toArray⟩) (.int .i64 (z : Int)) 23
  have hs : (⟨l.toArray⟩ : ByteArray).size ≤ maxLen := by rw [mk_size]; have := (may_len h).2.1; simp only at this; unfold maxLen; omega
  have HM := hide (dV_may h)
  have z1 : ((z : Int) == 0) = false := beq_eq_false_iff_ne.2 (by omega)
  have z2 : (0 : Int) < (z : Int) := by omega
  rcases hg with ⟨hg1, hg2⟩ | ⟨hg1, hg2⟩
  · subst hg1 hg2
    go_enter Tryz.func6, Tryz.ntmps6
    obtain ⟨_, _, a0, a1, a2⟩ := id hS
    go_wp2_with fail
    clear a0 a1 a2
    refine (shown2 _ (htab.next hS.1)).mono ?_
    rintro e w1 ⟨rfl, hb1⟩
    replace hS := hS.next hb1
    clear hb1
    obtain ⟨_, _, a0, a1, a2⟩ := id hS
    go_wp2_with fail
    clear a0 a1 a2
    refine (rmay_b x ⟨l.toArray⟩ (z : Int) true _ hs (unhide HM)).mono ?_
    rintro e w2 ⟨rfl, hb2⟩
    replace hS := hS.next hb2
    clear hb2
    obtain ⟨_, _, a0, a1, a2⟩ := id hS
    go_wp2_with fail
    clear a0 a1 a2
    refine (floor_c x l z g1 g2 _ h HF (htab.next hS.1)).mono ?_
    rintro e w3 ⟨rfl, hb3⟩
    replace hS := hS.next hb3
    clear hb3
    replace hS := hS.next ((Below.refl _ _).alloc (Nat.le_refl _) (.cells #[.bool g1, .string ⟨g2.toArray⟩, .int .i64 0] 23))
    have F := Has3.start w3 (.bool g1) (.string ⟨g2.toArray⟩) (.int .i64 0) 23
    obtain ⟨_, _, a0, a1, a2⟩ := id hS
    obtain ⟨_, F0, F1, F2⟩ := id F
    go_wp2_with fail
    clear a0 a1 a2
    clear F0 F1 F2
    refine (ceil_c x l z c1 c2 _ h HC (htab.next hS.1)).mono ?_
    rintro e w4 ⟨rfl, hb4⟩
    replace hS := hS.next hb4
    replace F := F.next hb4
    clear hb4
    replace hS := hS.next ((Below.refl _ _).alloc (Nat.le_refl _) (.cells #[.bool c1, .string ⟨c2.toArray⟩, .int .i64 0] 23))
    replace F := F.next ((Below.refl _ _).alloc (Nat.le_refl _) (.cells #[.bool c1, .string ⟨c2.toArray⟩, .int .i64 0] 23))
    have C := Has3.start w4 (.bool c1) (.string ⟨c2.toArray⟩) (.int .i64 0) 23
    obtain ⟨_, _, a0, a1, a2⟩ := id hS
    obtain ⟨_, F0, F1, F2⟩ := id F
    obtain ⟨_, C0, C1, C2⟩ := id C
    go_wp2_with fail
    clear a0 a1 a2
    clear F0 F1 F2
    clear C0 C1 C2
    refine (round_c x l z b g1 g2 _ h HB HR (htab.next hS.1)).mono ?_
    rintro e w5 ⟨rfl, hb5⟩
    replace hS := hS.next hb5
    replace F := F.next hb5
    replace C := C.next hb5
    clear hb5
    replace hS := hS.next ((Below.refl _ _).alloc (Nat.le_refl _) (.cells #[.bool g1, .string ⟨g2.toArray⟩, .int .i64 0] 23))
    replace F := F.next ((Below.refl _ _).alloc (Nat.le_refl _) (.cells #[.bool g1, .string ⟨g2.toArray⟩, .int .i64 0] 23))
    replace C := C.next ((Below.refl _ _).alloc (Nat.le_refl _) (.cells #[.bool g1, .string ⟨g2.toArray⟩, .int .i64 0] 23))
    have R := Has3.start w5 (.bool g1) (.string ⟨g2.toArray⟩) (.int .i64 0) 23
    obtain ⟨_, _, a0, a1, a2⟩ := id hS
    obtain ⟨_, F0, F1, F2⟩ := id F
    obtain ⟨_, C0, C1, C2⟩ := id C
    obtain ⟨_, R0, R1, R2⟩ := id R
    go_wp2_with fail
    clear a0 a1 a2
    clear F0 F1 F2
    clear C0 C1 C2
    clear R0 R1 R2
    refine (radd_c g1 g2 c1 c2 _ mf HA).mono ?_
    rintro e w6 ⟨rfl, hb6⟩
    replace hS := hS.next hb6
    replace F := F.next hb6
    replace C := C.next hb6
    replace R := R.next hb6
    clear hb6
    replace hS := hS.next ((Below.refl _ _).alloc (Nat.le_refl _) (.cells #[.bool c1, .string ⟨c2.toArray⟩, .int .i64 0] 23))
    replace F := F.next ((Below.refl _ _).alloc (Nat.le_refl _) (.cells #[.bool c1, .string ⟨c2.toArray⟩, .int .i64 0] 23))
    replace C := C.next ((Below.refl _ _).alloc (Nat.le_refl _) (.cells #[.bool c1, .string ⟨c2.toArray⟩, .int .i64 0] 23))
    replace R := R.next ((Below.refl _ _).alloc (Nat.le_refl _) (.cells #[.bool c1, .string ⟨c2.toArray⟩, .int .i64 0] 23))
    have O := Has3.start w6 (.bool c1) (.string ⟨c2.toArray⟩) (.int .i64 0) 23
    obtain ⟨_, _, a0, a1, a2⟩ := id hS
    obtain ⟨_, F0, F1, F2⟩ := id F
    obtain ⟨_, C0, C1, C2⟩ := id C
    obtain ⟨_, R0, R1, R2⟩ := id R
    obtain ⟨_, O0, O1, O2⟩ := id O
    go_wp2_with fail
    clear a0 a1 a2
    clear F0 F1 F2
    clear C0 C1 C2
    clear R0 R1 R2
    clear O0 O1 O2
    refine (rcmp_0 g1 g2 x l z (-1) _ mf h Q1).mono ?_
    rintro e w7 ⟨rfl, hb7⟩
    replace hS := hS.next hb7
    replace F := F.next hb7
    replace C := C.next hb7
    replace R := R.next hb7
    replace O := O.next hb7
    clear hb7
    obtain ⟨_, _, a0, a1, a2⟩ := id hS
    obtain ⟨_, F0, F1, F2⟩ := id F
    obtain ⟨_, C0, C1, C2⟩ := id C
    obtain ⟨_, R0, R1, R2⟩ := id R
    obtain ⟨_, O0, O1, O2⟩ := id O
    go_wp2_with fail
    clear a0 a1 a2
    clear F0 F1 F2
    clear C0 C1 C2
    clear R0 R1 R2
    clear O0 O1 O2
    refine (rcmp_1 c1 c2 x l z (-1) _ mc h Q2).mono ?_
    rintro e w8 ⟨rfl, hb8⟩
    replace hS := hS.next hb8
    replace F := F.next hb8
    replace C := C.next hb8
    replace R := R.next hb8
    replace O := O.next hb8
    clear hb8
    obtain ⟨_, _, a0, a1, a2⟩ := id hS
    obtain ⟨_, F0, F1, F2⟩ := id F
    obtain ⟨_, C0, C1, C2⟩ := id C
    obtain ⟨_, R0, R1, R2⟩ := id R
    obtain ⟨_, O0, O1, O2⟩ := id O
    go_wp2
    go_ret
    exact ⟨rfl, hS.1⟩
  · subst hg1 hg2
    go_enter Tryz.func6, Tryz.ntmps6
    obtain ⟨_, _, a0, a1, a2⟩ := id hS
    go_wp2_with fail
    clear a0 a1 a2
    refine (shown2 _ (htab.next hS.1)).mono ?_
    rintro e w1 ⟨rfl, hb1⟩
    replace hS := hS.next hb1
    clear hb1
    obtain ⟨_, _, a0, a1, a2⟩ := id hS
    go_wp2_with fail
    clear a0 a1 a2
    refine (rmay_b x ⟨l.toArray⟩ (z : Int) true _ hs (unhide HM)).mono ?_
    rintro e w2 ⟨rfl, hb2⟩
    replace hS := hS.next hb2
    clear hb2
    obtain ⟨_, _, a0, a1, a2⟩ := id hS
    go_wp2_with fail
    clear a0 a1 a2
    refine (floor_c x l z f1 f2 _ h HF (htab.next hS.1)).mono ?_
    rintro e w3 ⟨rfl, hb3⟩
    replace hS := hS.next hb3
    clear hb3
    replace hS := hS.next ((Below.refl _ _).alloc (Nat.le_refl _) (.cells #[.bool f1, .string ⟨f2.toArray⟩, .int .i64 0] 23))
    have F := Has3.start w3 (.bool f1) (.string ⟨f2.toArray⟩) (.int .i64 0) 23
    obtain ⟨_, _, a0, a1, a2⟩ := id hS
    obtain ⟨_, F0, F1, F2⟩ := id F
    go_wp2_with fail
    clear a0 a1 a2
    clear F0 F1 F2
    refine (ceil_c x l z g1 g2 _ h HC (htab.next hS.1)).mono ?_
    rintro e w4 ⟨rfl, hb4⟩
    replace hS := hS.next hb4
    replace F := F.next hb4
    clear hb4
    replace hS := hS.next ((Below.refl _ _).alloc (Nat.le_refl _) (.cells #[.bool g1, .string ⟨g2.toArray⟩, .int .i64 0] 23))
    replace F := F.next ((Below.refl _ _).alloc (Nat.le_refl _) (.cells #[.bool g1, .string ⟨g2.toArray⟩, .int .i64 0] 23))
    have C := Has3.start w4 (.bool g1) (.string ⟨g2.toArray⟩) (.int .i64 0) 23
    obtain ⟨_, _, a0, a1, a2⟩ := id hS
    obtain ⟨_, F0, F1, F2⟩ := id F
    obtain ⟨_, C0, C1, C2⟩ := id C
    go_wp2_with fail
    clear a0 a1 a2
    clear F0 F1 F2
    clear C0 C1 C2
    refine (round_c x l z b g1 g2 _ h HB HR (htab.next hS.1)).mono ?_
    rintro e w5 ⟨rfl, hb5⟩
    replace hS := hS.next hb5
    replace F := F.next hb5
    replace C := C.next hb5
    clear hb5
    replace hS := hS.next ((Below.refl _ _).alloc (Nat.le_refl _) (.cells #[.bool g1, .string ⟨g2.toArray⟩, .int .i64 0] 23))
    replace F := F.next ((Below.refl _ _).alloc (Nat.le_refl _) (.cells #[.bool g1, .string ⟨g2.toArray⟩, .int .i64 0] 23))
    replace C := C.next ((Below.refl _ _).alloc (Nat.le_refl _) (.cells #[.bool g1, .string ⟨g2.toArray⟩, .int .i64 0] 23))
    have R := Has3.start w5 (.bool g1) (.string ⟨g2.toArray⟩) (.int .i64 0) 23
    obtain ⟨_, _, a0, a1, a2⟩ := id hS
    obtain ⟨_, F0, F1, F2⟩ := id F
    obtain ⟨_, C0, C1, C2⟩ := id C
    obtain ⟨_, R0, R1, R2⟩ := id R
    go_wp2_with fail
    clear a0 a1 a2
    clear F0 F1 F2
    clear C0 C1 C2
    clear R0 R1 R2
    refine (radd_c f1 f2 g1 g2 _ mf HA).mono ?_
    rintro e w6 ⟨rfl, hb6⟩
    replace hS := hS.next hb6
    replace F := F.next hb6
    replace C := C.next hb6
    replace R := R.next hb6
    clear hb6
    replace hS := hS.next ((Below.refl _ _).alloc (Nat.le_refl _) (.cells #[.bool g1, .string ⟨g2.toArray⟩, .int .i64 0] 23))
    replace F := F.next ((Below.refl _ _).alloc (Nat.le_refl _) (.cells #[.bool g1, .string ⟨g2.toArray⟩, .int .i64 0] 23))
    replace C := C.next ((Below.refl _ _).alloc (Nat.le_refl _) (.cells #[.bool g1, .string ⟨g2.toArray⟩, .int .i64 0] 23))
    replace R := R.next ((Below.refl _ _).alloc (Nat.le_refl _) (.cells #[.bool g1, .string ⟨g2.toArray⟩, .int .i64 0] 23))
    have O := Has3.start w6 (.bool g1) (.string ⟨g2.toArray⟩) (.int .i64 0) 23
    obtain ⟨_, _, a0, a1, a2⟩ := id hS
    obtain ⟨_, F0, F1, F2⟩ := id F
    obtain ⟨_, C0, C1, C2⟩ := id C
    obtain ⟨_, R0, R1, R2⟩ := id R
    obtain ⟨_, O0, O1, O2⟩ := id O
    go_wp2_with fail
    clear a0 a1 a2
    clear F0 F1 F2
    clear C0 C1 C2
    clear R0 R1 R2
    clear O0 O1 O2
    refine (rcmp_0 f1 f2 x l z (-1) _ mf h Q1).mono ?_
    rintro e w7 ⟨rfl, hb7⟩
    replace hS := hS.next hb7
    replace F := F.next hb7
    replace C := C.next hb7
    replace R := R.next hb7
    replace O := O.next hb7
    clear hb7
    obtain ⟨_, _, a0, a1, a2⟩ := id hS
    obtain ⟨_, F0, F1, F2⟩ := id F
    obtain ⟨_, C0, C1, C2⟩ := id C
    obtain ⟨_, R0, R1, R2⟩ := id R
    obtain ⟨_, O0, O1, O2⟩ := id O
    go_wp2_with fail
    clear a0 a1 a2
    clear F0 F1 F2
    clear C0 C1 C2
    clear R0 R1 R2
    clear O0 O1 O2
    refine (rcmp_1 g1 g2 x l z (-1) _ mc h Q2).mono ?_
    rintro e w8 ⟨rfl, hb8⟩
    replace hS := hS.next hb8
    replace F := F.next hb8
    replace C := C.next hb8
    replace R := R.next hb8
    replace O := O.next hb8
    clear hb8
    obtain ⟨_, _, a0, a1, a2⟩ := id hS
    obtain ⟨_, F0, F1, F2⟩ := id F
    obtain ⟨_, C0, C1, C2⟩ := id C
    obtain ⟨_, R0, R1, R2⟩ := id R
    obtain ⟨_, O0, O1, O2⟩ := id O
    go_wp2
    go_ret
    exact ⟨rfl, hS.1⟩
theorem near_walk (x : Bool) (t : ByteArray) (z : Int) (w : World) (ht : t.size ≤ maxLen) (htab : Pow w) :
    Calls Tryz.prog 6 #[.agg #[.bool x, .string t, .int .i64 z]] w fun e w' => e = .returned (.bool true) ∧ Below w.heap.size w w' := by
  cases hm : Dm.mayB x t.data.toList z with
  | false => exact near_no x t z w ht hm htab
  | true =>
    obtain ⟨l, j, rfl, rfl, h⟩ := may_split5 hm
    by_cases h0 : 0 < j
    · have w1 := Dm.whole_lt h 1 (by decide) (.inl h0)
      have w0 := Dm.whole_lt h 0 (by decide) (.inl h0)
      simp only at w1 w0
      have hd : decide (0 < j) = true := decide_eq_true h0
      have bl : ∀ b : Bool, Dm.num l / 10 ^ j + b.toNat < 10 ^ 60 := by intro b; cases b <;> simp <;> omega
      obtain ⟨f1, f2, mf, sf, ff⟩ := Dm.rep_ex (ng := x) (bl x)
      obtain ⟨c1, c2, mc, sc, fc⟩ := Dm.rep_ex (ng := x) (bl (!x))
      obtain ⟨b, hb⟩ : ∃ b, (decide (0 < j) && (decide (j ≤ l.length) && decide (53 ≤ (l.getD (l.length - j) 0).toNat))) = b := ⟨_, rfl⟩
      have rf : Dm.Rep (Dm.sgn x (Dm.num l / 10 ^ j + if x then 1 else 0)) 0 (some ⟨f1, f2, 0⟩) := by
        have : (if x then 1 else 0) = x.toNat := by cases x <;> rfl
        rw [this]; exact Dm.Rep.of_eqv mf (by rw [sf])
      have rc : Dm.Rep (Dm.sgn x (Dm.num l / 10 ^ j + if x then 0 else 1)) 0 (some ⟨c1, c2, 0⟩) := by
        have : (if x then 0 else 1) = (!x).toNat := by cases x <;> rfl
        rw [this]; exact Dm.Rep.of_eqv mc (by rw [sc])
      obtain ⟨_, _, e1, e2, e3⟩ := Dm.near_spec h h0 rf rc
      obtain ⟨q1, q2⟩ := near_cmp (d := ⟨x, l, j⟩) (f := ⟨f1, f2, 0⟩) (c := ⟨c1, c2, 0⟩) rfl rfl e2 e3
      have hcf : (c2 == f2) = false := by
        refine beq_eq_false_iff_ne.2 (fun e => ?_)
        have a1 := congrArg Int.natAbs sf
        have a2 := congrArg Int.natAbs sc
        rw [Dm.sgn_abs] at a1 a2
        unfold Dm.sg at a1 a2
        rw [Dm.sgn_abs] at a1 a2
        simp only at a1 a2
        rw [e] at a2
        cases x <;> simp at a1 a2 <;> omega
      have ha : ∀ r, Dm.Rep (Dm.sg ⟨f1, f2, 0⟩ + 1) 0 r → r = some ⟨c1, c2, 0⟩ := by
        intro r hr
        rw [← e1] at hr
        exact hr.uniq (Dm.Rep.of_may mc)
      by_cases hbx : b = x
      · refine near_pos x l j b f1 c1 f1 f2 c2 f2 w h h0 mf mc (hide ?_) (hide ?_) (hide hb) (hide ?_) (hide ha) (hide q1) (hide q2) (.inl ⟨rfl, rfl⟩) hcf htab
        · rw [hd, Bool.true_and]; exact ff
        · rw [hd, Bool.true_and]; exact fc
        · rw [hbx]; exact ff
      · have hbx' : b = !x := by cases b <;> cases x <;> simp at hbx ⊢
        refine near_pos x l j b f1 c1 c1 f2 c2 c2 w h h0 mf mc (hide ?_) (hide ?_) (hide hb) (hide ?_) (hide ha) (hide q1) (hide q2) (.inr ⟨rfl, rfl⟩) hcf htab
        · rw [hd, Bool.true_and]; exact ff
        · rw [hd, Bool.true_and]; exact fc
        · rw [hbx']; exact fc
    · obtain rfl : j = 0 := by omega
      exact near_0 x l w h htab
end Go.Proofs.YtmlmplmghlbdmaaGreatDoor
