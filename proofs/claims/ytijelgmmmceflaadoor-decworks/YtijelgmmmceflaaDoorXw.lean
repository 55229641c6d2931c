/- What is proved here: what the law DecWorks does, walked; conditions: none. -/
import Derived.Test.YtijelgmmmceflaaDoorUc
import Derived.Test.YtijelgmmmceflaaDoorUg
import Derived.Test.YtijelgmmmceflaaDoorUh
import Derived.Test.YtijelgmmmceflaaDoorUi
import Derived.Test.YtijelgmmmceflaaDoorMf
namespace Go.Proofs.YtijelgmmmceflaaDoor
open Go.RowKit
set_option linter.unusedVariables false
set_option linter.unusedSimpArgs false

theorem rmay_b (ng : Bool) (s : ByteArray) (n : Int) (b : Bool) (w : World) (hs : s.size ≤ maxLen) (h : Dm.mayB ng s.data.toList n = b) :
    Calls Tryd.prog 15 #[.agg #[.bool ng, .string s, .int .i64 n]] w fun e w' => e = .returned (.bool b) ∧ Below w.heap.size w w' := by
  have := rmay_any ng s n w hs
  rw [h] at this; exact this
theorem rmul_r (a b : Dm.D) (w : World) (ha : Dm.May a) (hb : Dm.May b) :
    Calls Tryd.prog 26 #[.agg #[.bool a.ng, .string ⟨a.ds.toArray⟩, .int .i64 (a.sc : Int)], .agg #[.bool b.ng, .string ⟨b.ds.toArray⟩, .int .i64 (b.sc : Int)]] w fun e w' => ∃ r, e = .returned (.tuple #[.agg #[.bool (rx r), .string (ry r), .int .i64 (rz r)], .int .i64 (re r)]) ∧ Dm.Rep (Dm.sg a * Dm.sg b) (a.sc + b.sc) r ∧ Below w.heap.size w w' := by
  obtain ⟨a1, a2, a3⟩ := may_len ha
  obtain ⟨b1, b2, b3⟩ := may_len hb
  refine (rmul_walk a.ng b.ng ⟨a.ds.toArray⟩ ⟨b.ds.toArray⟩ a.ds b.ds a.sc b.sc w (by rw [mk_size]; exact a1) (by rw [mk_size]; exact a2) (by rw [mk_size]; exact b2) a3 b3 (by rw [mk_list]; exact ha.1) (by rw [mk_list]; exact hb.1) rfl rfl).mono ?_
  rintro e w' ⟨r, rfl, hr, hB⟩
  refine ⟨r, rfl, ?_, hB⟩
  have e : Dm.sgn (a.ng != b.ng) (Dm.num a.ds * Dm.num b.ds) = Dm.sg a * Dm.sg b := by
    unfold Dm.sg Dm.sgn
    cases a.ng <;> cases b.ng <;> simp [Int.neg_mul, Int.mul_neg]
  rw [e] at hr; exact hr
set_option maxRecDepth 100000 in
set_option maxHeartbeats 4000000 in
theorem works_true (a1 : Bool) (a2 : List UInt8) (a3 : Nat) (b1 : Bool) (b2 : List UInt8) (b3 : Nat) (w : World) (ha : Dm.May ⟨a1, a2, a3⟩) (hb : Dm.May ⟨b1, b2, b3⟩) :
    Calls Tryd.prog 4 #[.agg #[.bool a1, .string ⟨a2.toArray⟩, .int .i64 (a3 : Int)], .agg #[.bool b1, .string ⟨b2.toArray⟩, .int .i64 (b3 : Int)]] w fun e w' => e = .returned (.bool true) ∧ Below w.heap.size w w' := by
  have hS := Two.start w (.bool a1) (.string ⟨a2.toArray⟩) (.int .i64 (a3 : Int)) (.bool b1) (.string ⟨b2.toArray⟩) (.int .i64 (b3 : Int)) 23
  have la : (⟨a2.toArray⟩ : ByteArray).size ≤ maxLen := by rw [mk_size]; have := (may_len ha).2.1; simp only at this; unfold maxLen; omega
  have lb : (⟨b2.toArray⟩ : ByteArray).size ≤ maxLen := by rw [mk_size]; have := (may_len hb).2.1; simp only at this; unfold maxLen; omega
  have MA := hide (dV_may ha)
  have MB := hide (dV_may hb)
  go_enter Tryd.func4, Tryd.ntmps4
  obtain ⟨_, _, ⟨a0, a01, a02⟩, ⟨b0, b01, b02⟩⟩ := id hS
  go_wp2_with fail
  clear a0 a01 a02 b0 b01 b02
  refine (shown_any _).mono ?_
  rintro e w1 ⟨rfl, hb1⟩
  replace hS := hS.next hb1
  clear hb1
  obtain ⟨_, _, ⟨a0, a01, a02⟩, ⟨b0, b01, b02⟩⟩ := id hS
  go_wp2_with fail
  clear a0 a01 a02 b0 b01 b02
  refine (rmay_b a1 ⟨a2.toArray⟩ (a3 : Int) true _ la (unhide MA)).mono ?_
  rintro e w2 ⟨rfl, hb2⟩
  replace hS := hS.next hb2
  clear hb2
  obtain ⟨_, _, ⟨a0, a01, a02⟩, ⟨b0, b01, b02⟩⟩ := id hS
  go_wp2_with fail
  clear a0 a01 a02 b0 b01 b02
  refine (rmay_b b1 ⟨b2.toArray⟩ (b3 : Int) true _ lb (unhide MB)).mono ?_
  rintro e w3 ⟨rfl, hb3⟩
  replace hS := hS.next hb3
  clear hb3
  obtain ⟨_, _, ⟨a0, a01, a02⟩, ⟨b0, b01, b02⟩⟩ := id hS
  go_wp2_with fail
  clear a0 a01 a02 b0 b01 b02
  refine (add_r a1 a2 a3 b1 b2 b3 _ ha hb).mono ?_
  rintro e w4 ⟨xr, rfl, hxr, hb4⟩
  replace hS := hS.next hb4
  clear hb4
  have Hx := hide hxr
  clear hxr
  generalize hz0 : rx xr = x_0
  have xZ0 := hide hz0
  clear hz0
  generalize hz1 : ry xr = x_1
  have xZ1 := hide hz1
  clear hz1
  generalize hz2 : rz xr = x_2
  have xZ2 := hide hz2
  clear hz2
  generalize hz3 : re xr = x_3
  have xZ3 := hide hz3
  clear hz3
  replace hS := hS.next ((Below.refl _ _).alloc (Nat.le_refl _) (.cells #[.bool x_0, .string x_1, .int .i64 x_2] 23))
  have XX := Has3.start w4 (.bool x_0) (.string x_1) (.int .i64 x_2) 23
  obtain ⟨_, _, ⟨a0, a01, a02⟩, ⟨b0, b01, b02⟩⟩ := id hS
  obtain ⟨_, XX0, XX1, XX2⟩ := id XX
  go_wp2_with fail
  clear a0 a01 a02 b0 b01 b02
  clear XX0 XX1 XX2
  refine (radd_r a1 a2 a3 b1 b2 b3 _ ha hb).mono ?_
  rintro e w5 ⟨r', rfl, hr', hb5⟩
  replace hS := hS.next hb5
  replace XX := XX.next hb5
  clear hb5
  obtain rfl : r' = xr := hr'.uniq (unhide Hx)
  clear hr'
  rw [unhide xZ0, unhide xZ1, unhide xZ2, unhide xZ3]
  replace hS := hS.next ((Below.refl _ _).alloc (Nat.le_refl _) (.cells #[.bool x_0, .string x_1, .int .i64 x_2] 23))
  replace XX := XX.next ((Below.refl _ _).alloc (Nat.le_refl _) (.cells #[.bool x_0, .string x_1, .int .i64 x_2] 23))
  have XY := Has3.start w5 (.bool x_0) (.string x_1) (.int .i64 x_2) 23
  obtain ⟨_, _, ⟨a0, a01, a02⟩, ⟨b0, b01, b02⟩⟩ := id hS
  obtain ⟨_, XX0, XX1, XX2⟩ := id XX
  obtain ⟨_, XY0, XY1, XY2⟩ := id XY
  go_wp2_with fail
  clear a0 a01 a02 b0 b01 b02
  clear XX0 XX1 XX2
  clear XY0 XY1 XY2
  refine (sub_r a1 a2 a3 b1 b2 b3 _ ha hb).mono ?_
  rintro e w6 ⟨pr, rfl, hpr, hb6⟩
  replace hS := hS.next hb6
  replace XX := XX.next hb6
  replace XY := XY.next hb6
  clear hb6
  have Hp := hide hpr
  clear hpr
  generalize hz0 : rx pr = p_0
  have pZ0 := hide hz0
  clear hz0
  generalize hz1 : ry pr = p_1
  have pZ1 := hide hz1
  clear hz1
  generalize hz2 : rz pr = p_2
  have pZ2 := hide hz2
  clear hz2
  generalize hz3 : re pr = p_3
  have pZ3 := hide hz3
  clear hz3
  replace hS := hS.next ((Below.refl _ _).alloc (Nat.le_refl _) (.cells #[.bool p_0, .string p_1, .int .i64 p_2] 23))
  replace XX := XX.next ((Below.refl _ _).alloc (Nat.le_refl _) (.cells #[.bool p_0, .string p_1, .int .i64 p_2] 23))
  replace XY := XY.next ((Below.refl _ _).alloc (Nat.le_refl _) (.cells #[.bool p_0, .string p_1, .int .i64 p_2] 23))
  have PX := Has3.start w6 (.bool p_0) (.string p_1) (.int .i64 p_2) 23
  obtain ⟨_, _, ⟨a0, a01, a02⟩, ⟨b0, b01, b02⟩⟩ := id hS
  obtain ⟨_, XX0, XX1, XX2⟩ := id XX
  obtain ⟨_, XY0, XY1, XY2⟩ := id XY
  obtain ⟨_, PX0, PX1, PX2⟩ := id PX
  go_wp2_with fail
  clear a0 a01 a02 b0 b01 b02
  clear XX0 XX1 XX2
  clear XY0 XY1 XY2
  clear PX0 PX1 PX2
  refine (rsub_r a1 a2 a3 b1 b2 b3 _ ha hb).mono ?_
  rintro e w7 ⟨r', rfl, hr', hb7⟩
  replace hS := hS.next hb7
  replace XX := XX.next hb7
  replace XY := XY.next hb7
  replace PX := PX.next hb7
  clear hb7
  obtain rfl : r' = pr := hr'.uniq (unhide Hp)
  clear hr'
  rw [unhide pZ0, unhide pZ1, unhide pZ2, unhide pZ3]
  replace hS := hS.next ((Below.refl _ _).alloc (Nat.le_refl _) (.cells #[.bool p_0, .string p_1, .int .i64 p_2] 23))
  replace XX := XX.next ((Below.refl _ _).alloc (Nat.le_refl _) (.cells #[.bool p_0, .string p_1, .int .i64 p_2] 23))
  replace XY := XY.next ((Below.refl _ _).alloc (Nat.le_refl _) (.cells #[.bool p_0, .string p_1, .int .i64 p_2] 23))
  replace PX := PX.next ((Below.refl _ _).alloc (Nat.le_refl _) (.cells #[.bool p_0, .string p_1, .int .i64 p_2] 23))
  have PY := Has3.start w7 (.bool p_0) (.string p_1) (.int .i64 p_2) 23
  obtain ⟨_, _, ⟨a0, a01, a02⟩, ⟨b0, b01, b02⟩⟩ := id hS
  obtain ⟨_, XX0, XX1, XX2⟩ := id XX
  obtain ⟨_, XY0, XY1, XY2⟩ := id XY
  obtain ⟨_, PX0, PX1, PX2⟩ := id PX
  obtain ⟨_, PY0, PY1, PY2⟩ := id PY
  go_wp2_with fail
  clear a0 a01 a02 b0 b01 b02
  clear XX0 XX1 XX2
  clear XY0 XY1 XY2
  clear PX0 PX1 PX2
  clear PY0 PY1 PY2
  refine (mul_r ⟨a1, a2, a3⟩ ⟨b1, b2, b3⟩ _ ha hb).mono ?_
  rintro e w8 ⟨mr, rfl, hmr, hb8⟩
  replace hS := hS.next hb8
  replace XX := XX.next hb8
  replace XY := XY.next hb8
  replace PX := PX.next hb8
  replace PY := PY.next hb8
  clear hb8
  have Hm := hide hmr
  clear hmr
  generalize hz0 : rx mr = m_0
  have mZ0 := hide hz0
  clear hz0
  generalize hz1 : ry mr = m_1
  have mZ1 := hide hz1
  clear hz1
  generalize hz2 : rz mr = m_2
  have mZ2 := hide hz2
  clear hz2
  generalize hz3 : re mr = m_3
  have mZ3 := hide hz3
  clear hz3
  replace hS := hS.next ((Below.refl _ _).alloc (Nat.le_refl _) (.cells #[.bool m_0, .string m_1, .int .i64 m_2] 23))
  replace XX := XX.next ((Below.refl _ _).alloc (Nat.le_refl _) (.cells #[.bool m_0, .string m_1, .int .i64 m_2] 23))
  replace XY := XY.next ((Below.refl _ _).alloc (Nat.le_refl _) (.cells #[.bool m_0, .string m_1, .int .i64 m_2] 23))
  replace PX := PX.next ((Below.refl _ _).alloc (Nat.le_refl _) (.cells #[.bool m_0, .string m_1, .int .i64 m_2] 23))
  replace PY := PY.next ((Below.refl _ _).alloc (Nat.le_refl _) (.cells #[.bool m_0, .string m_1, .int .i64 m_2] 23))
  have MX := Has3.start w8 (.bool m_0) (.string m_1) (.int .i64 m_2) 23
  obtain ⟨_, _, ⟨a0, a01, a02⟩, ⟨b0, b01, b02⟩⟩ := id hS
  obtain ⟨_, XX0, XX1, XX2⟩ := id XX
  obtain ⟨_, XY0, XY1, XY2⟩ := id XY
  obtain ⟨_, PX0, PX1, PX2⟩ := id PX
  obtain ⟨_, PY0, PY1, PY2⟩ := id PY
  obtain ⟨_, MX0, MX1, MX2⟩ := id MX
  go_wp2_with fail
  clear a0 a01 a02 b0 b01 b02
  clear XX0 XX1 XX2
  clear XY0 XY1 XY2
  clear PX0 PX1 PX2
  clear PY0 PY1 PY2
  clear MX0 MX1 MX2
  refine (rmul_r ⟨a1, a2, a3⟩ ⟨b1, b2, b3⟩ _ ha hb).mono ?_
  rintro e w9 ⟨r', rfl, hr', hb9⟩
  replace hS := hS.next hb9
  replace XX := XX.next hb9
  replace XY := XY.next hb9
  replace PX := PX.next hb9
  replace PY := PY.next hb9
  replace MX := MX.next hb9
  clear hb9
  obtain rfl : r' = mr := hr'.uniq (unhide Hm)
  clear hr'
  rw [unhide mZ0, unhide mZ1, unhide mZ2, unhide mZ3]
  replace hS := hS.next ((Below.refl _ _).alloc (Nat.le_refl _) (.cells #[.bool m_0, .string m_1, .int .i64 m_2] 23))
  replace XX := XX.next ((Below.refl _ _).alloc (Nat.le_refl _) (.cells #[.bool m_0, .string m_1, .int .i64 m_2] 23))
  replace XY := XY.next ((Below.refl _ _).alloc (Nat.le_refl _) (.cells #[.bool m_0, .string m_1, .int .i64 m_2] 23))
  replace PX := PX.next ((Below.refl _ _).alloc (Nat.le_refl _) (.cells #[.bool m_0, .string m_1, .int .i64 m_2] 23))
  replace PY := PY.next ((Below.refl _ _).alloc (Nat.le_refl _) (.cells #[.bool m_0, .string m_1, .int .i64 m_2] 23))
  replace MX := MX.next ((Below.refl _ _).alloc (Nat.le_refl _) (.cells #[.bool m_0, .string m_1, .int .i64 m_2] 23))
  have MY := Has3.start w9 (.bool m_0) (.string m_1) (.int .i64 m_2) 23
  obtain ⟨q1, hq1⟩ : ∃ q1, cmpD a1 a2 a3 b1 b2 b3 = q1 := ⟨_, rfl⟩
  have hq2 : sgI (Dm.sg ⟨a1, a2, a3⟩ * Dm.p10 b3 - Dm.sg ⟨b1, b2, b3⟩ * Dm.p10 a3) = q1 := by rw [← hq1]; exact (cmpD_sg (a := ⟨a1, a2, a3⟩) (b := ⟨b1, b2, b3⟩) ha hb).symm
  have HQ1 := hide hq1
  have HQ2 := hide hq2
  clear hq1 hq2
  obtain ⟨_, _, ⟨a0, a01, a02⟩, ⟨b0, b01, b02⟩⟩ := id hS
  obtain ⟨_, XX0, XX1, XX2⟩ := id XX
  obtain ⟨_, XY0, XY1, XY2⟩ := id XY
  obtain ⟨_, PX0, PX1, PX2⟩ := id PX
  obtain ⟨_, PY0, PY1, PY2⟩ := id PY
  obtain ⟨_, MX0, MX1, MX2⟩ := id MX
  obtain ⟨_, MY0, MY1, MY2⟩ := id MY
  go_wp2_with fail
  go_region_held3 (fun w' => (w'.cell? ⟨w.heap.size, 0, none⟩ = some (.bool a1) ∧ w'.cell? ⟨w.heap.size, 1, none⟩ = some (.string ⟨a2.toArray⟩) ∧ w'.cell? ⟨w.heap.size, 2, none⟩ = some (.int .i64 (a3 : Int))) ∧ (w'.cell? ⟨w.heap.size + 1, 0, none⟩ = some (.bool b1) ∧ w'.cell? ⟨w.heap.size + 1, 1, none⟩ = some (.string ⟨b2.toArray⟩) ∧ w'.cell? ⟨w.heap.size + 1, 2, none⟩ = some (.int .i64 (b3 : Int))) ∧ (w'.cell? ⟨w4.heap.size, 0, none⟩ = some (.bool x_0) ∧ w'.cell? ⟨w4.heap.size, 1, none⟩ = some (.string x_1) ∧ w'.cell? ⟨w4.heap.size, 2, none⟩ = some (.int .i64 x_2)) ∧ (w'.cell? ⟨w5.heap.size, 0, none⟩ = some (.bool x_0) ∧ w'.cell? ⟨w5.heap.size, 1, none⟩ = some (.string x_1) ∧ w'.cell? ⟨w5.heap.size, 2, none⟩ = some (.int .i64 x_2)) ∧ (w'.cell? ⟨w6.heap.size, 0, none⟩ = some (.bool p_0) ∧ w'.cell? ⟨w6.heap.size, 1, none⟩ = some (.string p_1) ∧ w'.cell? ⟨w6.heap.size, 2, none⟩ = some (.int .i64 p_2)) ∧ (w'.cell? ⟨w7.heap.size, 0, none⟩ = some (.bool p_0) ∧ w'.cell? ⟨w7.heap.size, 1, none⟩ = some (.string p_1) ∧ w'.cell? ⟨w7.heap.size, 2, none⟩ = some (.int .i64 p_2)) ∧ (w'.cell? ⟨w8.heap.size, 0, none⟩ = some (.bool m_0) ∧ w'.cell? ⟨w8.heap.size, 1, none⟩ = some (.string m_1) ∧ w'.cell? ⟨w8.heap.size, 2, none⟩ = some (.int .i64 m_2)) ∧ (w'.cell? ⟨w9.heap.size, 0, none⟩ = some (.bool m_0) ∧ w'.cell? ⟨w9.heap.size, 1, none⟩ = some (.string m_1) ∧ w'.cell? ⟨w9.heap.size, 2, none⟩ = some (.int .i64 m_2))) (first | exact ⟨hS.2.2.1, hS.2.2.2, XX.2, XY.2, PX.2, PY.2, MX.2, MY.2⟩ | exact ⟨hS.drew.2.2.1, hS.drew.2.2.2, XX.drew.2, XY.drew.2, PX.drew.2, PY.drew.2, MX.drew.2, MY.drew.2⟩) (first | (go_at_call 27; refine (cmp_any a1 a2 a3 b1 b2 b3 q1 _ ha hb (unhide HQ1)).mono ?_; rintro e w' ⟨rfl, hbw⟩; replace hS := Two.next (by first | exact hS | exact hS.drew) hbw; clear a0 a01 a02 b0 b01 b02; obtain ⟨_, _, ⟨a0, a01, a02⟩, ⟨b0, b01, b02⟩⟩ := id hS; replace XX := Has3.next (by first | exact XX | exact XX.drew) hbw; clear XX0 XX1 XX2; obtain ⟨_, XX0, XX1, XX2⟩ := id XX; replace XY := Has3.next (by first | exact XY | exact XY.drew) hbw; clear XY0 XY1 XY2; obtain ⟨_, XY0, XY1, XY2⟩ := id XY; replace PX := Has3.next (by first | exact PX | exact PX.drew) hbw; clear PX0 PX1 PX2; obtain ⟨_, PX0, PX1, PX2⟩ := id PX; replace PY := Has3.next (by first | exact PY | exact PY.drew) hbw; clear PY0 PY1 PY2; obtain ⟨_, PY0, PY1, PY2⟩ := id PY; replace MX := Has3.next (by first | exact MX | exact MX.drew) hbw; clear MX0 MX1 MX2; obtain ⟨_, MX0, MX1, MX2⟩ := id MX; replace MY := Has3.next (by first | exact MY | exact MY.drew) hbw; clear MY0 MY1 MY2; obtain ⟨_, MY0, MY1, MY2⟩ := id MY; clear hbw) | (go_at_call 28; refine (rcmp_r a1 a2 a3 b1 b2 b3 q1 _ ha hb (unhide HQ2)).mono ?_; rintro e w' ⟨rfl, hbw⟩; replace hS := Two.next (by first | exact hS | exact hS.drew) hbw; clear a0 a01 a02 b0 b01 b02; obtain ⟨_, _, ⟨a0, a01, a02⟩, ⟨b0, b01, b02⟩⟩ := id hS; replace XX := Has3.next (by first | exact XX | exact XX.drew) hbw; clear XX0 XX1 XX2; obtain ⟨_, XX0, XX1, XX2⟩ := id XX; replace XY := Has3.next (by first | exact XY | exact XY.drew) hbw; clear XY0 XY1 XY2; obtain ⟨_, XY0, XY1, XY2⟩ := id XY; replace PX := Has3.next (by first | exact PX | exact PX.drew) hbw; clear PX0 PX1 PX2; obtain ⟨_, PX0, PX1, PX2⟩ := id PX; replace PY := Has3.next (by first | exact PY | exact PY.drew) hbw; clear PY0 PY1 PY2; obtain ⟨_, PY0, PY1, PY2⟩ := id PY; replace MX := Has3.next (by first | exact MX | exact MX.drew) hbw; clear MX0 MX1 MX2; obtain ⟨_, MX0, MX1, MX2⟩ := id MX; replace MY := Has3.next (by first | exact MY | exact MY.drew) hbw; clear MY0 MY1 MY2; obtain ⟨_, MY0, MY1, MY2⟩ := id MY; clear hbw))
  all_goals
    go_wp2
    go_ret
    exact ⟨rfl, hS.1⟩
end Go.Proofs.YtijelgmmmceflaaDoor
