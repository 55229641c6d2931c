/- What is proved here: what longDivide of package divide does, walked; conditions: digits, not too many, and the divisor is not 0. -/
import Derived.Test.YtmlmplmghlbdmaaGreatDoorDd
import Derived.Test.YtmlmplmghlbdmaaGreatDoorAp
import Derived.Deep.OwnRows
import Derived.Lib.SmallJoins
namespace Go.Proofs.YtmlmplmghlbdmaaGreatDoor
open Go.RowKit
set_option linter.unusedVariables false
set_option linter.unusedSimpArgs false

set_option maxRecDepth 100000 in
set_option maxHeartbeats 4000000 in
theorem longDivide_any (N D : List UInt8) (p n : Nat) (w : World) (hp : N.length = p) (hp0 : 1 ≤ p) (hp1 : p ≤ 400) (hn : D.length = n) (hn0 : 1 ≤ n) (hn1 : n ≤ 400) (dN : Dm.allD N) (dD : Dm.allD D) (hpos : 0 < Dm.num D) :
    Calls Tryz.prog 32 #[.string ⟨N.toArray⟩, .string ⟨D.toArray⟩] w fun e w' => ∃ (g1 g2 c : Nat) (Q S : List UInt8), e = .returned (.tuple #[.slice (some ⟨g1, 0, none⟩) p p, .slice (some ⟨g2, 0, none⟩) (n + 1) (n + 1)]) ∧ Q.length = p ∧ S.length = n + 1 ∧ Dm.allD Q ∧ Dm.allD S ∧ Dm.num Q = Dm.num N / Dm.num D ∧ Dm.num S = Dm.num N % Dm.num D ∧ Row w' g1 0 Q ∧ Row w' g2 0 S ∧ Below w.heap.size w w' := by
  obtain ⟨s, hs⟩ : ∃ s : ByteArray, (⟨#[48]⟩ ++ ⟨D.toArray⟩ : ByteArray) = s := ⟨_, rfl⟩
  have hsl : s.data.toList = 48 :: D := by rw [← hs, cons_join]
  have hsz : s.size = n + 1 := by rw [size_len, hsl, List.length_cons, hn]
  have hNl : N.length ≤ 400 := by omega
  have hNp : N.length ≤ p := by omega
  have hpN : p ≤ N.length := by omega
  have hDl : D.length ≤ 400 := by omega
  have HN := hide hp
  have HD := hide hn
  have HSL := hide hsl
  have HSZ := hide hsz
  clear hp hn hsl hsz
  have cv := Lib.run_convert_string_bytes (P := Tryz.prog) w 9 38 5 s Tryz.underlying9 Tryz.underlying38 Tryz.underlying5
  have CV := hide cv
  clear cv
  go_enter Tryz.func32, Tryz.ntmps32
  go_wp2_with fail
  rw [unhide CV]
  clear hs
  simp only [Result.andThen]
  rw [Oper.upon_value]
  have hrD : Row (Lib.bytesWorld w 5 s) w.heap.size 0 (48 :: D) := fun i hi => by
    rw [Nat.zero_add, Lib.bytesWorld_cell w 5 s i (by rw [unhide HSZ]; rw [List.length_cons, unhide HD] at hi; exact hi), unhide HSL]
  have hb1 := bytesWorld_below w 5 s
  have hz1 := Lib.bytesWorld_size w 5 s
  generalize Lib.bytesWorld w 5 s = w1 at *
  generalize grownCap w s.size 0 5 = cp
  rw [unhide HSZ]
  clear CV HSZ HSL
  go_wp2_with fail
  rw [unhide HN]
  have mk := fun W => run_make_row' (P := Tryz.prog) 38 5 (.int .u8 0) 1 Tryz.underlying38 (by kernel_rfl) rfl .i64 .i64 p (by omega) (by omega) W
  rw [mk]
  clear mk
  have hr1 := row_made w1 p
  have hf1 := fun j => frozen_made w1 (madeCells #[.int .u8 0] p) 5 j
  rw [hz1] at hr1 hf1
  have hb2 : Below w.heap.size w (w1.alloc (.cells (madeCells #[.int .u8 0] p) 5)) := hb1.alloc (by omega) _
  have hz2 : (w1.alloc (.cells (madeCells #[.int .u8 0] p) 5)).heap.size = w.heap.size + 1 + 1 := by simp [hz1]
  have hrD2 := hrD.below ((Below.refl w1.heap.size w1).alloc (Nat.le_refl _) (.cells (madeCells #[.int .u8 0] p) 5))
  simp only [hz1]
  clear hrD hb1
  generalize w1.alloc (.cells (madeCells #[.int .u8 0] p) 5) = w2 at *
  clear hz1
  go_wp2_with fail
  rw [Go.Joins.run_convert_bytes_const_at w2 38 5 #[.int .u8 48] 1 1 (w.heap.size + 1 + 1) hz2.symm Tryz.underlying38 Tryz.underlying5]
  simp only [Result.andThen]
  rw [Oper.upon_value]
  have hb3 : Below w2.heap.size w2 (w2.alloc (.cells #[.int .u8 48] 5 (1, 2))) := (Below.refl _ _).alloc (Nat.le_refl _) _
  have hc3 : (w2.alloc (.cells #[.int .u8 48] 5 (1, 2))).cell? ⟨w.heap.size + 1 + 1, 0, none⟩ = some (.int .u8 48) := by
    rw [Go.Joins.cell_alloc_mark_at w2 _ 5 (1, 2) (w.heap.size + 1 + 1) 0 hz2.symm]; rfl
  have hz3 : (w2.alloc (.cells #[.int .u8 48] 5 (1, 2))).heap.size = w.heap.size + 1 + 1 + 1 := by simp [hz2]
  have hrD3 := hrD2.below hb3
  have hr3 := hr1.below hb3
  have hf3 : ∀ j, (w2.alloc (.cells #[.int .u8 48] 5 (1, 2))).frozen? ⟨w.heap.size + 1, j, none⟩ = false := fun j => by
    rw [hb3.frozen (p := ⟨w.heap.size + 1, j, none⟩) (by rw [hz2]; show w.heap.size + 1 < _; omega)]; exact hf1 j
  have hb03 : Below w.heap.size w (w2.alloc (.cells #[.int .u8 48] 5 (1, 2))) := hb2.alloc (by omega) _
  clear hrD2 hr1 hf1 hb2 hb3
  simp only [show (#[Value.int IntKind.u8 48] : Array Value).size = 1 from rfl]
  generalize w2.alloc (.cells #[.int .u8 48] 5 (1, 2)) = w3 at *
  clear hz2
  have hbr := brepeat_any (w.heap.size + 1 + 1) 1 (n + 1) w3 (by omega) (by omega) hc3
  rw [show ((n + 1 : Nat) : Int) = (n : Int) + 1 from by omega] at hbr
  have HBR := hide hbr
  clear hbr hc3
  go_wp2_with fail
  refine (unhide HBR).mono ?_
  rintro e w4 ⟨g2, rfl, hg2, hni⟩
  clear HBR
  obtain ⟨n1, n2, n3, n4, n5⟩ := hni
  have hlt2 : w.heap.size + 1 < g2 := by omega
  have hR0 : R3 w w.heap.size (w.heap.size + 1) g2 (48 :: D) ([] ++ List.replicate p 0) (List.replicate (n + 1) 48) w4 := by
    refine ⟨hrD3.below n4, hr3.below n4, fun i hi => ?_, fun i hi => ?_, fun i hi => ?_, hb03.trans (n4.mono (by omega)), Nat.le_refl _, by omega, hlt2, n5⟩
    · rw [List.length_replicate] at hi
      rw [Nat.zero_add, n1 i hi]; simp [List.getD, hi]
    · rw [n4.frozen (p := ⟨w.heap.size + 1, i, none⟩) (by rw [hz3]; show w.heap.size + 1 < _; omega)]; exact hf3 i
    · rw [List.length_replicate] at hi; exact n3 i hi
  have hL0 : Dm.LongInv N (Dm.num D) 0 [] (List.replicate (n + 1) 48) (n + 1) := ⟨rfl, Dm.allD_nil, by simp, Dm.allD_zeros _, by rw [Dm.num_zeros, List.take_zero]; simp [Dm.num], by rw [Dm.num_zeros]; exact hpos⟩
  have hDB : Dm.num D ≤ 10 ^ n := by have := Dm.num_lt dD; rw [unhide HD] at this; omega
  have hDv : Dm.allD (48 :: D) ∧ Dm.num (48 :: D) = Dm.num D ∧ (48 :: D).length = n + 1 := ⟨Dm.allD_cons.2 ⟨rfl, dD⟩, Dm.num_48 D, by rw [List.length_cons, unhide HD]⟩
  have HDB := hide hDB
  have HDV := hide hDv
  clear n1 n2 n3 n4 n5 hrD3 hr3 hf3 hb03 hz3 hg2 hDB hDv
  go_wp2_with fail
  go_loopg [25, 8] p (fun g i _ wr => ∃ (k : Nat) (Q S : List UInt8), k + g = p ∧ i = .int .i64 (k : Int) ∧ Dm.LongInv N (Dm.num D) k Q S (n + 1) ∧ R3 w w.heap.size (w.heap.size + 1) g2 (48 :: D) (Q ++ List.replicate g 0) S wr)
  case atStart => exact ⟨0, [], _, by omega, rfl, hL0, hR0⟩
  case round =>
    clear hR0 hL0
    obtain ⟨k, Q, S, hkg, rfl, hL, hR⟩ := hrel
    cases gk with
    | zero =>
      obtain rfl : k = p := by omega
      have hQl := hL.1
      obtain ⟨f1, f2, f3, f4, f5, f6⟩ := id hL
      have hf := Dm.LongInv.fin (N := N) (Q := Q) (S := S) (by rw [unhide HN]; exact hL)
      obtain ⟨r1, r2, r3, _, _, r6, _⟩ := hR
      rw [List.replicate_zero, List.append_nil] at r2
      have F1 := hide f1
      have F3 := hide f3
      have F := hide hf
      clear hL f1 f3 f5 f6 hf hQl
      go_wp2
      go_ret2
      exact ⟨w.heap.size + 1, g2, 0, Q, S, rfl, unhide F1, unhide F3, f2, f4, (unhide F).1, (unhide F).2, r2, r3, r6⟩
    | succ g =>
      have hkp : k < p := by omega
      have hkN : k < N.length := by rw [unhide HN]; exact hkp
      have hkS : k < (⟨N.toArray⟩ : ByteArray).size := by rw [mk_size]; exact hkN
      have hSn : S.length = n + 1 := hL.2.2.1
      have hcp := hR.copy (c1 := n + 1) (c2 := n) hSn 3
      have hpu := hR.push hSn ((⟨N.toArray⟩ : ByteArray)[k]'hkS)
      have hcN : (⟨N.toArray⟩ : ByteArray)[k]'hkS = N[k] := rfl
      have hcd : Dm.isD ((⟨N.toArray⟩ : ByteArray)[k]'hkS) = true := dN _ (List.getElem_mem hkN)
      have hcl : (tailCells S).length = n := by unfold tailCells; rw [List.length_map, List.length_tail, hSn]; rfl
      have f2 : (wr.setCells g2 0 (tailCells S)).frozen? ⟨g2, n, none⟩ = false := by rw [setCells_frozen]; exact hR.2.2.2.2.1 n (by omega)
      have c2 : (wr.setCells g2 0 (tailCells S)).cell? ⟨g2, n, none⟩ = some (.int .u8 ((S.getD n 0).toNat : Int)) := by
        rw [setCells_cell _ wr g2 0 (fun i hi => by rw [hR.2.2.1 i (by omega)]; rfl), dif_neg (by omega)]
        have := hR.2.2.1 n (by omega)
        rwa [Nat.zero_add] at this
      have HCN := hide hcN
      have HS := hide hSn
      have hn1' : ¬ n + 1 = 1 := by omega
      clear hcN hSn hcl
      go_upto_region 10 with fail
      clear hcp f2 c2 hn1'
      generalize (wr.setCells g2 0 (tailCells S)).setCell ⟨g2, n, none⟩ (.int .u8 (((⟨N.toArray⟩ : ByteArray)[k]'hkS).toNat : Int)) = w5 at hpu ⊢
      generalize (⟨N.toArray⟩ : ByteArray)[k]'hkS = c at *
      have hQl : Q.length = k := hL.1
      have q1 : w5.cell? ⟨w.heap.size + 1, k, none⟩ = some (.int .u8 0) := by
        have := hpu.2.1 k (by rw [List.length_append, hQl, List.length_replicate]; omega)
        rw [Nat.zero_add] at this
        rw [this]
        have e : (Q ++ List.replicate (g + 1) (0 : UInt8)).getD k 0 = 0 := by
          rw [List.getD, List.getElem?_append_right (by omega), List.getElem?_replicate]; split <;> rfl
        rw [e]; rfl
      have q2 : w5.frozen? ⟨w.heap.size + 1, k, none⟩ = false := hpu.2.2.2.1 k (by rw [List.length_append, hQl, List.length_replicate]; omega)
      have hq : R3 w w.heap.size (w.heap.size + 1) g2 (48 :: D) (Q ++ 48 :: List.replicate g 0) (Dm.pushD S c) (w5.setCell ⟨w.heap.size + 1, k, none⟩ (.int .u8 48)) := by
        have := hpu.setQ k 48
        rw [List.replicate_succ, set_at Q _ k 48 hQl] at this
        exact this
      have HQ := hide hQl
      clear hQl hpu
      obtain ⟨X, hX⟩ : ∃ X, Dm.num (Dm.pushD S c) = X := ⟨_, rfl⟩
      have hXB := Dm.step_lt hL (unhide HDB) hcd
      rw [hX] at hXB
      have hS0 : Dm.StepInv X (Dm.num D) 0 (Dm.pushD S c) (n + 1) := ⟨Dm.pushD_len (unhide HS) (by omega), Dm.pushD_allD hL.2.2.2.1 hcd, by rw [hX]; omega, by omega⟩
      have HX := hide hX
      have HXB := hide hXB
      have HL := hide hL
      clear hX hXB hL
      go_upto_region 11 with fail
      clear q1 q2
      go_loopg [] 9 (fun g' wx => ∃ (q : Nat) (S' : List UInt8) (d : UInt8), q + g' = 9 ∧ d.toNat = 48 + q ∧ Dm.StepInv X (Dm.num D) q S' (n + 1) ∧ R3 w w.heap.size (w.heap.size + 1) g2 (48 :: D) (Q ++ d :: List.replicate g 0) S' wx)
      case atStart => exact ⟨0, _, 48, rfl, rfl, hS0, hq⟩
      case round =>
        clear hS0 hq
        obtain ⟨q, S', d, hqg, hd, hSt, hR⟩ := hrel
        have hlS : S'.length = n + 1 := hSt.1
        obtain ⟨z, hz⟩ : ∃ z, Lib.compareBytes S' (48 :: D) = z := ⟨_, rfl⟩
        have hcmp := Dm.cmp_rows S' (48 :: D) hSt.2.1 (unhide HDV).1 (by rw [(unhide HDV).2.2]; exact hlS)
        rw [hz, (unhide HDV).2.1] at hcmp
        have hbc := bcompare_any g2 0 (n + 1) (n + 1) w.heap.size 0 (n + 1) cp S' (48 :: D) wr hlS (unhide HDV).2.2 hR.2.2.1 hR.1
        rw [hz] at hbc
        have HBC := hide hbc
        have HCMP := hide hcmp
        have HLS := hide hlS
        clear hbc hcmp hlS hz
        go_wp2_with fail
        refine (unhide HBC).mono ?_
        rintro e w6 ⟨rfl, rfl⟩
        clear HBC
        by_cases hge : (0 : Int) ≤ z
        · have hle := (unhide HCMP).1 hge
          go_wp2_with fail
          refine (takeOff_any g2 w.heap.size (n + 1) (n + 1) cp S' (48 :: D) w6 (unhide HLS) (unhide HDV).2.2 (by omega) hSt.2.1 (unhide HDV).1 hR.2.2.1 hR.1 (by omega) (fun i hi => hR.2.2.2.2.1 i (by rw [unhide HLS]; exact hi)) (by rw [(unhide HDV).2.1]; exact hle)).mono ?_
          rintro e w7 ⟨rfl, L, hL1, hL2, hL3, hL4, hL5, hL6⟩
          rw [(unhide HDV).2.1] at hL3
          have hSt2 := hSt.more (unhide HXB) hle hL1 hL2 hL3
          have hR2 := hR.off (by rw [hL1, unhide HLS]) hL4 (fun i hi => hL5 i (by rw [unhide HLS] at hi; exact hi)) hL6
          have hq9 := hSt2.2.2.2
          have hQk : (Q ++ d :: List.replicate g 0).length = p := by
            rw [List.length_append, unhide HQ, List.length_cons, List.length_replicate]; omega
          have q1 : w7.cell? ⟨w.heap.size + 1, k, none⟩ = some (.int .u8 (d.toNat : Int)) := by
            have := hR2.2.1 k (by rw [hQk]; exact hkp)
            rw [Nat.zero_add] at this
            rw [this]
            have e : (Q ++ d :: List.replicate g (0 : UInt8)).getD k 0 = d := by
              rw [List.getD, List.getElem?_append_right (by rw [unhide HQ]; omega), unhide HQ, Nat.sub_self]; rfl
            rw [e]
          have q2 : w7.frozen? ⟨w.heap.size + 1, k, none⟩ = false := hR2.2.2.2.1 k (by rw [hQk]; exact hkp)
          obtain ⟨d', hd'⟩ : ∃ d' : UInt8, d'.toNat = 48 + (q + 1) := ⟨_, byte_of (by omega)⟩
          have hR3 := hR2.setQ k d'
          rw [set_at Q _ k d' (unhide HQ), show ((d'.toNat : Nat) : Int) = 48 + (q : Int) + 1 from by omega] at hR3
          have hdb : (d.toNat : Int) ≤ 57 := by omega
          have HD' := hide hd'
          clear hL1 hL2 hL3 hL4 hL5 hL6 hSt hR hd' hQk
          go_wp2_with fail
          go_roundg (gk - 1)
          case measure => omega
          case rel => exact ⟨q + 1, L, d', by omega, unhide HD', hSt2, hR3⟩
        · have hlt : Dm.num S' < Dm.num D := by
            have := unhide HCMP
            omega
          have hN := Dm.LongInv.next (d := d) (unhide HL) (unhide HDB) hkN (unhide HCN) hcd (by rw [unhide HX]; exact hSt) hlt hd
          have hR2 : R3 w w.heap.size (w.heap.size + 1) g2 (48 :: D) ((Q ++ [d]) ++ List.replicate g 0) S' w6 := by
            rw [List.append_assoc]; exact hR
          have HN2 := hide hN
          clear hN hSt
          go_wp2_with fail
          go_roundg g
          case measure => omega
          case rel => exact ⟨k + 1, Q ++ [d], S', by omega, by go_num, unhide HN2, hR2⟩
end Go.Proofs.YtmlmplmghlbdmaaGreatDoor
