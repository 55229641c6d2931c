/- What is proved here: what the law DecBack does, walked; conditions: none. -/
import Derived.Test.YtpahiiffmkcelaaDoorWp
namespace Go.Proofs.YtpahiiffmkcelaaDoor
open Go.RowKit
set_option linter.unusedVariables false
set_option linter.unusedSimpArgs false

set_option maxRecDepth 100000 in
set_option maxHeartbeats 2000000 in
theorem back_walk (ng : Bool) (s : ByteArray) (n : Int) (s2 : ByteArray) (w : World) (hs : s.size ≤ maxLen) (hs2 : s2.size ≤ maxLen) :
    Calls Tryd.prog 5 #[.agg #[.bool ng, .string s, .int .i64 n], .string s2] w fun e w' => e = .returned (.bool true) ∧ Below w.heap.size w w' := by
  obtain ⟨tl, htl⟩ : ∃ tl, s.data.toList.take 200 = tl := ⟨_, rfl⟩
  obtain ⟨t2, ht2⟩ : ∃ t2, s2.data.toList.take 200 = t2 := ⟨_, rfl⟩
  have hl1 : tl.length ≤ 200 := by rw [← htl, List.length_take]; omega
  have hl2 : t2.length ≤ 200 := by rw [← ht2, List.length_take]; omega
  have HT1 := hide htl
  have HT2 := hide ht2
  clear htl ht2
  have hf0 : (w.alloc (.cells #[.bool ng, .string s, .int .i64 n] 23)).frozen? ⟨w.heap.size, 1, none⟩ = false := frozen_made w _ 23 1
  have hx := Box3.start w (.bool ng) (.string s) (.int .i64 n) 23
  cases hm : Dm.mayB ng tl n with
  | false =>
    have HM := hide hm
    clear hm
    cases hp : Dm.parseL t2 with
    | none =>
      have HP := hide hp
      clear hp
      go_enter Tryd.func5, Tryd.ntmps5
      go_wp2_with fail
      refine (shown_any _).mono ?_
      rintro e w1 ⟨rfl, hb1⟩
      have hx1 := hx.next hb1
      have hf1 : w1.frozen? ⟨w.heap.size, 1, none⟩ = false := by rw [hb1.frozen (p := ⟨w.heap.size, 1, none⟩) (by simp)]; exact hf0
      obtain ⟨_, _, c0, c1, c2⟩ := id hx1
      clear hx hf0 hb1
      go_wp2_with fail
      refine (few_any s tl _ hs (unhide HT1)).mono ?_
      rintro e w1' ⟨rfl, rfl⟩
      have hx2 := hx1.set1 (.string ⟨tl.toArray⟩)
      go_wp2_with fail
      refine (may_l ng tl n false _ hl1 (unhide HM)).mono ?_
      rintro e w2 ⟨rfl, hb2⟩
      have hx3 := hx2.next hb2
      have hB : Below w.heap.size w w2 := hx3.1
      clear hx1 hx2 hb2 c0 c1 c2 hf1
      go_wp2_with fail
      refine (few_any s2 t2 _ hs2 (unhide HT2)).mono ?_
      rintro e w5 ⟨rfl, rfl⟩
      go_wp2_with fail
      refine (parse_n t2 _ hl2 (unhide HP)).mono ?_
      rintro e w6 ⟨rfl, hb6⟩
      have hB6 := hB.trans (hb6.mono hB.size)
      clear hb6
      go_wp2
      go_ret
      exact ⟨rfl, hB6.alloc hB6.size _⟩
    | some o =>
      cases o with
      | none =>
        have HP := hide hp
        clear hp
        go_enter Tryd.func5, Tryd.ntmps5
        go_wp2_with fail
        refine (shown_any _).mono ?_
        rintro e w1 ⟨rfl, hb1⟩
        have hx1 := hx.next hb1
        have hf1 : w1.frozen? ⟨w.heap.size, 1, none⟩ = false := by rw [hb1.frozen (p := ⟨w.heap.size, 1, none⟩) (by simp)]; exact hf0
        obtain ⟨_, _, c0, c1, c2⟩ := id hx1
        clear hx hf0 hb1
        go_wp2_with fail
        refine (few_any s tl _ hs (unhide HT1)).mono ?_
        rintro e w1' ⟨rfl, rfl⟩
        have hx2 := hx1.set1 (.string ⟨tl.toArray⟩)
        go_wp2_with fail
        refine (may_l ng tl n false _ hl1 (unhide HM)).mono ?_
        rintro e w2 ⟨rfl, hb2⟩
        have hx3 := hx2.next hb2
        have hB : Below w.heap.size w w2 := hx3.1
        clear hx1 hx2 hb2 c0 c1 c2 hf1
        go_wp2_with fail
        refine (few_any s2 t2 _ hs2 (unhide HT2)).mono ?_
        rintro e w5 ⟨rfl, rfl⟩
        go_wp2_with fail
        refine (parse_z t2 _ hl2 (unhide HP)).mono ?_
        rintro e w6 ⟨rfl, hb6⟩
        have hB6 := hB.trans (hb6.mono hB.size)
        clear hb6
        go_wp2
        go_ret
        exact ⟨rfl, hB6.alloc hB6.size _⟩
      | some d =>
        obtain ⟨x, y, z⟩ := d
        have hmay2 : Dm.May ⟨x, y, z⟩ := Dm.parse_may hp
        obtain ⟨pl2, hpl2e⟩ : ∃ pl2, Dm.printL ⟨x, y, z⟩ = pl2 := ⟨_, rfl⟩
        have hpl2 : pl2.length ≤ 200 := by rw [← hpl2e]; exact printL_len hmay2
        have hpp2 : Dm.parseL pl2 = some (some ⟨x, y, z⟩) := by rw [← hpl2e]; exact Dm.parse_print hmay2
        have hy : y.length ≤ 200 := by have := (may_len hmay2).2.1; simp only at this; omega
        have hm2 : Dm.mayB x y (z : Int) = true := by have := dV_may hmay2; rw [mk_list] at this; exact this
        have HPL2 := hide hpl2e
        have HPP2 := hide hpp2
        have HM2 := hide hm2
        clear hpl2e hpp2 hm2
        have HP := hide hp
        clear hp
        go_enter Tryd.func5, Tryd.ntmps5
        go_wp2_with fail
        refine (shown_any _).mono ?_
        rintro e w1 ⟨rfl, hb1⟩
        have hx1 := hx.next hb1
        have hf1 : w1.frozen? ⟨w.heap.size, 1, none⟩ = false := by rw [hb1.frozen (p := ⟨w.heap.size, 1, none⟩) (by simp)]; exact hf0
        obtain ⟨_, _, c0, c1, c2⟩ := id hx1
        clear hx hf0 hb1
        go_wp2_with fail
        refine (few_any s tl _ hs (unhide HT1)).mono ?_
        rintro e w1' ⟨rfl, rfl⟩
        have hx2 := hx1.set1 (.string ⟨tl.toArray⟩)
        go_wp2_with fail
        refine (may_l ng tl n false _ hl1 (unhide HM)).mono ?_
        rintro e w2 ⟨rfl, hb2⟩
        have hx3 := hx2.next hb2
        have hB : Below w.heap.size w w2 := hx3.1
        clear hx1 hx2 hb2 c0 c1 c2 hf1
        go_wp2_with fail
        refine (few_any s2 t2 _ hs2 (unhide HT2)).mono ?_
        rintro e w5 ⟨rfl, rfl⟩
        go_wp2_with fail
        refine (parse_s t2 _ hl2 x y z (unhide HP)).mono ?_
        rintro e w6 ⟨rfl, hb6⟩
        have hB6 := hB.trans (hb6.mono hB.size)
        have h6 := Has3.start w6 (.bool x) (.string ⟨y.toArray⟩) (.int .i64 (z : Int)) 23
        obtain ⟨_, e0, e1, e2⟩ := id h6
        clear hb6
        go_wp2_with fail
        refine (print_b x y z pl2 _ hmay2 (unhide HPL2)).mono ?_
        rintro e w7 ⟨rfl, hb7⟩
        have h7 := h6.next hb7
        have hB7 := (hB6.alloc hB6.size (.cells #[.bool x, .string ⟨y.toArray⟩, .int .i64 (z : Int)] 23)).trans (hb7.mono (by have := hB6.size; simp; omega))
        clear h6 hb7 hB6 e0 e1 e2
        go_wp2_with fail
        refine (parse_s pl2 _ hpl2 x y z (unhide HPP2)).mono ?_
        rintro e w8 ⟨rfl, hb8⟩
        have h8 := h7.next hb8
        have hB8 := hB7.trans (hb8.mono hB7.size)
        obtain ⟨_, e0, e1, e2⟩ := id h8
        clear h7 hb8 hB7
        have h9 := h8.next ((Below.refl _ _).alloc (Nat.le_refl _) (.cells #[.bool x, .string ⟨y.toArray⟩, .int .i64 (z : Int)] 23))
        have hB9 := hB8.alloc hB8.size (.cells #[.bool x, .string ⟨y.toArray⟩, .int .i64 (z : Int)] 23)
        go_wp2_with fail
        refine (may_l x y z true _ hy (unhide HM2)).mono ?_
        rintro e w10 ⟨rfl, hb10⟩
        have h10 := h9.next hb10
        have h10b := (Has3.start w8 (.bool x) (.string ⟨y.toArray⟩) (.int .i64 (z : Int)) 23).next hb10
        have hB10 := hB9.trans (hb10.mono hB9.size)
        obtain ⟨_, p0, p1, p2⟩ := id h10
        obtain ⟨_, q0, q1, q2⟩ := id h10b
        clear h8 h9 hb10 hB8 hB9 e0 e1 e2
        go_wp2

        go_ret
        exact ⟨rfl, hB10⟩
  | true =>
    have hmb := Dm.mayB_iff.1 hm
    obtain ⟨sc, rfl⟩ := Int.eq_ofNat_of_zero_le hmb.1
    have hmay : Dm.May ⟨ng, tl, sc⟩ := by have := hmb.2; rwa [Int.toNat_natCast] at this
    obtain ⟨pl, hple⟩ : ∃ pl, Dm.printL ⟨ng, tl, sc⟩ = pl := ⟨_, rfl⟩
    have hpl : pl.length ≤ 200 := by rw [← hple]; exact printL_len hmay
    have hpp : Dm.parseL pl = some (some ⟨ng, tl, sc⟩) := by rw [← hple]; exact Dm.parse_print hmay
    have HPL := hide hple
    have HPP := hide hpp
    clear hple hpp hmb
    have HM := hide hm
    clear hm
    cases hp : Dm.parseL t2 with
    | none =>
      have HP := hide hp
      clear hp
      go_enter Tryd.func5, Tryd.ntmps5
      go_wp2_with fail
      refine (shown_any _).mono ?_
      rintro e w1 ⟨rfl, hb1⟩
      have hx1 := hx.next hb1
      have hf1 : w1.frozen? ⟨w.heap.size, 1, none⟩ = false := by rw [hb1.frozen (p := ⟨w.heap.size, 1, none⟩) (by simp)]; exact hf0
      obtain ⟨_, _, c0, c1, c2⟩ := id hx1
      clear hx hf0 hb1
      go_wp2_with fail
      refine (few_any s tl _ hs (unhide HT1)).mono ?_
      rintro e w1' ⟨rfl, rfl⟩
      have hx2 := hx1.set1 (.string ⟨tl.toArray⟩)
      go_wp2_with fail
      refine (may_l ng tl (sc : Int) true _ hl1 (unhide HM)).mono ?_
      rintro e w2 ⟨rfl, hb2⟩
      have hx3 := hx2.next hb2
      have hB : Below w.heap.size w w2 := hx3.1
      clear hx1 hx2 hb2 c0 c1 c2 hf1
      obtain ⟨_, _, c0, c1, c2⟩ := id hx3
      go_wp2_with fail
      refine (print_b ng tl sc pl _ hmay (unhide HPL)).mono ?_
      rintro e w3 ⟨rfl, hb3⟩
      have hx4 := hx3.next hb3
      clear hx3 hb3 hB c0 c1 c2
      go_wp2_with fail
      refine (parse_s pl _ hpl ng tl sc (unhide HPP)).mono ?_
      rintro e w4 ⟨rfl, hb4⟩
      have hx5 := hx4.next hb4
      obtain ⟨_, _, c0, c1, c2⟩ := id hx5
      clear hx4 hb4
      have hB : Below w.heap.size w (w4.alloc (.cells #[.bool ng, .string ⟨tl.toArray⟩, .int .i64 (sc : Int)] 23)) := (hx5.alloc _).1
      go_wp2_with fail
      refine (few_any s2 t2 _ hs2 (unhide HT2)).mono ?_
      rintro e w5 ⟨rfl, rfl⟩
      go_wp2_with fail
      refine (parse_n t2 _ hl2 (unhide HP)).mono ?_
      rintro e w6 ⟨rfl, hb6⟩
      have hB6 := hB.trans (hb6.mono hB.size)
      clear hb6
      go_wp2
      go_ret
      exact ⟨rfl, hB6.alloc hB6.size _⟩
    | some o =>
      cases o with
      | none =>
        have HP := hide hp
        clear hp
        go_enter Tryd.func5, Tryd.ntmps5
        go_wp2_with fail
        refine (shown_any _).mono ?_
        rintro e w1 ⟨rfl, hb1⟩
        have hx1 := hx.next hb1
        have hf1 : w1.frozen? ⟨w.heap.size, 1, none⟩ = false := by rw [hb1.frozen (p := ⟨w.heap.size, 1, none⟩) (by simp)]; exact hf0
        obtain ⟨_, _, c0, c1, c2⟩ := id hx1
        clear hx hf0 hb1
        go_wp2_with fail
        refine (few_any s tl _ hs (unhide HT1)).mono ?_
        rintro e w1' ⟨rfl, rfl⟩
        have hx2 := hx1.set1 (.string ⟨tl.toArray⟩)
        go_wp2_with fail
        refine (may_l ng tl (sc : Int) true _ hl1 (unhide HM)).mono ?_
        rintro e w2 ⟨rfl, hb2⟩
        have hx3 := hx2.next hb2
        have hB : Below w.heap.size w w2 := hx3.1
        clear hx1 hx2 hb2 c0 c1 c2 hf1
        obtain ⟨_, _, c0, c1, c2⟩ := id hx3
        go_wp2_with fail
        refine (print_b ng tl sc pl _ hmay (unhide HPL)).mono ?_
        rintro e w3 ⟨rfl, hb3⟩
        have hx4 := hx3.next hb3
        clear hx3 hb3 hB c0 c1 c2
        go_wp2_with fail
        refine (parse_s pl _ hpl ng tl sc (unhide HPP)).mono ?_
        rintro e w4 ⟨rfl, hb4⟩
        have hx5 := hx4.next hb4
        obtain ⟨_, _, c0, c1, c2⟩ := id hx5
        clear hx4 hb4
        have hB : Below w.heap.size w (w4.alloc (.cells #[.bool ng, .string ⟨tl.toArray⟩, .int .i64 (sc : Int)] 23)) := (hx5.alloc _).1
        go_wp2_with fail
        refine (few_any s2 t2 _ hs2 (unhide HT2)).mono ?_
        rintro e w5 ⟨rfl, rfl⟩
        go_wp2_with fail
        refine (parse_z t2 _ hl2 (unhide HP)).mono ?_
        rintro e w6 ⟨rfl, hb6⟩
        have hB6 := hB.trans (hb6.mono hB.size)
        clear hb6
        go_wp2
        go_ret
        exact ⟨rfl, hB6.alloc hB6.size _⟩
      | some d =>
        obtain ⟨x, y, z⟩ := d
        have hmay2 : Dm.May ⟨x, y, z⟩ := Dm.parse_may hp
        obtain ⟨pl2, hpl2e⟩ : ∃ pl2, Dm.printL ⟨x, y, z⟩ = pl2 := ⟨_, rfl⟩
        have hpl2 : pl2.length ≤ 200 := by rw [← hpl2e]; exact printL_len hmay2
        have hpp2 : Dm.parseL pl2 = some (some ⟨x, y, z⟩) := by rw [← hpl2e]; exact Dm.parse_print hmay2
        have hy : y.length ≤ 200 := by have := (may_len hmay2).2.1; simp only at this; omega
        have hm2 : Dm.mayB x y (z : Int) = true := by have := dV_may hmay2; rw [mk_list] at this; exact this
        have HPL2 := hide hpl2e
        have HPP2 := hide hpp2
        have HM2 := hide hm2
        clear hpl2e hpp2 hm2
        have HP := hide hp
        clear hp
        go_enter Tryd.func5, Tryd.ntmps5
        go_wp2_with fail
        refine (shown_any _).mono ?_
        rintro e w1 ⟨rfl, hb1⟩
        have hx1 := hx.next hb1
        have hf1 : w1.frozen? ⟨w.heap.size, 1, none⟩ = false := by rw [hb1.frozen (p := ⟨w.heap.size, 1, none⟩) (by simp)]; exact hf0
        obtain ⟨_, _, c0, c1, c2⟩ := id hx1
        clear hx hf0 hb1
        go_wp2_with fail
        refine (few_any s tl _ hs (unhide HT1)).mono ?_
        rintro e w1' ⟨rfl, rfl⟩
        have hx2 := hx1.set1 (.string ⟨tl.toArray⟩)
        go_wp2_with fail
        refine (may_l ng tl (sc : Int) true _ hl1 (unhide HM)).mono ?_
        rintro e w2 ⟨rfl, hb2⟩
        have hx3 := hx2.next hb2
        have hB : Below w.heap.size w w2 := hx3.1
        clear hx1 hx2 hb2 c0 c1 c2 hf1
        obtain ⟨_, _, c0, c1, c2⟩ := id hx3
        go_wp2_with fail
        refine (print_b ng tl sc pl _ hmay (unhide HPL)).mono ?_
        rintro e w3 ⟨rfl, hb3⟩
        have hx4 := hx3.next hb3
        clear hx3 hb3 hB c0 c1 c2
        go_wp2_with fail
        refine (parse_s pl _ hpl ng tl sc (unhide HPP)).mono ?_
        rintro e w4 ⟨rfl, hb4⟩
        have hx5 := hx4.next hb4
        obtain ⟨_, _, c0, c1, c2⟩ := id hx5
        clear hx4 hb4
        have hB : Below w.heap.size w (w4.alloc (.cells #[.bool ng, .string ⟨tl.toArray⟩, .int .i64 (sc : Int)] 23)) := (hx5.alloc _).1
        go_wp2_with fail
        refine (few_any s2 t2 _ hs2 (unhide HT2)).mono ?_
        rintro e w5 ⟨rfl, rfl⟩
        go_wp2_with fail
        refine (parse_s t2 _ hl2 x y z (unhide HP)).mono ?_
        rintro e w6 ⟨rfl, hb6⟩
        have hB6 := hB.trans (hb6.mono hB.size)
        have h6 := Has3.start w6 (.bool x) (.string ⟨y.toArray⟩) (.int .i64 (z : Int)) 23
        obtain ⟨_, e0, e1, e2⟩ := id h6
        clear hb6
        go_wp2_with fail
        refine (print_b x y z pl2 _ hmay2 (unhide HPL2)).mono ?_
        rintro e w7 ⟨rfl, hb7⟩
        have h7 := h6.next hb7
        have hB7 := (hB6.alloc hB6.size (.cells #[.bool x, .string ⟨y.toArray⟩, .int .i64 (z : Int)] 23)).trans (hb7.mono (by have := hB6.size; simp; omega))
        clear h6 hb7 hB6 e0 e1 e2
        go_wp2_with fail
        refine (parse_s pl2 _ hpl2 x y z (unhide HPP2)).mono ?_
        rintro e w8 ⟨rfl, hb8⟩
        have h8 := h7.next hb8
        have hB8 := hB7.trans (hb8.mono hB7.size)
        obtain ⟨_, e0, e1, e2⟩ := id h8
        clear h7 hb8 hB7
        have h9 := h8.next ((Below.refl _ _).alloc (Nat.le_refl _) (.cells #[.bool x, .string ⟨y.toArray⟩, .int .i64 (z : Int)] 23))
        have hB9 := hB8.alloc hB8.size (.cells #[.bool x, .string ⟨y.toArray⟩, .int .i64 (z : Int)] 23)
        go_wp2_with fail
        refine (may_l x y z true _ hy (unhide HM2)).mono ?_
        rintro e w10 ⟨rfl, hb10⟩
        have h10 := h9.next hb10
        have h10b := (Has3.start w8 (.bool x) (.string ⟨y.toArray⟩) (.int .i64 (z : Int)) 23).next hb10
        have hB10 := hB9.trans (hb10.mono hB9.size)
        obtain ⟨_, p0, p1, p2⟩ := id h10
        obtain ⟨_, q0, q1, q2⟩ := id h10b
        clear h8 h9 hb10 hB8 hB9 e0 e1 e2
        go_wp2

        go_ret
        exact ⟨rfl, hB10⟩
end Go.Proofs.YtpahiiffmkcelaaDoor
