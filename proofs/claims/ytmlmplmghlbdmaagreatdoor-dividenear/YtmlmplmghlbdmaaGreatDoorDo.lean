/- What is proved here: what whole of package divide does with a decimal that may be, walked; condition: the table of powers of ten lies in the world. -/
import Derived.Test.YtmlmplmghlbdmaaGreatDoorDn
import Derived.Deep.CutRange
import Derived.Deep.RegionHeld3
namespace Go.Proofs.YtmlmplmghlbdmaaGreatDoor
open Go.RowKit
set_option linter.unusedVariables false
set_option linter.unusedSimpArgs false

theorem Dm.rep_ex {ng : Bool} {n : Nat} (hn : n < 10 ^ 60) : ∃ (b : Bool) (l : List UInt8), Dm.May ⟨b, l, 0⟩ ∧ Dm.sg ⟨b, l, 0⟩ = Dm.sgn ng n ∧ ∀ r, Dm.Rep (Dm.sgn ng n) 0 r → r = some ⟨b, l, 0⟩ := by
  have hr : ∃ r, Dm.Rep (Dm.sgn ng n) 0 r := by
    by_cases h0 : n = 0
    · rw [h0, Dm.sgn_zero]; exact ⟨_, Dm.zero_rep 0⟩
    · obtain ⟨l, hl, e⟩ := Dm.digits_exist n
      have hT := Dm.tl_allD hl
      have hTn : Dm.num (Dm.tl l) = n := by rw [Dm.tl_num, e]
      have hne : Dm.tl l ≠ [] := by
        intro h
        rw [h, Dm.num_nil] at hTn
        omega
      have hf := Dm.fin_rep (ng := ng) (s := 0) hT (Dm.tl_lead l hne) (.inl rfl)
      rw [hTn] at hf
      exact ⟨_, hf⟩
  obtain ⟨r, hr⟩ := hr
  obtain ⟨d, e, h1, h2, h3⟩ := Dm.rep_int hr hn
  subst e
  cases d with
  | mk b l s =>
    simp only at h1
    subst h1
    exact ⟨b, l, h2, h3, fun r' h' => h'.uniq hr⟩
theorem decimal_w (x : Bool) (y : List UInt8) (k : Nat) (d1 : Bool) (d2 : List UInt8) (w : World) (hl : y.length ≤ 60) (hd : Dm.allD y) (hfix : Hid (∀ r, Dm.Rep (Dm.sgn x (Dm.num (y.take k))) 0 r → r = some ⟨d1, d2, 0⟩)) (htab : Pow w) :
    Calls Tryz.prog 35 #[.bool x, .string ((⟨y.toArray⟩ : ByteArray).extract 0 k), .int .i64 0] w fun e w' => e = .returned (.tuple #[.agg #[.bool d1, .string ⟨d2.toArray⟩, .int .i64 0], .int .i64 0]) ∧ Below w.heap.size w w' := by
  have e1 : (⟨y.toArray⟩ : ByteArray).extract 0 k = ⟨(y.take k).toArray⟩ := by
    apply str_ext
    rw [Go.Lib.extract_data, mk_list, List.drop_zero, Nat.sub_zero]
  rw [e1]
  refine (decimal_any x (y.take k) 0 w (by rw [List.length_take]; omega) (by decide) (by decide) (fun c hc => hd c (List.mem_of_mem_take hc)) htab).mono ?_
  rintro e w' ⟨r, rfl, hr, hB⟩
  rw [show (-(0 : Int)).toNat = 0 from rfl, Dm.p10_zero, Int.mul_one] at hr
  have := unhide hfix r hr
  subst this
  exact ⟨rfl, hB⟩
theorem add_u (d1 : Bool) (d2 : List UInt8) (x : Bool) (w : World) (hm : Dm.May ⟨d1, d2, 0⟩) :
    Calls Tryz.prog 68 #[.agg #[.bool d1, .string ⟨d2.toArray⟩, .int .i64 0], .agg #[.bool x, .string ⟨#[49]⟩, .int .i64 0]] w fun e w' => ∃ r, e = .returned (.tuple #[.agg #[.bool (rx r), .string (ry r), .int .i64 (rz r)], .int .i64 (re r)]) ∧ Hid (Dm.Rep (Dm.sg ⟨d1, d2, 0⟩ + Dm.sgn x 1) 0 r) ∧ Below w.heap.size w w' := by
  refine (add_r d1 d2 0 x [49] 0 w hm (unit_may x)).mono ?_
  rintro e w' ⟨r, rfl, hr, hB⟩
  rw [unit_sg, Dm.p10_zero, Int.mul_one, Int.mul_one] at hr
  exact ⟨r, rfl, hide hr, hB⟩
theorem Box3.lt {w0 w : World} {x y z : Value} (h : Box3 w0 x y z w) : w0.heap.size < w.heap.size := h.2.1
theorem Box3.cells_a {w0 w : World} {x y z : Value} (h : Box3 w0 x y z w) (o : Obj) : (w.alloc o).cell? ⟨w0.heap.size, 0, none⟩ = some x ∧ (w.alloc o).cell? ⟨w0.heap.size, 1, none⟩ = some y ∧ (w.alloc o).cell? ⟨w0.heap.size, 2, none⟩ = some z := (h.alloc o).2.2
theorem Box3.cells_s {w0 w : World} {x y z : Value} {g : Nat} (h : Box3 w0 x y z w) (hg : w0.heap.size < g) (p q r : Value) : (((w.setCell ⟨g, 0, none⟩ p).setCell ⟨g, 1, none⟩ q).setCell ⟨g, 2, none⟩ r).cell? ⟨w0.heap.size, 0, none⟩ = some x ∧ (((w.setCell ⟨g, 0, none⟩ p).setCell ⟨g, 1, none⟩ q).setCell ⟨g, 2, none⟩ r).cell? ⟨w0.heap.size, 1, none⟩ = some y ∧ (((w.setCell ⟨g, 0, none⟩ p).setCell ⟨g, 1, none⟩ q).setCell ⟨g, 2, none⟩ r).cell? ⟨w0.heap.size, 2, none⟩ = some z :=
  (h.step (B := g) hg (set3_below (Below.refl g w) (Nat.le_refl _) p q r)).2.2
theorem Box3.cells_ad {w0 w : World} {x y z : Value} (h : Box3 w0 x y z w) (o : Obj) : (w.alloc o).drew.cell? ⟨w0.heap.size, 0, none⟩ = some x ∧ (w.alloc o).drew.cell? ⟨w0.heap.size, 1, none⟩ = some y ∧ (w.alloc o).drew.cell? ⟨w0.heap.size, 2, none⟩ = some z := (h.alloc o).drew.2.2
theorem Has3.seto {b c i : Nat} {x y z : Value} {w : World} (h : Has3 b x y z w) (hbc : b ≠ c) (v : Value) : Has3 b x y z (w.setCell ⟨c, i, none⟩ v) := by
  have n : ∀ j, (⟨c, i, none⟩ : Addr) ≠ ⟨b, j, none⟩ := by intro j q; injection q with q1; exact hbc q1.symm
  obtain ⟨h0, a0, a1, a2⟩ := h
  exact ⟨by simpa [World.setCell] using h0, by rw [World.cell?_setCell_other (h := n 0)]; exact a0, by rw [World.cell?_setCell_other (h := n 1)]; exact a1, by rw [World.cell?_setCell_other (h := n 2)]; exact a2⟩
theorem Has3.set0 {b : Nat} {x y z : Value} {w : World} (h : Has3 b x y z w) (v : Value) : Has3 b v y z (w.setCell ⟨b, 0, none⟩ v) := by
  have n01 : (⟨b, 0, none⟩ : Addr) ≠ ⟨b, 1, none⟩ := by intro q; injection q with _ q2; cases q2
  have n02 : (⟨b, 0, none⟩ : Addr) ≠ ⟨b, 2, none⟩ := by intro q; injection q with _ q2; cases q2
  obtain ⟨h0, a0, a1, a2⟩ := h
  exact ⟨by simpa [World.setCell] using h0, by rw [World.cell?_setCell_same (h := a0)], by rw [World.cell?_setCell_other (h := n01)]; exact a1, by rw [World.cell?_setCell_other (h := n02)]; exact a2⟩
theorem Own3.seto {b c i : Nat} {x y z : Value} {w : World} (h : Own3 b x y z w) (hbc : b ≠ c) (v : Value) : Own3 b x y z (w.setCell ⟨c, i, none⟩ v) := by
  obtain ⟨h0, f0, f1, f2⟩ := h
  exact ⟨h0.seto hbc v, by rw [World.frozen?_setCell]; exact f0, by rw [World.frozen?_setCell]; exact f1, by rw [World.frozen?_setCell]; exact f2⟩

set_option maxRecDepth 100000 in
set_option maxHeartbeats 4000000 in
theorem whole_r (x : Bool) (y : List UInt8) (z : Nat) (far : Bool) (w : World) (h : Dm.May ⟨x, y, z⟩) (hfz : 0 < z ∨ far = false) (htab : Pow w) :
    Calls Tryz.prog 47 #[.agg #[.bool x, .string ⟨y.toArray⟩, .int .i64 (z : Int)], .bool far] w fun e w' => ∃ r, e = .returned (tV r) ∧ Dm.Rep (Dm.sgn x (Dm.num y / 10 ^ z + far.toNat)) 0 r ∧ Below w.heap.size w w' := by
  have hS := Box3.start w (.bool x) (.string ⟨y.toArray⟩) (.int .i64 (z : Int)) 23
  have hO := Own3.start (w.alloc (.cells #[.bool x, .string ⟨y.toArray⟩, .int .i64 (z : Int)] 23)) (.bool false) (.string ⟨#[]⟩) (.int .i64 0) 23
  have hsz : (w.alloc (.cells #[.bool x, .string ⟨y.toArray⟩, .int .i64 (z : Int)] 23)).heap.size = w.heap.size + 1 := by simp
  rw [hsz] at hO
  replace hS := hS.alloc (.cells #[.bool false, .string ⟨#[]⟩, .int .i64 0] 23)
  obtain ⟨l1, l2, l3⟩ := may_len h
  simp only at l1 l2 l3
  have hma := dV_may h
  have hsa : (⟨y.toArray⟩ : ByteArray).size ≤ maxLen := by unfold maxLen; rw [mk_size]; omega
  obtain ⟨k, hk⟩ : ∃ k, y.length - z = k := ⟨_, rfl⟩
  have hmax : max 0 ((y.length : Int) - (z : Int)) = (k : Int) := by omega
  have hk0 : (0 : Int) ≤ (k : Int) := by omega
  have hk1 : (k : Int) ≤ (y.length : Int) := by omega
  have hk2 : k ≤ y.length := by omega
  have hw : IntKind.i64.wrap ((y.length : Int) - (z : Int)) = (y.length : Int) - (z : Int) := wrap_id (by omega) (by omega)
  have hW : Dm.num (y.take k) = Dm.num y / 10 ^ z := by
    by_cases g : z ≤ y.length
    · have := (Dm.split_num h.1 k (by omega)).1
      rw [this]
      congr 2
      simp only
      omega
    · have e : k = 0 := by omega
      have hlt := Dm.num_lt h.1
      simp only at hlt
      have hle := Nat.pow_le_pow_right (n := 10) (by omega) (show y.length ≤ z from by omega)
      rw [e, Nat.div_eq_of_lt (by omega)]
      rfl
  have hlt : Dm.num y / 10 ^ z + far.toNat < 10 ^ 60 := Dm.whole_lt h far.toNat (by cases far <;> decide) (by rcases hfz with g | g; exact .inl g; right; rw [g]; rfl)
  obtain ⟨d1, d2, m1, m2, m3⟩ := Dm.rep_ex (ng := x) (n := Dm.num y / 10 ^ z) (by omega)
  have m3' := m3
  rw [← hW] at m3'
  have HFIX := hide m3'
  have HM2 := hide m2
  have HM3 := hide m3
  have HMA := hide hma
  have hd := h.1
  simp only at hd
  clear m3 m3' m2 hma hk hW hsz
  have z0 : True := trivial
  go_enter Tryz.func47, Tryz.ntmps47
  obtain ⟨_, _, a0, a1, a2⟩ := id hS
  go_upto_region 3 with (go_at_call 31; refine (may_b x ⟨y.toArray⟩ z true _ hsa (unhide HMA)).mono ?_; rintro e w1 ⟨rfl, hb1⟩; replace hS := hS.next hb1; replace hO := hO.next hb1; clear a0 a1 a2 hb1)
  obtain ⟨_, _, a0, a1, a2⟩ := id hS
  have hP := htab.next hS.1
  go_cut [6, 7] from 9 to 28 (fun v6 v7 wx => ∃ g : Nat, v6 = .pointer (some ⟨g, 0, none⟩) ∧ v7 = .int .i64 0 ∧ w1.heap.size ≤ g ∧ Below w1.heap.size w1 wx ∧ Has3 g (.bool d1) (.string ⟨d2.toArray⟩) (.int .i64 0) wx)
  case first =>
    have hB : Below w1.heap.size w1 w1.drew := (Below.refl _ _).drew
    go_region_held3 (fun w' => w'.cell? ⟨w.heap.size, 0, none⟩ = some (.bool x) ∧ w'.cell? ⟨w.heap.size, 1, none⟩ = some (.string ⟨y.toArray⟩) ∧ w'.cell? ⟨w.heap.size, 2, none⟩ = some (.int .i64 (z : Int))) (first | with_reducible exact Box3.cells (hS.next hB) | with_reducible exact Box3.cells_a (hS.next hB) _ | with_reducible exact Box3.cells_ad hS _ | with_reducible exact Box3.cells_s (hS.next hB) (Nat.lt_of_lt_of_le (Box3.lt hS) hg) _ _ _)
      (first | (go_at_call 35; first | ((fail_if_success have := hA); refine (decimal_w x y k d1 d2 _ l2 hd HFIX (hP.next hB)).mono ?_; rintro e w' ⟨rfl, hbw⟩; replace hB := hB.trans (hbw.mono hB.size); clear hbw) | ((fail_if_success have := hA); refine (decimal_w x y k d1 d2 _ l2 hd HFIX (hP.next ((Below.refl _ _).alloc (Nat.le_refl _) _).drew)).mono ?_; rintro e w' ⟨rfl, hbw⟩; have hg := Nat.le_refl w1.heap.size; have hA := Own3.next (Own3.next (Own3.start _ (.bool false) (.string ⟨#[]⟩) (.int .i64 0) 23) (Below.refl _ _).drew) hbw; replace hB := (((Below.refl _ _).alloc (Nat.le_refl _) _).drew).trans (hbw.mono (((Below.refl w1.heap.size w1).alloc (Nat.le_refl _) (.cells #[.bool false, .string ⟨#[]⟩, .int .i64 0] 23)).drew).size); obtain ⟨⟨_, k0, k1, k2⟩, f0, f1, f2⟩ := id hA; clear hbw)))
    all_goals
      go_wp2_with fail
      go_meet
      case rel =>
        first
        | exact ⟨_, rfl, rfl, hB.size, hB.alloc hB.size _, Has3.start _ _ _ _ _⟩
        | exact ⟨_, rfl, rfl, hg, set3_below hB hg _ _ _, (hA.store _ _ _).1⟩
  case rest =>
  obtain ⟨g, rfl, rfl, hg, hB, A⟩ := hcut
  have hgw : w.heap.size + 1 < g := Nat.lt_of_lt_of_le hO.1.1 hg
  replace hS := hS.next hB
  replace hO := hO.next hB
  clear a0 a1 a2 hP hB HFIX
  have hP := htab.next hS.1
  cases far with
  | false =>
    obtain ⟨_, _, a0, a1, a2⟩ := id hS
    obtain ⟨⟨_, o0, o1, o2⟩, f0, f1, f2⟩ := id hO
    obtain ⟨_, b0, b1, b2⟩ := id A
    go_wp2_with fail
    refine bodyPost_ret (v := tV (some ⟨d1, d2, 0⟩)) ?_ rfl ⟨some ⟨d1, d2, 0⟩, rfl, ?_, ?_⟩
    · simp [results, Tryz.results47, go_sem, o0, o1, o2, tV, rx, ry, rz, re]
    · exact Dm.Rep.of_eqv m1 (by rw [unhide HM2])
    · exact set3_below hS.1 (by omega) _ _ _
  | true =>
    obtain ⟨_, _, a0, a1, a2⟩ := id hS
    obtain ⟨⟨_, o0, o1, o2⟩, f0, f1, f2⟩ := id hO
    obtain ⟨_, b0, b1, b2⟩ := id A
    go_upto_region 7 with (go_at_call 51; refine (int_one _ hP).mono ?_; rintro e w5 ⟨rfl, hb5⟩; replace hS := hS.next hb5; replace hO := hO.next hb5; replace A := A.next hb5; clear a0 a1 a2 o0 o1 o2 b0 b1 b2 f0 f1 f2)
    have U := Own3.start w5 (.bool false) (.string ⟨#[49]⟩) (.int .i64 0) 23
    have hlt5 : g < w5.heap.size := A.1
    have hAl := (Below.refl w5.heap.size w5).alloc (Nat.le_refl _) (.cells #[.bool false, .string ⟨#[49]⟩, .int .i64 0] 23)
    replace hS := hS.next hAl
    replace hO := hO.next hAl
    replace A := A.next hAl
    generalize hv : w5.alloc (.cells #[.bool false, .string ⟨#[49]⟩, .int .i64 0] 23) = v at *
    clear hAl hv
    obtain ⟨_, _, a0, a1, a2⟩ := id hS
    obtain ⟨⟨_, u0, u1, u2⟩, s0, s1, s2⟩ := id U
    go_upto_region 8 with fail
    clear a0 a1 a2 u0 u1 u2 s0 s1 s2
    have hS8 := hS.step (B := w.heap.size + 1) (by omega) ((Below.refl (w.heap.size + 1) v).setCell (p := ⟨w5.heap.size, 0, none⟩) (by show w.heap.size + 1 ≤ w5.heap.size; omega) (.bool x))
    have hO8 := hO.seto (c := w5.heap.size) (i := 0) (by omega) (.bool x)
    have A8 := A.seto (c := w5.heap.size) (i := 0) (by omega) (.bool x)
    have U8 := U.1.set0 (.bool x)
    generalize hv : v.setCell ⟨w5.heap.size, 0, none⟩ (.bool x) = v8 at *
    clear hv hS hO A U
    obtain ⟨_, _, a0, a1, a2⟩ := id hS8
    obtain ⟨⟨_, o0, o1, o2⟩, f0, f1, f2⟩ := id hO8
    obtain ⟨_, b0, b1, b2⟩ := id A8
    obtain ⟨_, u0, u1, u2⟩ := id U8
    go_wp2_with (go_at_call 68; refine (add_u d1 d2 x _ m1).mono ?_; rintro e w9 ⟨r, rfl, HR, hb9⟩; replace hS8 := hS8.next hb9; replace hO8 := hO8.next hb9; clear a0 a1 a2 o0 o1 o2 b0 b1 b2 f0 f1 f2 u0 u1 u2; obtain ⟨⟨_, o0, o1, o2⟩, f0, f1, f2⟩ := id hO8)
    refine bodyPost_ret (v := tV r) ?_ rfl ⟨r, rfl, ?_, ?_⟩
    · simp [results, Tryz.results47, go_sem, o0, o1, o2, tV]
    · have := unhide HR
      rw [unhide HM2] at this
      have e : Dm.sgn x (Dm.num y / 10 ^ z + true.toNat) = Dm.sgn x (Dm.num y / 10 ^ z) + Dm.sgn x 1 := by
        cases x <;> simp [Dm.sgn] <;> omega
      rw [e]; exact this
    · exact set3_below hS8.1 (by omega) _ _ _
end Go.Proofs.YtmlmplmghlbdmaaGreatDoor
