/- What is proved here: PathLeads, walked: for every places and pattern that come in the law returns true and leaves them; conditions: the tables lie, the rows lie. Written by leads_gen.py. -/
import Derived.Test.YtomhgafpjpnmdaaGreatDoorPs
import Derived.Test.YtomhgafpjpnmdaaGreatDoorPf
import Derived.Test.YtomhgafpjpnmdaaGreatDoorPy
namespace Go.Proofs.YtomhgafpjpnmdaaGreatDoor
open Go.RowKit
set_option linter.unusedVariables false
set_option linter.unusedSimpArgs false

def deepS : Pm.St := ⟨5, Pm.nul, 0⟩
theorem row1_new (w : World) (t : Pm.St) (ty : TypeId) : RowSt (w.alloc (.cells #[.int .i64 t.k, .string t.s, .int .i64 t.n] ty)) w.heap.size 0 [t] := by
  refine ⟨by simp, fun i hi => ?_⟩
  have hi0 : i = 0 := by simp at hi; omega
  subst hi0
  exact ⟨World.cell?_alloc_at _ _ _ _ rfl, World.cell?_alloc_at _ _ _ _ rfl, World.cell?_alloc_at _ _ _ _ rfl⟩
theorem mt_under (l b : List Pm.St) (h : Pm.mt l b = true) : Pm.mt (l ++ [deepS]) b = true := (Pm.mt_end (t := deepS) rfl l b).2 ⟨b.length, Nat.le_refl _, by rw [List.take_length]; exact h⟩
theorem mt_over (l a b : List Pm.St) (h : Pm.mt l b = true) : Pm.mt ([deepS] ++ l) (a ++ b) = true := (Pm.mt_deep (t := deepS) rfl l (a ++ b)).2 ⟨a.length, by simp, by simpa using h⟩

set_option maxRecDepth 100000 in
set_option maxHeartbeats 8000000 in
theorem leads_rest (g1 cap1 j1 g2 cap2 j2 g3 cap3 k gd ge cape : Nat) (a b l : List Pm.St) (hj1 : a.length = j1) (hj2 : b.length = j2) (hk : l.length = k) (h1 : j1 ≤ 12) (h2 : j2 ≤ 12) (h3 : k ≤ 6) (hpa : ∀ x ∈ a, Pm.Pl x) (hpb : ∀ x ∈ b, Pm.Pl x) : True := trivial

set_option maxRecDepth 100000 in
set_option maxHeartbeats 16000000 in
theorem leads_walk (aa : Option Addr) (n1 c1 : Nat) (A : List Pm.St) (ab : Option Addr) (n2 c2 : Nat) (B : List Pm.St) (al : Option Addr) (n3 c3 : Nat) (L : List Pm.St) (w : World) (hn1 : n1 ≤ 9223372036854775807) (hn2 : n2 ≤ 9223372036854775807) (hn3 : n3 ≤ 9223372036854775807) (hA : StepsIn w aa n1 A) (hBB : StepsIn w ab n2 B) (hL : StepsIn w al n3 L) (hT : Tabs w) (hP : Pow w) :
    Calls Tryz.prog 5 #[.slice aa n1 c1, .slice ab n2 c2, .slice al n3 c3] w fun e w' => e = .returned (.bool true) ∧ Below w.heap.size w w' := by
  have C1 := fun W h => place_any aa n1 c1 A hn1 W h
  have C2 := fun W h => place_any ab n2 c2 B hn2 W h
  have C3 := fun W h => pfew_any al n3 c3 L hn3 W h
  obtain ⟨a, ha⟩ : ∃ a, Pm.plL A = a := ⟨_, rfl⟩
  obtain ⟨b, hb⟩ : ∃ b, Pm.plL B = b := ⟨_, rfl⟩
  obtain ⟨l0, hl0⟩ : ∃ l0, fewL L = l0 := ⟨_, rfl⟩
  obtain ⟨j1, hj1⟩ : ∃ j, a.length = j := ⟨_, rfl⟩
  obtain ⟨j2, hj2⟩ : ∃ j, b.length = j := ⟨_, rfl⟩
  obtain ⟨k0, hk0⟩ : ∃ k, l0.length = k := ⟨_, rfl⟩
  have HPA : Hid (∀ x ∈ a, Pm.Pl x) := phide (by rw [← ha]; exact Pm.plL_pl A)
  have HPB : Hid (∀ x ∈ b, Pm.Pl x) := phide (by rw [← hb]; exact Pm.plL_pl B)
  have h12a : j1 ≤ 12 := by rw [← hj1, ← ha]; exact Pm.plL_len A
  have h12b : j2 ≤ 12 := by rw [← hj2, ← hb]; exact Pm.plL_len B
  have h12l : k0 ≤ 12 := by rw [← hk0, ← hl0, fewL_len]; omega
  rw [ha, hj1] at C1
  rw [hb, hj2] at C2
  rw [hl0, hk0] at C3
  have HJ1 := phide hj1
  have HJ2 := phide hj2
  have HK0 := phide hk0
  clear ha hb hl0 hj1 hj2 hk0
  go_enter Tryz.func5, Tryz.ntmps5
  go_wp2_with fail
  refine (pshown_any _ hT hP).mono ?_
  rintro e w1 ⟨rfl, hB⟩
  go_wp2_with fail
  refine (C1 _ (hA.step hB)).mono ?_
  rintro e w2 ⟨b9, g1, cap1, rfl, _, hcap1, ha⟩
  replace hB := hB.trans (b9.mono hB.size)
  clear b9 C1
  go_wp2_with fail
  refine (C2 _ (hBB.step hB)).mono ?_
  rintro e w3 ⟨b9, g2, cap2, rfl, _, hcap2, hb⟩
  replace ha := ha.step b9
  replace hB := hB.trans (b9.mono hB.size)
  clear b9 C2
  go_wp2_with fail
  refine (C3 _ (hL.step hB)).mono ?_
  rintro e w4 ⟨b9, g3, cap3, rfl, _, hcap3, hl⟩
  replace ha := ha.step b9
  replace hb := hb.step b9
  replace hB := hB.trans (b9.mono hB.size)
  clear b9 C3 hA hBB hL
  have hS : ∃ (k : Nat) (l : List Pm.St), l.length = k ∧ k ≤ 6 ∧ RowSt w4 g3 0 l ∧ ((6 < k0 ∧ k = 6) ∨ (k0 ≤ 6 ∧ k = k0)) := by
    by_cases h6 : 6 < k0
    · exact ⟨6, l0.take 6, by rw [List.length_take, punhide HK0]; omega, by omega, hl.take 6, .inl ⟨h6, rfl⟩⟩
    · exact ⟨k0, l0, punhide HK0, by omega, hl, .inr ⟨by omega, rfl⟩⟩
  obtain ⟨k, l, hk, hk6, hl', hway⟩ := hS
  replace hl := hl'
  have HK := phide hk
  have hc6 : k ≤ cap3 := by omega
  clear hl' hk HK0
  have c6 : 6 < k0 → (6 : Int) ≤ (cap3 : Int) := fun h => by omega
  go_upto_if 26 with fail
  go_cut [2] from 27 to 28 (fun v wx => v = .slice (some ⟨g3, 0, none⟩) k cap3 ∧ wx = w4)
  case first =>
    rcases hway with ⟨h6, rfl⟩ | ⟨h6, rfl⟩
    · have d1 : decide ((6 : Int) < (k0 : Int)) = true := decide_eq_true (by omega)
      have s1 := c6 h6
      clear hT hP hB ha hb hl c6
      go_wp2_with fail
      go_meet
      exact ⟨rfl, rfl⟩
    · have d1 : decide ((6 : Int) < (k : Int)) = false := decide_eq_false (by omega)
      clear hT hP hB ha hb hl c6
      go_wp2_with fail
      go_meet
      exact ⟨rfl, rfl⟩
  case rest =>
  obtain ⟨rfl, rfl⟩ := hcut
  clear hway c6 hcap3 h12l
  obtain ⟨y0, hy0⟩ : ∃ y, decide (a = b) = y := ⟨_, rfl⟩
  have C4 := fun W h1 h2 => same_any g1 0 cap1 g2 0 cap2 j1 j2 a b (punhide HJ1) (punhide HJ2) (by omega) (by omega) y0 hy0 W h1 h2
  have HM0 : Hid (Pm.mt a b = y0) := phide (by rw [Pm.mt_pl a b (punhide HPA) (punhide HPB)]; exact hy0)
  have HM1 : Hid (Pm.mt a a = true) := phide (by rw [Pm.mt_pl a a (punhide HPA) (punhide HPA)]; simp)
  have HM2 : Hid (Pm.mt [deepS] a = true) := phide (Pm.mt_any rfl a)
  have HM3 : Hid (Pm.mt (a.map Pm.anyS) a = true) := phide (Pm.mt_anys a (punhide HPA))
  obtain ⟨q, hq⟩ : ∃ q, mayE l = q := ⟨_, rfl⟩
  have HQ := phide hq
  clear hy0 hq
  go_wp2_with fail
  refine (C4 _ ha hb).mono ?_
  rintro e w5 ⟨rfl, b9⟩
  clear C4

  replace ha := ha.step b9
  replace hb := hb.step b9
  replace hl := hl.step b9
  replace hB := hB.trans (b9.mono hB.size)
  clear b9
  have bd := (Below.refl w5.heap.size w5).alloc (Nat.le_refl _) (.cells #[.int .i64 5, .string ⟨#[]⟩, .int .i64 0] 33)
  have be := bd.alloc bd.size (.cells #[] 33)
  have hd := (row1_new w5 deepS 33).step ((Below.refl _ _).alloc (Nat.le_refl _) (.cells #[] 33))
  have oe := own_none (w5.alloc (.cells #[.int .i64 5, .string ⟨#[]⟩, .int .i64 0] 33)) (w5.heap.size + 1) (by simp)
  have ez : (w5.alloc (.cells #[.int .i64 5, .string ⟨#[]⟩, .int .i64 0] 33)).heap.size = w5.heap.size + 1 := by simp
  rw [ez] at oe
  unfold deepS Pm.nul at hd
  simp only [] at hd
  go_upto_region 11 with fail
  have ha6 := (ha.step bd).step ((Below.refl _ _).alloc (Nat.le_refl _) (.cells #[] 33))
  have hb6 := (hb.step bd).step ((Below.refl _ _).alloc (Nat.le_refl _) (.cells #[] 33))
  have hl6 := (hl.step bd).step ((Below.refl _ _).alloc (Nat.le_refl _) (.cells #[] 33))
  have hB6 := hB.trans (be.mono hB.size)
  have hw9 : w.heap.size ≤ w5.heap.size + 1 := by have := hB.size; omega
  have la : g1 < w5.heap.size + 1 := by have := ha.1; omega
  have lb : g2 < w5.heap.size + 1 := by have := hb.1; omega
  have ll : g3 < w5.heap.size + 1 := by have := hl.1; omega
  have zz : w5.heap.size + 1 ≤ ((w5.alloc (.cells #[.int .i64 5, .string ⟨#[]⟩, .int .i64 0] 33)).alloc (.cells #[] 33)).heap.size := by simp
  clear ha hb hl hB bd be ez
  generalize (w5.alloc (.cells #[.int .i64 5, .string ⟨#[]⟩, .int .i64 0] 33)).alloc (.cells #[] 33) = W6 at *
  generalize w5.heap.size = gd at *
  go_loopw [10, 11] (fun v vi wr => ∃ i ge cape : Nat, vi = .int .i64 (i : Int) ∧ v = .slice (some ⟨ge, 0, none⟩) i cape ∧ i ≤ j1 ∧ wr.ownsRow (gd + 1) 33 3 (.slice (some ⟨ge, 0, none⟩) i cape) i (rowS ((a.map Pm.anyS).take i)) ∧ Below (gd + 1) W6 wr) (fun _ vi _ => j1 - (intOf vi).toNat)
  case atStart => exact ⟨0, gd + 1, 0, rfl, rfl, by omega, by rw [List.take_zero]; exact oe, Below.refl _ _⟩
  case round =>
    clear oe
    obtain ⟨i, ge, cape, rfl, rfl, hij, hown, hBr⟩ := hrel
    have ha := ha6.below la hBr
    have hsz : gd + 1 ≤ wr.heap.size := Nat.le_trans zz hBr.size
    by_cases hlt : i < j1
    · have hia : i < a.length := by rw [punhide HJ1]; exact hlt
      obtain ⟨c0, c1, c2⟩ := ha.2 i hia
      obtain ⟨t, ht⟩ : ∃ t, a[i]'hia = t := ⟨_, rfl⟩
      have htp := punhide HPA t (by rw [← ht]; exact List.getElem_mem _)
      have hsn : (a.map Pm.anyS).take (i + 1) = (a.map Pm.anyS).take i ++ [Pm.anyS t] := by
        rw [List.take_succ_eq_append_getElem (by rw [List.length_map]; exact hia), List.getElem_map, ht]
      rw [Nat.zero_add, ht] at c0
      have HSN := phide hsn
      clear c1 c2 hsn ha
      by_cases h1 : t.k = 1
      · have he : Pm.anyS t = ⟨3, Pm.nul, 0⟩ := by unfold Pm.anyS; rw [if_pos h1]
        rw [h1] at c0
        rw [he] at HSN
        have hn := (row1_new wr ⟨3, Pm.nul, 0⟩ 33)
        have bn : Below (gd + 1) wr (wr.alloc (.cells #[.int .i64 3, .string ⟨#[]⟩, .int .i64 0] 33)) := (Below.refl _ _).alloc hsz _
        have on := ownS_step hown ((Below.refl _ _).alloc (Nat.le_refl _) (.cells #[.int .i64 3, .string ⟨#[]⟩, .int .i64 0] 33))
        have zn : gd + 1 ≤ (wr.alloc (.cells #[.int .i64 3, .string ⟨#[]⟩, .int .i64 0] 33)).heap.size := by simp; omega
        unfold Pm.nul at hn
        simp only [] at hn
        clear hown ht htp he
        go_wp2_with (at_builtin; refine wp_append_steps _ rfl _ _ rfl (gd + 1) ge cape i ((a.map Pm.anyS).take i) rfl on wr.heap.size 0 1 1 [⟨3, ⟨#[]⟩, 0⟩] rfl rfl hn (by omega) zn ?_)
        intro g8 cap8 w8 o8 b8
        have o9 : w8.ownsRow (gd + 1) 33 3 (.slice (some ⟨g8, 0, none⟩) (i + 1) cap8) (i + 1) (rowS ((a.map Pm.anyS).take (i + 1))) := by rw [punhide HSN]; exact o8
        have b9 := hBr.trans (bn.trans b8)
        clear o8 b8 bn hn on zn c0 hBr
        go_wp2
        go_roundw
        case rel => exact ⟨i + 1, g8, cap8, by go_num, rfl, by omega, o9, b9⟩
        case measure => simp [intOf]; omega
      · have he : Pm.anyS t = ⟨4, Pm.nul, 0⟩ := by unfold Pm.anyS; rw [if_neg h1]
        have d1 : (t.k == 1) = false := beq_eq_false_iff_ne.2 h1
        rw [he] at HSN
        have hn := (row1_new wr ⟨4, Pm.nul, 0⟩ 33)
        have bn : Below (gd + 1) wr (wr.alloc (.cells #[.int .i64 4, .string ⟨#[]⟩, .int .i64 0] 33)) := (Below.refl _ _).alloc hsz _
        have on := ownS_step hown ((Below.refl _ _).alloc (Nat.le_refl _) (.cells #[.int .i64 4, .string ⟨#[]⟩, .int .i64 0] 33))
        have zn : gd + 1 ≤ (wr.alloc (.cells #[.int .i64 4, .string ⟨#[]⟩, .int .i64 0] 33)).heap.size := by simp; omega
        unfold Pm.nul at hn
        simp only [] at hn
        clear hown ht htp he
        go_wp2_with (at_builtin; refine wp_append_steps _ rfl _ _ rfl (gd + 1) ge cape i ((a.map Pm.anyS).take i) rfl on wr.heap.size 0 1 1 [⟨4, ⟨#[]⟩, 0⟩] rfl rfl hn (by omega) zn ?_)
        intro g8 cap8 w8 o8 b8
        have o9 : w8.ownsRow (gd + 1) 33 3 (.slice (some ⟨g8, 0, none⟩) (i + 1) cap8) (i + 1) (rowS ((a.map Pm.anyS).take (i + 1))) := by rw [punhide HSN]; exact o8
        have b9 := hBr.trans (bn.trans b8)
        clear o8 b8 bn hn on zn c0 hBr
        go_wp2
        go_roundw
        case rel => exact ⟨i + 1, g8, cap8, by go_num, rfl, by omega, o9, b9⟩
        case measure => simp [intOf]; omega
    · have hij2 : i = j1 := by omega
      subst hij2
      have hr := rowst_of hown
      rw [List.take_of_length_le (by rw [List.length_map, punhide HJ1]; omega)] at hr
      have hb := hb6.below lb hBr
      have hl := hl6.below ll hBr
      have hd' := hd.below (Nat.lt_succ_self gd) hBr
      have hB := hB6.trans (hBr.mono hw9)
      have d1 : decide ((i : Int) < (i : Int)) = false := decide_eq_false (by omega)
      clear hown hBr hsz ha6 hb6 hl6 hB6 la lb ll zz hd
      have hd := hd'
      clear hd'

      go_wp2_with fail
      refine (match_any g1 0 cap1 g2 0 cap2 i j2 a b (punhide HJ1) (punhide HJ2) (by omega) (by omega) y0 (punhide HM0) _ ha hb).mono ?_
      rintro e w7 ⟨rfl, b9⟩
      replace ha := ha.step b9
      replace hb := hb.step b9
      replace hl := hl.step b9
      replace hd := hd.step b9
      replace hr := hr.step b9
      replace hB := hB.trans (b9.mono hB.size)
      clear b9
      go_wp2_with fail
      refine (match_any g1 0 cap1 g1 0 cap1 i i a a (punhide HJ1) (punhide HJ1) (by omega) (by omega) true (punhide HM1) _ ha ha).mono ?_
      rintro e w8 ⟨rfl, b9⟩
      replace ha := ha.step b9
      replace hb := hb.step b9
      replace hl := hl.step b9
      replace hd := hd.step b9
      replace hr := hr.step b9
      replace hB := hB.trans (b9.mono hB.size)
      clear b9
      go_wp2_with fail
      refine (match_any gd 0 1 g1 0 cap1 1 i [deepS] a rfl (punhide HJ1) (by omega) (by omega) true (punhide HM2) _ hd ha).mono ?_
      rintro e w9 ⟨rfl, b9⟩
      replace ha := ha.step b9
      replace hb := hb.step b9
      replace hl := hl.step b9
      replace hd := hd.step b9
      replace hr := hr.step b9
      replace hB := hB.trans (b9.mono hB.size)
      clear b9
      go_wp2_with fail
      refine (match_any ge 0 cape g1 0 cap1 i i (a.map Pm.anyS) a (by rw [List.length_map]; exact punhide HJ1) (punhide HJ1) (by omega) (by omega) true (punhide HM3) _ hr ha).mono ?_
      rintro e w10 ⟨rfl, b9⟩
      replace ha := ha.step b9
      replace hb := hb.step b9
      replace hl := hl.step b9
      replace hd := hd.step b9
      replace hr := hr.step b9
      replace hB := hB.trans (b9.mono hB.size)
      clear b9
      clear hr HM0 HM1 HM2 HM3
      go_wp2_with fail
      refine (rmay_any (some ⟨g3, 0, none⟩) k cap3 l q (punhide HQ) (by omega) _ ⟨punhide HK, .inr ⟨g3, 0, rfl, hl⟩⟩).mono ?_
      rintro e w11 ⟨rfl, b9⟩
      replace ha := ha.step b9
      replace hb := hb.step b9
      replace hl := hl.step b9
      replace hd := hd.step b9
      replace hB := hB.trans (b9.mono hB.size)
      clear b9
      by_cases hq0 : q = 0
      · subst hq0
        obtain ⟨y, hy⟩ : ∃ y, Pm.mt l b = y := ⟨_, rfl⟩
        have HY := phide hy
        have HMB : Hid (Pm.mt (a ++ l) (a ++ b) = y) := phide (by rw [Pm.mt_below a b l (punhide HPA)]; exact hy)
        clear hy HQ
        have ox := own_none w11 w11.heap.size (Nat.le_refl _)
        have bx : Below w11.heap.size w11 (w11.alloc (.cells #[] 33)) := (Below.refl _ _).alloc (Nat.le_refl _) _
        have xx := ha.step bx
        have zx : w11.heap.size ≤ (w11.alloc (.cells #[] 33)).heap.size := by simp
        go_wp2_with (at_builtin; refine wp_append_steps _ rfl _ _ rfl w11.heap.size w11.heap.size 0 0 [] rfl ox g1 0 i cap1 a rfl (punhide HJ1) xx (by omega) zx ?_)
        intro px qx vx ux tx
        replace bx := bx.trans tx
        have yx := hb.below hb.1 bx
        try simp only [List.nil_append] at ux
        try rw [Nat.zero_add] at ux
        have z2x : w11.heap.size ≤ vx.heap.size := bx.size
        clear tx ox xx zx
        go_wp2_with (at_builtin; refine wp_append_steps _ rfl _ _ rfl w11.heap.size px qx (i) a rfl ux g2 0 j2 cap2 b rfl (punhide HJ2) yx (by omega) z2x ?_)
        intro gx capx wx sx tx
        replace bx := bx.trans tx
        have hx := rowst_of sx
        clear tx sx ux yx z2x
        replace ha := ha.below ha.1 bx
        replace hb := hb.below hb.1 bx
        replace hl := hl.below hl.1 bx
        replace hd := hd.below hd.1 bx
        replace hB := hB.trans (bx.mono hB.size)
        clear bx
        go_wp2_with fail
        refine (match_any g3 0 cap3 g2 0 cap2 k j2 l b (punhide HK) (punhide HJ2) (by omega) (by omega) y (punhide HY) _ hl hb).mono ?_
        rintro e w12 ⟨rfl, b9⟩
        replace ha := ha.step b9
        replace hb := hb.step b9
        replace hl := hl.step b9
        replace hd := hd.step b9
        replace hx := hx.step b9
        replace hB := hB.trans (b9.mono hB.size)
        clear b9
        have om := own_none w12 w12.heap.size (Nat.le_refl _)
        have bm : Below w12.heap.size w12 (w12.alloc (.cells #[] 33)) := (Below.refl _ _).alloc (Nat.le_refl _) _
        have xm := ha.step bm
        have zm : w12.heap.size ≤ (w12.alloc (.cells #[] 33)).heap.size := by simp
        go_wp2_with (at_builtin; refine wp_append_steps _ rfl _ _ rfl w12.heap.size w12.heap.size 0 0 [] rfl om g1 0 i cap1 a rfl (punhide HJ1) xm (by omega) zm ?_)
        intro pm qm vm um tm
        replace bm := bm.trans tm
        have ym := hl.below hl.1 bm
        try simp only [List.nil_append] at um
        try rw [Nat.zero_add] at um
        have z2m : w12.heap.size ≤ vm.heap.size := bm.size
        clear tm om xm zm
        go_wp2_with (at_builtin; refine wp_append_steps _ rfl _ _ rfl w12.heap.size pm qm (i) a rfl um g3 0 k cap3 l rfl (punhide HK) ym (by omega) z2m ?_)
        intro gm capm wm sm tm
        replace bm := bm.trans tm
        have hm := rowst_of sm
        clear tm sm um ym z2m
        replace ha := ha.below ha.1 bm
        replace hb := hb.below hb.1 bm
        replace hl := hl.below hl.1 bm
        replace hd := hd.below hd.1 bm
        replace hx := hx.below hx.1 bm
        replace hB := hB.trans (bm.mono hB.size)
        clear bm
        have ou := own_none wm wm.heap.size (Nat.le_refl _)
        have bu : Below wm.heap.size wm (wm.alloc (.cells #[] 33)) := (Below.refl _ _).alloc (Nat.le_refl _) _
        have xu := hl.step bu
        have zu : wm.heap.size ≤ (wm.alloc (.cells #[] 33)).heap.size := by simp
        go_wp2_with (at_builtin; refine wp_append_steps _ rfl _ _ rfl wm.heap.size wm.heap.size 0 0 [] rfl ou g3 0 k cap3 l rfl (punhide HK) xu (by omega) zu ?_)
        intro pu qu vu uu tu
        replace bu := bu.trans tu
        have yu := hd.below hd.1 bu
        try simp only [List.nil_append] at uu
        try rw [Nat.zero_add] at uu
        have z2u : wm.heap.size ≤ vu.heap.size := bu.size
        clear tu ou xu zu
        go_wp2_with (at_builtin; refine wp_append_steps _ rfl _ _ rfl wm.heap.size pu qu (k) l rfl uu gd 0 1 1 [deepS] rfl rfl yu (by omega) z2u ?_)
        intro gu capu wu su tu
        replace bu := bu.trans tu
        have hu := rowst_of su
        clear tu su uu yu z2u
        replace ha := ha.below ha.1 bu
        replace hb := hb.below hb.1 bu
        replace hl := hl.below hl.1 bu
        replace hd := hd.below hd.1 bu
        replace hx := hx.below hx.1 bu
        replace hm := hm.below hm.1 bu
        replace hB := hB.trans (bu.mono hB.size)
        clear bu
        go_wp2_with fail
        refine (match_any gm 0 capm gx 0 capx (i + k) (i + j2) (a ++ l) (a ++ b) (by rw [List.length_append, (punhide HJ1), (punhide HK)]) (by rw [List.length_append, (punhide HJ1), (punhide HJ2)]) (by omega) (by omega) y (punhide HMB) _ hm hx).mono ?_
        rintro e w13 ⟨rfl, b9⟩
        replace ha := ha.step b9
        replace hb := hb.step b9
        replace hl := hl.step b9
        replace hd := hd.step b9
        replace hx := hx.step b9
        replace hm := hm.step b9
        replace hu := hu.step b9
        replace hB := hB.trans (b9.mono hB.size)
        clear b9
        cases y
        · go_wp2
          go_ret
          exact ⟨rfl, hB⟩
        · have HMU : Hid (Pm.mt (l ++ [deepS]) b = true) := phide (mt_under l b (punhide HY))
          have HMO : Hid (Pm.mt ([deepS] ++ l) (a ++ b) = true) := phide (mt_over l a b (punhide HY))
          go_wp2_with fail
          refine (match_any gu 0 capu g2 0 cap2 (k + 1) j2 (l ++ [deepS]) b (by rw [List.length_append, (punhide HK), show [deepS].length = 1 from rfl]) (punhide HJ2) (by omega) (by omega) true (punhide HMU) _ hu hb).mono ?_
          rintro e w14 ⟨rfl, b9⟩
          replace ha := ha.step b9
          replace hb := hb.step b9
          replace hl := hl.step b9
          replace hd := hd.step b9
          replace hx := hx.step b9
          replace hm := hm.step b9
          replace hu := hu.step b9
          replace hB := hB.trans (b9.mono hB.size)
          clear b9
          have ov := own_none w14 w14.heap.size (Nat.le_refl _)
          have bv : Below w14.heap.size w14 (w14.alloc (.cells #[] 33)) := (Below.refl _ _).alloc (Nat.le_refl _) _
          have xv := hd.step bv
          have zv : w14.heap.size ≤ (w14.alloc (.cells #[] 33)).heap.size := by simp
          go_wp2_with (at_builtin; refine wp_append_stepsw _ rfl _ _ rfl w14.heap.size w14.heap.size 0 0 [] rfl ov gd 0 1 1 [deepS] rfl rfl xv (by omega) zv ?_)
          intro pv qv vv uv tv
          replace bv := bv.trans tv
          have yv := hl.below hl.1 bv
          try simp only [List.nil_append] at uv
          try rw [Nat.zero_add] at uv
          have z2v : w14.heap.size ≤ vv.heap.size := bv.size
          clear tv ov xv zv
          go_wp2_with (at_builtin; refine wp_append_stepsw _ rfl _ _ rfl w14.heap.size pv qv (1) [deepS] rfl uv g3 0 k cap3 l rfl (punhide HK) yv (by omega) z2v ?_)
          intro gv capv wv sv tv
          replace bv := bv.trans tv
          have hv := rowst_of sv
          clear tv sv uv yv z2v
          replace ha := ha.below ha.1 bv
          replace hb := hb.below hb.1 bv
          replace hl := hl.below hl.1 bv
          replace hd := hd.below hd.1 bv
          replace hx := hx.below hx.1 bv
          replace hm := hm.below hm.1 bv
          replace hu := hu.below hu.1 bv
          replace hB := hB.trans (bv.mono hB.size)
          clear bv
          go_wp2_with fail
          refine (match_any gv 0 capv gx 0 capx (1 + k) (i + j2) ([deepS] ++ l) (a ++ b) (by rw [List.length_append, show [deepS].length = 1 from rfl, (punhide HK)]) (by rw [List.length_append, (punhide HJ1), (punhide HJ2)]) (by omega) (by omega) true (punhide HMO) _ hv hx).mono ?_
          rintro e w15 ⟨rfl, b9⟩
          replace ha := ha.step b9
          replace hb := hb.step b9
          replace hl := hl.step b9
          replace hd := hd.step b9
          replace hx := hx.step b9
          replace hm := hm.step b9
          replace hu := hu.step b9
          replace hv := hv.step b9
          replace hB := hB.trans (b9.mono hB.size)
          clear b9
          go_wp2
          go_ret
          exact ⟨rfl, hB⟩
      · have d2 : (q != 0) = true := by simp [hq0]
        go_wp2
        go_ret
        exact ⟨rfl, hB⟩
end Go.Proofs.YtomhgafpjpnmdaaGreatDoor
