/- What is proved here: PathDeep, walked: for every pattern and place that come in the law returns true and leaves them; conditions: the tables lie, the rows lie. Written by deep_gen.py. -/
import Derived.Test.YtomhgafpjpnmdaaGreatDoorPs
import Derived.Test.YtomhgafpjpnmdaaGreatDoorPx
import Derived.Test.YtomhgafpjpnmdaaGreatDoorPw
import Derived.Deep.RegionHeld3
namespace Go.Proofs.YtomhgafpjpnmdaaGreatDoor
open Go.RowKit
set_option linter.unusedVariables false
set_option linter.unusedSimpArgs false

/-- Whether the pattern leads to a place above, or what is left below. -/
def abv (l p : List Pm.St) (i : Nat) : Bool := (List.range i).any fun q => Pm.mt l (p.take q)
def blw (l p : List Pm.St) (i : Nat) : Bool := (List.range i).any fun q => Pm.mt l (p.drop q)
theorem abv_succ (l p : List Pm.St) (i : Nat) : abv l p (i + 1) = (abv l p i || Pm.mt l (p.take i)) := by unfold abv; rw [List.range_succ, List.any_append]; simp
theorem blw_succ (l p : List Pm.St) (i : Nat) : blw l p (i + 1) = (blw l p i || Pm.mt l (p.drop i)) := by unfold blw; rw [List.range_succ, List.any_append]; simp
theorem abv_end (l p : List Pm.St) : Pm.mt (l ++ [deepS]) p = abv l p (p.length + 1) := by
  rw [Bool.eq_iff_iff, Pm.mt_end (t := deepS) rfl]
  unfold abv
  rw [List.any_eq_true]
  constructor
  · rintro ⟨i, h1, h2⟩; exact ⟨i, List.mem_range.2 (by omega), h2⟩
  · rintro ⟨i, h1, h2⟩; exact ⟨i, by have := List.mem_range.1 h1; omega, h2⟩
theorem blw_end (l p : List Pm.St) : Pm.mt ([deepS] ++ l) p = blw l p (p.length + 1) := by
  rw [Bool.eq_iff_iff]
  show Pm.mt (deepS :: l) p = true ↔ _
  rw [Pm.mt_deep (t := deepS) rfl]
  unfold blw
  rw [List.any_eq_true]
  constructor
  · rintro ⟨i, h1, h2⟩; exact ⟨i, List.mem_range.2 (by omega), h2⟩
  · rintro ⟨i, h1, h2⟩; exact ⟨i, by have := List.mem_range.1 h1; omega, h2⟩
theorem own_one (w : World) (base : Nat) (hb : base ≤ w.heap.size) (t : Pm.St) : (w.alloc (.cells #[.int .i64 t.k, .string t.s, .int .i64 t.n] 33)).ownsRow base 33 3 (.slice (some ⟨w.heap.size, 0, none⟩) 1 1) 1 (rowS [t]) :=
  ⟨rfl, .inr ⟨w.heap.size, 1, #[.int .i64 t.k, .string t.s, .int .i64 t.n], rfl, hb, heap_alloc_new w _, Nat.le_refl _, by unfold maxLen; omega, rfl, rfl⟩⟩
theorem RowSt.none {w : World} {b o : Nat} (h : b < w.heap.size) : RowSt w b o [] := ⟨h, fun i hi => absurd hi (by simp)⟩

set_option maxRecDepth 100000 in
set_option maxHeartbeats 16000000 in
theorem deep_walk (aa : Option Addr) (n1 c1 : Nat) (L : List Pm.St) (ab : Option Addr) (n2 c2 : Nat) (M : List Pm.St) (w : World) (hn1 : n1 ≤ 9223372036854775807) (hn2 : n2 ≤ 9223372036854775807) (hL : StepsIn w aa n1 L) (hM : StepsIn w ab n2 M) (hT : Tabs w) (hP : Pow w) :
    Calls Tryz.prog 6 #[.slice aa n1 c1, .slice ab n2 c2] w fun e w' => e = .returned (.bool true) ∧ Below w.heap.size w w' := by
  have C2 := fun W h => place_any ab n2 c2 M hn2 W h
  have C3 := fun W h => pfew_any aa n1 c1 L hn1 W h
  obtain ⟨p, hp⟩ : ∃ b, Pm.plL M = b := ⟨_, rfl⟩
  obtain ⟨l0, hl0⟩ : ∃ l0, fewL L = l0 := ⟨_, rfl⟩
  obtain ⟨j, hj⟩ : ∃ j, p.length = j := ⟨_, rfl⟩
  obtain ⟨k0, hk0⟩ : ∃ k, l0.length = k := ⟨_, rfl⟩
  have h12b : j ≤ 12 := by rw [← hj, ← hp]; exact Pm.plL_len M
  have h12l : k0 ≤ 12 := by rw [← hk0, ← hl0, fewL_len]; omega
  rw [hp, hj] at C2
  rw [hl0, hk0] at C3
  have HJ := phide hj
  have HK0 := phide hk0
  clear hp hl0 hj hk0
  go_enter Tryz.func6, Tryz.ntmps6
  go_wp2_with fail
  refine (pshown_any _ hT hP).mono ?_
  rintro e w1 ⟨rfl, hB⟩
  go_wp2_with fail
  refine (C3 _ (hL.step hB)).mono ?_
  rintro e w4 ⟨b9, g3, cap3, rfl, _, hcap3, hl⟩
  replace hB := hB.trans (b9.mono hB.size)
  clear b9 C3 hL
  have hS : ∃ (k : Nat) (l : List Pm.St), l.length = k ∧ k ≤ 6 ∧ RowSt w4 g3 0 l ∧ ((6 < k0 ∧ k = 6) ∨ (k0 ≤ 6 ∧ k = k0)) := by
    by_cases h6 : 6 < k0
    · exact ⟨6, l0.take 6, by rw [List.length_take, punhide HK0]; omega, by omega, hl.take 6, .inl ⟨h6, rfl⟩⟩
    · exact ⟨k0, l0, punhide HK0, by omega, hl, .inr ⟨by omega, rfl⟩⟩
  obtain ⟨k, l, hk, hk6, hl', hway⟩ := hS
  replace hl := hl'
  have HK := phide hk
  clear hl' hk HK0
  have c6 : 6 < k0 → (6 : Int) ≤ (cap3 : Int) := fun h => by omega
  go_upto_if 19 with fail
  go_cut [0] from 20 to 21 (fun v wx => v = .slice (some ⟨g3, 0, none⟩) k cap3 ∧ wx = w4)
  case first =>
    rcases hway with ⟨h6, rfl⟩ | ⟨h6, rfl⟩
    · have d1 : decide ((6 : Int) < (k0 : Int)) = true := decide_eq_true (by omega)
      have s1 := c6 h6
      clear hT hP hB hl c6 hM
      go_wp2_with fail
      go_meet
      exact ⟨rfl, rfl⟩
    · have d1 : decide ((6 : Int) < (k : Int)) = false := decide_eq_false (by omega)
      clear hT hP hB hl c6 hM
      go_wp2_with fail
      go_meet
      exact ⟨rfl, rfl⟩
  case rest =>
  obtain ⟨rfl, rfl⟩ := hcut
  clear hway c6 hcap3 h12l
  obtain ⟨q, hq⟩ : ∃ q, mayE l = q := ⟨_, rfl⟩
  have HQ := phide hq
  clear hq
  go_wp2_with fail
  refine (C2 _ (hM.step hB)).mono ?_
  rintro e w5 ⟨b9, g4, cap4, rfl, _, hcap4, hp⟩
  replace hl := hl.step b9
  replace hB := hB.trans (b9.mono hB.size)
  clear b9 C2 hM
  go_wp2_with fail
  refine (may_any (some ⟨g3, 0, none⟩) k cap3 l q (punhide HQ) (by omega) _ (tabs_step hT hB) ⟨punhide HK, .inr ⟨g3, 0, rfl, hl⟩⟩).mono ?_
  rintro e w6 ⟨rfl, b9⟩
  replace hl := hl.step b9
  replace hp := hp.step b9
  replace hB := hB.trans (b9.mono hB.size)
  clear b9 HQ
  by_cases hq0 : q = 0
  case neg =>
    have d2 : (q != 0) = true := by simp [hq0]
    go_wp2
    go_ret
    exact ⟨rfl, hB⟩
  subst hq0
  have bd := (Below.refl w6.heap.size w6).alloc (Nat.le_refl _) (.cells #[.int .i64 5, .string ⟨#[]⟩, .int .i64 0] 33)
  have hd := row1_new w6 ⟨5, ⟨#[]⟩, 0⟩ 33
  replace hl := hl.step bd
  replace hp := hp.step bd
  have hB7 := hB.trans (bd.mono hB.size)
  clear bd hB
  go_upto_region 12 with fail
  generalize w6.alloc (.cells #[.int .i64 5, .string ⟨#[]⟩, .int .i64 0] 33) = W7 at *
  generalize w6.heap.size = gd at *
  have HD7 : Hid (∀ W, Below W7.heap.size W7 W → Below w.heap.size w W ∧ RowSt W gd 0 [⟨5, ⟨#[]⟩, 0⟩] ∧ RowSt W g3 0 l ∧ RowSt W g4 0 p) := phide (fun W b => ⟨hB7.trans (b.mono hB7.size), hd.step b, hl.step b, hp.step b⟩)
  have CMa : Hid (∀ i, i ≤ j → ∀ y, Pm.mt l (p.take i) = y → ∀ W c, RowSt W g3 0 l → RowSt W g4 0 (p.take i) → Calls Tryz.prog 11 #[.slice (some ⟨g3, 0, none⟩) k cap3, .slice (some ⟨g4, 0, none⟩) i c] W fun e w' => e = .returned (.bool y) ∧ Below W.heap.size W w') :=
    phide (fun i hi y hy W c h1 h2 => match_any g3 0 cap3 g4 0 c k i l (p.take i) (punhide HK) (by rw [List.length_take, punhide HJ]; omega) (by omega) (by omega) y hy W h1 h2)
  have CMb : Hid (∀ i, i ≤ j → ∀ y, Pm.mt l (p.drop i) = y → ∀ W o c, RowSt W g3 0 l → RowSt W g4 o (p.drop i) → Calls Tryz.prog 11 #[.slice (some ⟨g3, 0, none⟩) k cap3, .slice (some ⟨g4, o, none⟩) (j - i) c] W fun e w' => e = .returned (.bool y) ∧ Below W.heap.size W w') :=
    phide (fun i hi y hy W o c h1 h2 => match_any g3 0 cap3 g4 o c k (j - i) l (p.drop i) (punhide HK) (by rw [List.length_drop, punhide HJ]) (by omega) (by omega) y hy W h1 h2)
  clear hB7 hd hl hp hT hP
  go_loopw [8, 9, 10] (fun va vb vi wr => ∃ (i : Nat) (ya yb : Bool), vi = .int .i64 (i : Int) ∧ va = .bool ya ∧ vb = .bool yb ∧ i ≤ j + 1 ∧ Hid (abv l p i = ya) ∧ Hid (blw l p i = yb) ∧ Below W7.heap.size W7 wr) (fun _ _ vi _ => j + 1 - (intOf vi).toNat)
  case atStart => exact ⟨0, false, false, rfl, rfl, rfl, by omega, phide rfl, phide rfl, Below.refl _ _⟩
  case round =>
    obtain ⟨i, ya, yb, rfl, rfl, rfl, hij, HYA, HYB, hB⟩ := hrel
    by_cases hlt : i ≤ j
    · have d1 : decide ((i : Int) ≤ (j : Int)) = true := decide_eq_true (by omega)
      obtain ⟨_, _, hl, hp⟩ := punhide HD7 _ hB
      obtain ⟨y1, hy1⟩ : ∃ y, Pm.mt l (p.take i) = y := ⟨_, rfl⟩
      obtain ⟨y2, hy2⟩ : ∃ y, Pm.mt l (p.drop i) = y := ⟨_, rfl⟩
      have HYA2 : Hid (abv l p (i + 1) = (ya || y1)) := phide (by rw [abv_succ, punhide HYA, hy1])
      have HYB2 : Hid (blw l p (i + 1) = (yb || y2)) := phide (by rw [blw_succ, punhide HYB, hy2])
      have CA := fun W c h1 h2 => punhide CMa i hlt y1 hy1 W c h1 h2
      have CB := fun W o c h1 h2 => punhide CMb i hlt y2 hy2 W o c h1 h2
      have hpt := hp.take i
      have hpd : RowSt wr g4 (if cap4 = i then 0 else i * 3) (p.drop i) := by
        by_cases e : cap4 = i
        · rw [List.drop_of_length_le (by rw [punhide HJ]; omega)]; exact RowSt.none hp.1
        · rw [if_neg e]; have := hp.drop i; rwa [Nat.zero_add] at this
      obtain ⟨od, hod⟩ : ∃ od, (if cap4 = i then 0 else i * 3) = od := ⟨_, rfl⟩
      have hod2 : (if cap4 = i then some (⟨g4, 0, none⟩ : Addr) else some ⟨g4, i * 3, none⟩) = some ⟨g4, od, none⟩ := by rw [← hod]; split <;> rfl
      rw [hod] at hpd
      have s1 : (i : Int) ≤ (cap4 : Int) := by omega
      have s3 : (0 : Int) ≤ (i : Int) := by omega
      have s4 : (i : Int) ≤ (j : Int) := by omega
      have s5 : (j : Int) ≤ (cap4 : Int) := by omega
      have HR : Hid (∀ W, Below wr.heap.size wr W → RowSt W g3 0 l ∧ RowSt W g4 0 (p.take i) ∧ RowSt W g4 od (p.drop i)) := phide (fun W b => ⟨hl.step b, hpt.step b, hpd.step b⟩)
      have hS : Below wr.heap.size wr wr := Below.refl _ _
      clear hl hp hpt hpd hy1 hy2 HYA HYB CMa CMb HD7 hod
      cases ya <;> cases yb <;> (
        go_upto_region 15 with (go_at_call 11; refine (CA _ _ (punhide HR _ hS).1 (punhide HR _ hS).2.1).mono ?_; rintro e9 w9 ⟨rfl, b9⟩; replace hS := hS.trans (b9.mono hS.size); clear b9)
        go_wp2_with (first | (go_at_call 11; refine (CB _ _ _ (punhide HR _ hS).1 (punhide HR _ hS).2.2).mono ?_; rintro e9 w9 ⟨rfl, b9⟩; replace hS := hS.trans (b9.mono hS.size); clear b9))
        go_roundw
        case rel => exact ⟨i + 1, _, _, by go_num, rfl, rfl, by omega, HYA2, HYB2, hB.trans (hS.mono hB.size)⟩
        case measure => simp [intOf]; omega)
    · have hij2 : i = j + 1 := by omega
      have d1 : decide ((i : Int) ≤ (j : Int)) = false := decide_eq_false (by omega)
      have HEA : Hid (Pm.mt (l ++ [⟨5, ⟨#[]⟩, 0⟩]) p = ya) := phide (by have := abv_end l p; rw [punhide HJ, ← hij2, punhide HYA] at this; exact this)
      have HEB : Hid (Pm.mt ([⟨5, ⟨#[]⟩, 0⟩] ++ l) p = yb) := phide (by have := blw_end l p; rw [punhide HJ, ← hij2, punhide HYB] at this; exact this)
      have HEC : Hid (Pm.mt (l ++ [⟨5, ⟨#[]⟩, 0⟩, ⟨5, ⟨#[]⟩, 0⟩]) p = ya) := phide (by rw [Pm.mt_end2 (t := ⟨5, ⟨#[]⟩, 0⟩) rfl]; exact punhide HEA)
      have C6 := fun W g c h1 h2 => match_any g 0 c g4 0 cap4 (k + 1) j (l ++ [⟨5, ⟨#[]⟩, 0⟩]) p (by rw [List.length_append, punhide HK]; rfl) (punhide HJ) (by omega) (by omega) ya (punhide HEA) W h1 h2
      have C7 := fun W g c h1 h2 => match_any g 0 c g4 0 cap4 (1 + k) j ([⟨5, ⟨#[]⟩, 0⟩] ++ l) p (by rw [List.length_append, punhide HK]; rfl) (punhide HJ) (by omega) (by omega) yb (punhide HEB) W h1 h2
      have C8 := fun W g c h1 h2 => match_any g 0 c g4 0 cap4 (k + 2) j (l ++ [⟨5, ⟨#[]⟩, 0⟩, ⟨5, ⟨#[]⟩, 0⟩]) p (by rw [List.length_append, punhide HK]; rfl) (punhide HJ) (by omega) (by omega) ya (punhide HEC) W h1 h2
      clear hij2 HYA HYB CMa CMb HEA HEB HEC
      go_upto_region 16 with fail
      go_cut [11] from 51 to 58 (fun v wx => v = .bool ya ∧ Below W7.heap.size W7 wx)
      case first =>
        have HD : Hid (∀ W, Below wr.heap.size wr W → (W.cell? ⟨gd, 0, none⟩ = some (.int .i64 5) ∧ W.cell? ⟨gd, 1, none⟩ = some (.string ⟨#[]⟩) ∧ W.cell? ⟨gd, 2, none⟩ = some (.int .i64 0)) ∧ RowSt W g3 0 l ∧ RowSt W g4 0 p) := phide (fun W b => by
          obtain ⟨_, h1, h2, h3⟩ := punhide HD7 W (hB.trans (b.mono hB.size))
          have h4 := h1.2 0 (by simp)
          simp only [Nat.zero_mul, Nat.add_zero, List.getElem_cons_zero] at h4
          exact ⟨h4, h2, h3⟩)
        have hS : Below wr.heap.size wr wr.drew := (Below.refl _ _).drew
        have hl0 := (punhide HD _ hS).2.1
        have hp0 := (punhide HD _ hS).2.2
        have HX := phide hB
        clear HD7 hB C7 C8
        refine wp_region_held_drew (S := fun W' => Below wr.heap.size wr W') (by kernel_rfl) ?hS0 (fun hHeld => ?rest0)
        case hS0 => exact hS
        case rest0 =>
        clear hHeld
        refine wpAnyH_take (i := 1) (v := .slice (some ⟨g3, 0, none⟩) k cap3) rfl (by kernel_rfl) (by kernel_rfl) (by kernel_rfl) (fun _ _ _ h => h) (Or.inl ⟨by rfl, ?hy1⟩) (by first | assumption | exact hS) ?r1
        case hy1 => ((intro w hSw; (try dsimp only at hSw); have hcc := punhide HD _ hSw; obtain ⟨⟨z0, z1, z2⟩, _⟩ := hcc; go_simp) <;> with_reducible rfl)
        case r1 =>
        try simp only [Act.put, List.getElem_toArray, List.getElem_cons_zero, List.getElem_cons_succ, List.setIfInBounds_toArray, List.set_cons_zero, List.set_cons_succ]
        refine wpAnyH_take (i := 3) (v := .agg #[.int .i64 5, .string ⟨#[]⟩, .int .i64 0]) rfl (by kernel_rfl) (by kernel_rfl) (by kernel_rfl) (fun _ _ _ h => h) (Or.inl ⟨by rfl, ?hy3⟩) (by first | assumption | exact hS) ?r3
        case hy3 => ((intro w hSw; (try dsimp only at hSw); have hcc := punhide HD _ hSw; obtain ⟨⟨z0, z1, z2⟩, _⟩ := hcc; go_simp) <;> with_reducible rfl)
        case r3 =>
        try simp only [Act.put, List.getElem_toArray, List.getElem_cons_zero, List.getElem_cons_succ, List.setIfInBounds_toArray, List.set_cons_zero, List.set_cons_succ]
        refine wpAnyH_take (i := 6) (v := .slice (some ⟨g4, 0, none⟩) j cap4) rfl (by kernel_rfl) (by kernel_rfl) (by kernel_rfl) (fun _ _ _ h => h) (Or.inl ⟨by rfl, ?hy6⟩) (by first | assumption | exact hS) ?r6
        case hy6 => ((intro w hSw; (try dsimp only at hSw); have hcc := punhide HD _ hSw; obtain ⟨⟨z0, z1, z2⟩, _⟩ := hcc; go_simp) <;> with_reducible rfl)
        case r6 =>
        try simp only [Act.put, List.getElem_toArray, List.getElem_cons_zero, List.getElem_cons_succ, List.setIfInBounds_toArray, List.set_cons_zero, List.set_cons_succ]
        refine wpAnyH_ready (rs := [0, 4]) (by kernel_rfl) (by simp) ?_
        refine AllReadyH.cons rfl (fun K hK => ?g0t1) (AllReadyH.cons rfl (fun K hK => ?g4t1) (AllReadyH.nil))
        case g0t1 =>
          go_simp
          have ez2 : (wr.drew.alloc (.cells #[] 33)).heap.size = wr.heap.size + 1 := by simp
          have al2 : Below wr.drew.heap.size wr.drew (wr.drew.alloc (.cells #[] 33)) := (Below.refl _ _).alloc (Nat.le_refl _) (.cells #[] 33)
          have hS2 := hS.trans (al2.mono hS.size)
          have hl2 := hl0.step al2
          have hp2 := hp0.step al2
          have on2 := own_none wr.drew wr.heap.size hS.size
          skip
          refine hK.out _ _ hS2 (fun hHeld2 => ?ra2)
          case ra2 =>
          clear hK K hHeld2
          try simp only [Act.put, List.getElem_toArray, List.getElem_cons_zero, List.getElem_cons_succ, List.setIfInBounds_toArray, List.set_cons_zero, List.set_cons_succ]
          refine wpAnyH_ready (rs := [2, 4]) (by kernel_rfl) (by simp) ?_
          refine AllReadyH.cons rfl (fun K hK => ?g2t3) (AllReadyH.cons rfl (fun K hK => ?g4t3) (AllReadyH.nil))
          case g2t3 =>
            refine oper_append_steps (wr.drew.alloc (.cells #[] 33)) _ _ rfl wr.heap.size wr.heap.size 0 0 [] rfl on2 g3 0 k cap3 l rfl (punhide HK) hl2 (by omega) hS2.size ?_
            intro p4 q4 v4 o4 gr4 wh4
            try simp only [List.nil_append] at o4
            try rw [Nat.zero_add] at o4
            have hS4 : Below wr.heap.size wr v4 := hS2.grown gr4 hS2.size (fun k hk => by cases hk; exact (on2.lt _ rfl).1)
            have hl4 := (punhide HD _ hS4).2.1
            have hp4 := (punhide HD _ hS4).2.2
            have hlt4 := (o4.lt p4 rfl).2
            refine hK.out _ _ hS4 (fun hHeld2 => ?ra4)
            case ra4 =>
            clear hK K hHeld2
            try simp only [Nat.zero_add]
            try simp only [Act.put, List.getElem_toArray, List.getElem_cons_zero, List.getElem_cons_succ, List.setIfInBounds_toArray, List.set_cons_zero, List.set_cons_succ]
            refine wpAnyH_ready (rs := [4]) (by kernel_rfl) (by simp) ?_
            refine AllReadyH.cons rfl (fun K hK => ?g4t5) (AllReadyH.nil)
            case g4t5 =>
              go_simp
              have ez6 : (v4.alloc (.cells #[.int .i64 5, .string ⟨#[]⟩, .int .i64 0] 33)).heap.size = v4.heap.size + 1 := by simp
              have al6 : Below v4.heap.size v4 (v4.alloc (.cells #[.int .i64 5, .string ⟨#[]⟩, .int .i64 0] 33)) := (Below.refl _ _).alloc (Nat.le_refl _) (.cells #[.int .i64 5, .string ⟨#[]⟩, .int .i64 0] 33)
              have hS6 := hS4.trans (al6.mono hS4.size)
              have hl6 := hl4.step al6
              have hp6 := hp4.step al6
              have hd6 := row1_new v4 ⟨5, ⟨#[]⟩, 0⟩ 33
              skip
              have on6 := own_alloc o4 (.cells #[.int .i64 5, .string ⟨#[]⟩, .int .i64 0] 33)
              have hne6 : v4.heap.size ≠ p4 := by have := hlt4; omega
              refine hK.out _ _ hS6 (fun hHeld2 => ?ra6)
              case ra6 =>
              clear hK K hHeld2
              try simp only [Act.put, List.getElem_toArray, List.getElem_cons_zero, List.getElem_cons_succ, List.setIfInBounds_toArray, List.set_cons_zero, List.set_cons_succ]
              refine wpAnyH_ready (rs := [5]) (by kernel_rfl) (by simp) ?_
              refine AllReadyH.cons rfl (fun K hK => ?g5t7) (AllReadyH.nil)
              case g5t7 =>
                refine oper_append_steps (v4.alloc (.cells #[.int .i64 5, .string ⟨#[]⟩, .int .i64 0] 33)) _ _ rfl wr.heap.size p4 q4 k l rfl on6 v4.heap.size 0 1 1 [⟨5, ⟨#[]⟩, 0⟩] rfl rfl hd6 (by omega) hS6.size ?_
                intro p8 q8 v8 o8 gr8 wh8
                have hS8 : Below wr.heap.size wr v8 := hS6.grown gr8 hS6.size (fun k hk => by cases hk; exact (on6.lt _ rfl).1)
                have hl8 := (punhide HD _ hS8).2.1
                have hp8 := (punhide HD _ hS8).2.2
                have hlt8 := (o8.lt p8 rfl).2
                refine hK.out _ _ hS8 (fun hHeld2 => ?ra8)
                case ra8 =>
                clear hK K hHeld2
                try simp only [Nat.zero_add]
                try simp only [Act.put, List.getElem_toArray, List.getElem_cons_zero, List.getElem_cons_succ, List.setIfInBounds_toArray, List.set_cons_zero, List.set_cons_succ]
                refine wpAnyH_ready (rs := [7]) (by kernel_rfl) (by simp) ?_
                refine AllReadyH.cons rfl (fun K hK => ?g7t9) (AllReadyH.nil)
                case g7t9 =>
                  go_simp
                  have hr10 := rowst_of o8
                  go_at_call 11
                  refine (C6 _ _ _ hr10 hp8).mono ?_
                  rintro e9 wc10 ⟨rfl, b10⟩
                  have hS10 := hS8.trans (b10.mono hS8.size)
                  refine hK.out _ _ hS10 (fun hHeld2 => ?ra10)
                  case ra10 =>
                  clear hK K hHeld2
                  try simp only [Act.put, List.getElem_toArray, List.getElem_cons_zero, List.getElem_cons_succ, List.setIfInBounds_toArray, List.set_cons_zero, List.set_cons_succ]
                  refine wpAnyH_take (i := 8) (v := .bool ya) rfl (by kernel_rfl) (by kernel_rfl) (by kernel_rfl) (fun _ _ _ h => h) (Or.inl ⟨by rfl, ?hya10⟩) (by first | assumption | exact hS10) ?rz10
                  case hya10 => ((intro w hSw; go_simp) <;> with_reducible rfl)
                  case rz10 =>
                  try simp only [Act.put, List.getElem_toArray, List.getElem_cons_zero, List.getElem_cons_succ, List.setIfInBounds_toArray, List.set_cons_zero, List.set_cons_succ]
                  refine wpAnyH_done (by kernel_rfl) ?_ _
                  go_wp2_with fail
                  go_meet
                  exact ⟨rfl, (punhide HX).trans (hS10.mono (punhide HX).size)⟩
          case g4t3 =>
            go_simp
            have ez11 : ((wr.drew.alloc (.cells #[] 33)).alloc (.cells #[.int .i64 5, .string ⟨#[]⟩, .int .i64 0] 33)).heap.size = wr.heap.size + 2 := by simp
            have al11 : Below (wr.drew.alloc (.cells #[] 33)).heap.size (wr.drew.alloc (.cells #[] 33)) ((wr.drew.alloc (.cells #[] 33)).alloc (.cells #[.int .i64 5, .string ⟨#[]⟩, .int .i64 0] 33)) := (Below.refl _ _).alloc (Nat.le_refl _) (.cells #[.int .i64 5, .string ⟨#[]⟩, .int .i64 0] 33)
            have hS11 := hS2.trans (al11.mono hS2.size)
            have hl11 := hl2.step al11
            have hp11 := hp2.step al11
            have hd11 := row1_new (wr.drew.alloc (.cells #[] 33)) ⟨5, ⟨#[]⟩, 0⟩ 33
            rw [show (wr.drew.alloc (.cells #[] 33)).heap.size = wr.heap.size + 1 by simp] at hd11
            have on11 := own_alloc on2 (.cells #[.int .i64 5, .string ⟨#[]⟩, .int .i64 0] 33)
            have hne11 : (wr.heap.size + 1) ≠ wr.heap.size := by omega
            refine hK.out _ _ hS11 (fun hHeld2 => ?ra11)
            case ra11 =>
            clear hK K hHeld2
            try simp only [Act.put, List.getElem_toArray, List.getElem_cons_zero, List.getElem_cons_succ, List.setIfInBounds_toArray, List.set_cons_zero, List.set_cons_succ]
            refine wpAnyH_ready (rs := [2]) (by kernel_rfl) (by simp) ?_
            refine AllReadyH.cons rfl (fun K hK => ?g2t12) (AllReadyH.nil)
            case g2t12 =>
              refine oper_append_steps ((wr.drew.alloc (.cells #[] 33)).alloc (.cells #[.int .i64 5, .string ⟨#[]⟩, .int .i64 0] 33)) _ _ rfl wr.heap.size wr.heap.size 0 0 [] rfl on11 g3 0 k cap3 l rfl (punhide HK) hl11 (by omega) hS11.size ?_
              intro p13 q13 v13 o13 gr13 wh13
              try simp only [List.nil_append] at o13
              try rw [Nat.zero_add] at o13
              have hS13 : Below wr.heap.size wr v13 := hS11.grown gr13 hS11.size (fun k hk => by cases hk; exact (on11.lt _ rfl).1)
              have hl13 := (punhide HD _ hS13).2.1
              have hp13 := (punhide HD _ hS13).2.2
              have hd13 := hd11.grown gr13 hne11
              have hne13 : (wr.heap.size + 1) ≠ p13 := wh13.elim (fun h => by rw [h]; exact hne11) (fun h => by have := hd11.1; omega)
              have hlt13 := (o13.lt p13 rfl).2
              refine hK.out _ _ hS13 (fun hHeld2 => ?ra13)
              case ra13 =>
              clear hK K hHeld2
              try simp only [Nat.zero_add]
              try simp only [Act.put, List.getElem_toArray, List.getElem_cons_zero, List.getElem_cons_succ, List.setIfInBounds_toArray, List.set_cons_zero, List.set_cons_succ]
              refine wpAnyH_ready (rs := [5]) (by kernel_rfl) (by simp) ?_
              refine AllReadyH.cons rfl (fun K hK => ?g5t14) (AllReadyH.nil)
              case g5t14 =>
                refine oper_append_steps v13 _ _ rfl wr.heap.size p13 q13 k l rfl o13 (wr.heap.size + 1) 0 1 1 [⟨5, ⟨#[]⟩, 0⟩] rfl rfl hd13 (by omega) hS13.size ?_
                intro p15 q15 v15 o15 gr15 wh15
                have hS15 : Below wr.heap.size wr v15 := hS13.grown gr15 hS13.size (fun k hk => by cases hk; exact (o13.lt _ rfl).1)
                have hl15 := (punhide HD _ hS15).2.1
                have hp15 := (punhide HD _ hS15).2.2
                have hlt15 := (o15.lt p15 rfl).2
                refine hK.out _ _ hS15 (fun hHeld2 => ?ra15)
                case ra15 =>
                clear hK K hHeld2
                try simp only [Nat.zero_add]
                try simp only [Act.put, List.getElem_toArray, List.getElem_cons_zero, List.getElem_cons_succ, List.setIfInBounds_toArray, List.set_cons_zero, List.set_cons_succ]
                refine wpAnyH_ready (rs := [7]) (by kernel_rfl) (by simp) ?_
                refine AllReadyH.cons rfl (fun K hK => ?g7t16) (AllReadyH.nil)
                case g7t16 =>
                  go_simp
                  have hr17 := rowst_of o15
                  go_at_call 11
                  refine (C6 _ _ _ hr17 hp15).mono ?_
                  rintro e9 wc17 ⟨rfl, b17⟩
                  have hS17 := hS15.trans (b17.mono hS15.size)
                  refine hK.out _ _ hS17 (fun hHeld2 => ?ra17)
                  case ra17 =>
                  clear hK K hHeld2
                  try simp only [Act.put, List.getElem_toArray, List.getElem_cons_zero, List.getElem_cons_succ, List.setIfInBounds_toArray, List.set_cons_zero, List.set_cons_succ]
                  refine wpAnyH_take (i := 8) (v := .bool ya) rfl (by kernel_rfl) (by kernel_rfl) (by kernel_rfl) (fun _ _ _ h => h) (Or.inl ⟨by rfl, ?hya17⟩) (by first | assumption | exact hS17) ?rz17
                  case hya17 => ((intro w hSw; go_simp) <;> with_reducible rfl)
                  case rz17 =>
                  try simp only [Act.put, List.getElem_toArray, List.getElem_cons_zero, List.getElem_cons_succ, List.setIfInBounds_toArray, List.set_cons_zero, List.set_cons_succ]
                  refine wpAnyH_done (by kernel_rfl) ?_ _
                  go_wp2_with fail
                  go_meet
                  exact ⟨rfl, (punhide HX).trans (hS17.mono (punhide HX).size)⟩
        case g4t1 =>
          go_simp
          have ez18 : (wr.drew.alloc (.cells #[.int .i64 5, .string ⟨#[]⟩, .int .i64 0] 33)).heap.size = wr.heap.size + 1 := by simp
          have al18 : Below wr.drew.heap.size wr.drew (wr.drew.alloc (.cells #[.int .i64 5, .string ⟨#[]⟩, .int .i64 0] 33)) := (Below.refl _ _).alloc (Nat.le_refl _) (.cells #[.int .i64 5, .string ⟨#[]⟩, .int .i64 0] 33)
          have hS18 := hS.trans (al18.mono hS.size)
          have hl18 := hl0.step al18
          have hp18 := hp0.step al18
          have hd18 := row1_new wr.drew ⟨5, ⟨#[]⟩, 0⟩ 33
          skip
          refine hK.out _ _ hS18 (fun hHeld2 => ?ra18)
          case ra18 =>
          clear hK K hHeld2
          try simp only [Act.put, List.getElem_toArray, List.getElem_cons_zero, List.getElem_cons_succ, List.setIfInBounds_toArray, List.set_cons_zero, List.set_cons_succ]
          refine wpAnyH_ready (rs := [0]) (by kernel_rfl) (by simp) ?_
          refine AllReadyH.cons rfl (fun K hK => ?g0t19) (AllReadyH.nil)
          case g0t19 =>
            go_simp
            have ez20 : ((wr.drew.alloc (.cells #[.int .i64 5, .string ⟨#[]⟩, .int .i64 0] 33)).alloc (.cells #[] 33)).heap.size = wr.heap.size + 2 := by simp
            have al20 : Below (wr.drew.alloc (.cells #[.int .i64 5, .string ⟨#[]⟩, .int .i64 0] 33)).heap.size (wr.drew.alloc (.cells #[.int .i64 5, .string ⟨#[]⟩, .int .i64 0] 33)) ((wr.drew.alloc (.cells #[.int .i64 5, .string ⟨#[]⟩, .int .i64 0] 33)).alloc (.cells #[] 33)) := (Below.refl _ _).alloc (Nat.le_refl _) (.cells #[] 33)
            have hS20 := hS18.trans (al20.mono hS18.size)
            have hl20 := hl18.step al20
            have hp20 := hp18.step al20
            have on20 := own_none (wr.drew.alloc (.cells #[.int .i64 5, .string ⟨#[]⟩, .int .i64 0] 33)) wr.heap.size hS18.size
            rw [show (wr.drew.alloc (.cells #[.int .i64 5, .string ⟨#[]⟩, .int .i64 0] 33)).heap.size = wr.heap.size + 1 by simp] at on20
            have hd20 := hd18.step al20
            have hne20 : wr.heap.size ≠ (wr.heap.size + 1) := by omega
            refine hK.out _ _ hS20 (fun hHeld2 => ?ra20)
            case ra20 =>
            clear hK K hHeld2
            try simp only [Act.put, List.getElem_toArray, List.getElem_cons_zero, List.getElem_cons_succ, List.setIfInBounds_toArray, List.set_cons_zero, List.set_cons_succ]
            refine wpAnyH_ready (rs := [2]) (by kernel_rfl) (by simp) ?_
            refine AllReadyH.cons rfl (fun K hK => ?g2t21) (AllReadyH.nil)
            case g2t21 =>
              refine oper_append_steps ((wr.drew.alloc (.cells #[.int .i64 5, .string ⟨#[]⟩, .int .i64 0] 33)).alloc (.cells #[] 33)) _ _ rfl wr.heap.size (wr.heap.size + 1) 0 0 [] rfl on20 g3 0 k cap3 l rfl (punhide HK) hl20 (by omega) hS20.size ?_
              intro p22 q22 v22 o22 gr22 wh22
              try simp only [List.nil_append] at o22
              try rw [Nat.zero_add] at o22
              have hS22 : Below wr.heap.size wr v22 := hS20.grown gr22 hS20.size (fun k hk => by cases hk; exact (on20.lt _ rfl).1)
              have hl22 := (punhide HD _ hS22).2.1
              have hp22 := (punhide HD _ hS22).2.2
              have hd22 := hd20.grown gr22 hne20
              have hne22 : wr.heap.size ≠ p22 := wh22.elim (fun h => by rw [h]; exact hne20) (fun h => by have := hd20.1; omega)
              have hlt22 := (o22.lt p22 rfl).2
              refine hK.out _ _ hS22 (fun hHeld2 => ?ra22)
              case ra22 =>
              clear hK K hHeld2
              try simp only [Nat.zero_add]
              try simp only [Act.put, List.getElem_toArray, List.getElem_cons_zero, List.getElem_cons_succ, List.setIfInBounds_toArray, List.set_cons_zero, List.set_cons_succ]
              refine wpAnyH_ready (rs := [5]) (by kernel_rfl) (by simp) ?_
              refine AllReadyH.cons rfl (fun K hK => ?g5t23) (AllReadyH.nil)
              case g5t23 =>
                refine oper_append_steps v22 _ _ rfl wr.heap.size p22 q22 k l rfl o22 wr.heap.size 0 1 1 [⟨5, ⟨#[]⟩, 0⟩] rfl rfl hd22 (by omega) hS22.size ?_
                intro p24 q24 v24 o24 gr24 wh24
                have hS24 : Below wr.heap.size wr v24 := hS22.grown gr24 hS22.size (fun k hk => by cases hk; exact (o22.lt _ rfl).1)
                have hl24 := (punhide HD _ hS24).2.1
                have hp24 := (punhide HD _ hS24).2.2
                have hlt24 := (o24.lt p24 rfl).2
                refine hK.out _ _ hS24 (fun hHeld2 => ?ra24)
                case ra24 =>
                clear hK K hHeld2
                try simp only [Nat.zero_add]
                try simp only [Act.put, List.getElem_toArray, List.getElem_cons_zero, List.getElem_cons_succ, List.setIfInBounds_toArray, List.set_cons_zero, List.set_cons_succ]
                refine wpAnyH_ready (rs := [7]) (by kernel_rfl) (by simp) ?_
                refine AllReadyH.cons rfl (fun K hK => ?g7t25) (AllReadyH.nil)
                case g7t25 =>
                  go_simp
                  have hr26 := rowst_of o24
                  go_at_call 11
                  refine (C6 _ _ _ hr26 hp24).mono ?_
                  rintro e9 wc26 ⟨rfl, b26⟩
                  have hS26 := hS24.trans (b26.mono hS24.size)
                  refine hK.out _ _ hS26 (fun hHeld2 => ?ra26)
                  case ra26 =>
                  clear hK K hHeld2
                  try simp only [Act.put, List.getElem_toArray, List.getElem_cons_zero, List.getElem_cons_succ, List.setIfInBounds_toArray, List.set_cons_zero, List.set_cons_succ]
                  refine wpAnyH_take (i := 8) (v := .bool ya) rfl (by kernel_rfl) (by kernel_rfl) (by kernel_rfl) (fun _ _ _ h => h) (Or.inl ⟨by rfl, ?hya26⟩) (by first | assumption | exact hS26) ?rz26
                  case hya26 => ((intro w hSw; go_simp) <;> with_reducible rfl)
                  case rz26 =>
                  try simp only [Act.put, List.getElem_toArray, List.getElem_cons_zero, List.getElem_cons_succ, List.setIfInBounds_toArray, List.set_cons_zero, List.set_cons_succ]
                  refine wpAnyH_done (by kernel_rfl) ?_ _
                  go_wp2_with fail
                  go_meet
                  exact ⟨rfl, (punhide HX).trans (hS26.mono (punhide HX).size)⟩
      case rest =>
      obtain ⟨rfl, hB⟩ := hcut
      obtain ⟨_, hd, hl, hp⟩ := punhide HD7 _ hB
      have h4 := hd.2 0 (by simp)
      simp only [Nat.zero_mul, Nat.add_zero, List.getElem_cons_zero] at h4
      obtain ⟨c0, c1, c2⟩ := h4
      have o7 := own_one wc wc.heap.size (Nat.le_refl _) ⟨5, ⟨#[]⟩, 0⟩
      have b7 : Below wc.heap.size wc (wc.alloc (.cells #[.int .i64 5, .string ⟨#[]⟩, .int .i64 0] 33)) := (Below.refl _ _).alloc (Nat.le_refl _) _
      have hl7 := hl.step b7
      clear hd hl hp C6
      go_wp2_with (at_builtin; refine wp_append_steps _ rfl _ _ rfl wc.heap.size wc.heap.size 1 1 [⟨5, ⟨#[]⟩, 0⟩] rfl o7 g3 0 k cap3 l rfl (punhide HK) hl7 (by omega) (by simp) ?_)
      intro g7 cap7 w7 s7 t7
      have b8 := b7.trans t7
      have hr7 := rowst_of s7
      have hB8 := hB.trans (b8.mono hB.size)
      have hp7 := (punhide HD7 _ hB8).2.2.2
      clear b8 t7 s7 o7 b7 hl7 c0 c1 c2 hB
      go_wp2_with fail
      refine (C7 _ _ _ hr7 hp7).mono ?_
      rintro e wr2 ⟨rfl, b9⟩
      have hB := hB8.trans (b9.mono hB8.size)
      clear b9 hB8 hp7 hr7 C7
      go_upto_region 18 with fail
      go_cut [13] from 65 to 73 (fun v wx => v = .bool ya ∧ Below W7.heap.size W7 wx)
      case first =>
        have HD : Hid (∀ W, Below wr2.heap.size wr2 W → (W.cell? ⟨gd, 0, none⟩ = some (.int .i64 5) ∧ W.cell? ⟨gd, 1, none⟩ = some (.string ⟨#[]⟩) ∧ W.cell? ⟨gd, 2, none⟩ = some (.int .i64 0)) ∧ RowSt W g3 0 l ∧ RowSt W g4 0 p) := phide (fun W b => by
          obtain ⟨_, h1, h2, h3⟩ := punhide HD7 W (hB.trans (b.mono hB.size))
          have h4 := h1.2 0 (by simp)
          simp only [Nat.zero_mul, Nat.add_zero, List.getElem_cons_zero] at h4
          exact ⟨h4, h2, h3⟩)
        have hS : Below wr2.heap.size wr2 wr2.drew := (Below.refl _ _).drew
        have hl0 := (punhide HD _ hS).2.1
        have hp0 := (punhide HD _ hS).2.2
        have HX := phide hB
        clear HD7 hB
        refine wp_region_held_drew (S := fun W' => Below wr2.heap.size wr2 W') (by kernel_rfl) ?hS0 (fun hHeld => ?rest0)
        case hS0 => exact hS
        case rest0 =>
        clear hHeld
        refine wpAnyH_take (i := 1) (v := .slice (some ⟨g3, 0, none⟩) k cap3) rfl (by kernel_rfl) (by kernel_rfl) (by kernel_rfl) (fun _ _ _ h => h) (Or.inl ⟨by rfl, ?hy1⟩) (by first | assumption | exact hS) ?r1
        case hy1 => ((intro w hSw; (try dsimp only at hSw); have hcc := punhide HD _ hSw; obtain ⟨⟨z0, z1, z2⟩, _⟩ := hcc; go_simp) <;> with_reducible rfl)
        case r1 =>
        try simp only [Act.put, List.getElem_toArray, List.getElem_cons_zero, List.getElem_cons_succ, List.setIfInBounds_toArray, List.set_cons_zero, List.set_cons_succ]
        refine wpAnyH_take (i := 3) (v := .agg #[.int .i64 5, .string ⟨#[]⟩, .int .i64 0]) rfl (by kernel_rfl) (by kernel_rfl) (by kernel_rfl) (fun _ _ _ h => h) (Or.inl ⟨by rfl, ?hy3⟩) (by first | assumption | exact hS) ?r3
        case hy3 => ((intro w hSw; (try dsimp only at hSw); have hcc := punhide HD _ hSw; obtain ⟨⟨z0, z1, z2⟩, _⟩ := hcc; go_simp) <;> with_reducible rfl)
        case r3 =>
        try simp only [Act.put, List.getElem_toArray, List.getElem_cons_zero, List.getElem_cons_succ, List.setIfInBounds_toArray, List.set_cons_zero, List.set_cons_succ]
        refine wpAnyH_take (i := 4) (v := .agg #[.int .i64 5, .string ⟨#[]⟩, .int .i64 0]) rfl (by kernel_rfl) (by kernel_rfl) (by kernel_rfl) (fun _ _ _ h => h) (Or.inl ⟨by rfl, ?hy4⟩) (by first | assumption | exact hS) ?r4
        case hy4 => ((intro w hSw; (try dsimp only at hSw); have hcc := punhide HD _ hSw; obtain ⟨⟨z0, z1, z2⟩, _⟩ := hcc; go_simp) <;> with_reducible rfl)
        case r4 =>
        try simp only [Act.put, List.getElem_toArray, List.getElem_cons_zero, List.getElem_cons_succ, List.setIfInBounds_toArray, List.set_cons_zero, List.set_cons_succ]
        refine wpAnyH_take (i := 7) (v := .slice (some ⟨g4, 0, none⟩) j cap4) rfl (by kernel_rfl) (by kernel_rfl) (by kernel_rfl) (fun _ _ _ h => h) (Or.inl ⟨by rfl, ?hy7⟩) (by first | assumption | exact hS) ?r7
        case hy7 => ((intro w hSw; (try dsimp only at hSw); have hcc := punhide HD _ hSw; obtain ⟨⟨z0, z1, z2⟩, _⟩ := hcc; go_simp) <;> with_reducible rfl)
        case r7 =>
        try simp only [Act.put, List.getElem_toArray, List.getElem_cons_zero, List.getElem_cons_succ, List.setIfInBounds_toArray, List.set_cons_zero, List.set_cons_succ]
        refine wpAnyH_ready (rs := [0, 5]) (by kernel_rfl) (by simp) ?_
        refine AllReadyH.cons rfl (fun K hK => ?g0t101) (AllReadyH.cons rfl (fun K hK => ?g5t101) (AllReadyH.nil))
        case g0t101 =>
          go_simp
          have ez102 : (wr2.drew.alloc (.cells #[] 33)).heap.size = wr2.heap.size + 1 := by simp
          have al102 : Below wr2.drew.heap.size wr2.drew (wr2.drew.alloc (.cells #[] 33)) := (Below.refl _ _).alloc (Nat.le_refl _) (.cells #[] 33)
          have hS102 := hS.trans (al102.mono hS.size)
          have hl102 := hl0.step al102
          have hp102 := hp0.step al102
          have on102 := own_none wr2.drew wr2.heap.size hS.size
          skip
          refine hK.out _ _ hS102 (fun hHeld2 => ?ra102)
          case ra102 =>
          clear hK K hHeld2
          try simp only [Act.put, List.getElem_toArray, List.getElem_cons_zero, List.getElem_cons_succ, List.setIfInBounds_toArray, List.set_cons_zero, List.set_cons_succ]
          refine wpAnyH_ready (rs := [2, 5]) (by kernel_rfl) (by simp) ?_
          refine AllReadyH.cons rfl (fun K hK => ?g2t103) (AllReadyH.cons rfl (fun K hK => ?g5t103) (AllReadyH.nil))
          case g2t103 =>
            refine oper_append_steps (wr2.drew.alloc (.cells #[] 33)) _ _ rfl wr2.heap.size wr2.heap.size 0 0 [] rfl on102 g3 0 k cap3 l rfl (punhide HK) hl102 (by omega) hS102.size ?_
            intro p104 q104 v104 o104 gr104 wh104
            try simp only [List.nil_append] at o104
            try rw [Nat.zero_add] at o104
            have hS104 : Below wr2.heap.size wr2 v104 := hS102.grown gr104 hS102.size (fun k hk => by cases hk; exact (on102.lt _ rfl).1)
            have hl104 := (punhide HD _ hS104).2.1
            have hp104 := (punhide HD _ hS104).2.2
            have hlt104 := (o104.lt p104 rfl).2
            refine hK.out _ _ hS104 (fun hHeld2 => ?ra104)
            case ra104 =>
            clear hK K hHeld2
            try simp only [Nat.zero_add]
            try simp only [Act.put, List.getElem_toArray, List.getElem_cons_zero, List.getElem_cons_succ, List.setIfInBounds_toArray, List.set_cons_zero, List.set_cons_succ]
            refine wpAnyH_ready (rs := [5]) (by kernel_rfl) (by simp) ?_
            refine AllReadyH.cons rfl (fun K hK => ?g5t105) (AllReadyH.nil)
            case g5t105 =>
              go_simp
              have ez106 : (v104.alloc (.cells #[.int .i64 5, .string ⟨#[]⟩, .int .i64 0, .int .i64 5, .string ⟨#[]⟩, .int .i64 0] 33)).heap.size = v104.heap.size + 1 := by simp
              have al106 : Below v104.heap.size v104 (v104.alloc (.cells #[.int .i64 5, .string ⟨#[]⟩, .int .i64 0, .int .i64 5, .string ⟨#[]⟩, .int .i64 0] 33)) := (Below.refl _ _).alloc (Nat.le_refl _) (.cells #[.int .i64 5, .string ⟨#[]⟩, .int .i64 0, .int .i64 5, .string ⟨#[]⟩, .int .i64 0] 33)
              have hS106 := hS104.trans (al106.mono hS104.size)
              have hl106 := hl104.step al106
              have hp106 := hp104.step al106
              have hd106 := row2_new v104 ⟨5, ⟨#[]⟩, 0⟩ ⟨5, ⟨#[]⟩, 0⟩ 33
              skip
              have on106 := own_alloc o104 (.cells #[.int .i64 5, .string ⟨#[]⟩, .int .i64 0, .int .i64 5, .string ⟨#[]⟩, .int .i64 0] 33)
              have hne106 : v104.heap.size ≠ p104 := by have := hlt104; omega
              refine hK.out _ _ hS106 (fun hHeld2 => ?ra106)
              case ra106 =>
              clear hK K hHeld2
              try simp only [Act.put, List.getElem_toArray, List.getElem_cons_zero, List.getElem_cons_succ, List.setIfInBounds_toArray, List.set_cons_zero, List.set_cons_succ]
              refine wpAnyH_ready (rs := [6]) (by kernel_rfl) (by simp) ?_
              refine AllReadyH.cons rfl (fun K hK => ?g6t107) (AllReadyH.nil)
              case g6t107 =>
                refine oper_append_steps (v104.alloc (.cells #[.int .i64 5, .string ⟨#[]⟩, .int .i64 0, .int .i64 5, .string ⟨#[]⟩, .int .i64 0] 33)) _ _ rfl wr2.heap.size p104 q104 k l rfl on106 v104.heap.size 0 2 2 [⟨5, ⟨#[]⟩, 0⟩, ⟨5, ⟨#[]⟩, 0⟩] rfl rfl hd106 (by omega) hS106.size ?_
                intro p108 q108 v108 o108 gr108 wh108
                have hS108 : Below wr2.heap.size wr2 v108 := hS106.grown gr108 hS106.size (fun k hk => by cases hk; exact (on106.lt _ rfl).1)
                have hl108 := (punhide HD _ hS108).2.1
                have hp108 := (punhide HD _ hS108).2.2
                have hlt108 := (o108.lt p108 rfl).2
                refine hK.out _ _ hS108 (fun hHeld2 => ?ra108)
                case ra108 =>
                clear hK K hHeld2
                try simp only [Nat.zero_add]
                try simp only [Act.put, List.getElem_toArray, List.getElem_cons_zero, List.getElem_cons_succ, List.setIfInBounds_toArray, List.set_cons_zero, List.set_cons_succ]
                refine wpAnyH_ready (rs := [8]) (by kernel_rfl) (by simp) ?_
                refine AllReadyH.cons rfl (fun K hK => ?g8t109) (AllReadyH.nil)
                case g8t109 =>
                  go_simp
                  have hr110 := rowst_of o108
                  go_at_call 11
                  refine (C8 _ _ _ hr110 hp108).mono ?_
                  rintro e9 wc110 ⟨rfl, b110⟩
                  have hS110 := hS108.trans (b110.mono hS108.size)
                  refine hK.out _ _ hS110 (fun hHeld2 => ?ra110)
                  case ra110 =>
                  clear hK K hHeld2
                  try simp only [Act.put, List.getElem_toArray, List.getElem_cons_zero, List.getElem_cons_succ, List.setIfInBounds_toArray, List.set_cons_zero, List.set_cons_succ]
                  refine wpAnyH_take (i := 9) (v := .bool ya) rfl (by kernel_rfl) (by kernel_rfl) (by kernel_rfl) (fun _ _ _ h => h) (Or.inl ⟨by rfl, ?hya110⟩) (by first | assumption | exact hS110) ?rz110
                  case hya110 => ((intro w hSw; go_simp) <;> with_reducible rfl)
                  case rz110 =>
                  try simp only [Act.put, List.getElem_toArray, List.getElem_cons_zero, List.getElem_cons_succ, List.setIfInBounds_toArray, List.set_cons_zero, List.set_cons_succ]
                  refine wpAnyH_done (by kernel_rfl) ?_ _
                  go_wp2_with fail
                  go_meet
                  exact ⟨rfl, (punhide HX).trans (hS110.mono (punhide HX).size)⟩
          case g5t103 =>
            go_simp
            have ez111 : ((wr2.drew.alloc (.cells #[] 33)).alloc (.cells #[.int .i64 5, .string ⟨#[]⟩, .int .i64 0, .int .i64 5, .string ⟨#[]⟩, .int .i64 0] 33)).heap.size = wr2.heap.size + 2 := by simp
            have al111 : Below (wr2.drew.alloc (.cells #[] 33)).heap.size (wr2.drew.alloc (.cells #[] 33)) ((wr2.drew.alloc (.cells #[] 33)).alloc (.cells #[.int .i64 5, .string ⟨#[]⟩, .int .i64 0, .int .i64 5, .string ⟨#[]⟩, .int .i64 0] 33)) := (Below.refl _ _).alloc (Nat.le_refl _) (.cells #[.int .i64 5, .string ⟨#[]⟩, .int .i64 0, .int .i64 5, .string ⟨#[]⟩, .int .i64 0] 33)
            have hS111 := hS102.trans (al111.mono hS102.size)
            have hl111 := hl102.step al111
            have hp111 := hp102.step al111
            have hd111 := row2_new (wr2.drew.alloc (.cells #[] 33)) ⟨5, ⟨#[]⟩, 0⟩ ⟨5, ⟨#[]⟩, 0⟩ 33
            rw [show (wr2.drew.alloc (.cells #[] 33)).heap.size = wr2.heap.size + 1 by simp] at hd111
            have on111 := own_alloc on102 (.cells #[.int .i64 5, .string ⟨#[]⟩, .int .i64 0, .int .i64 5, .string ⟨#[]⟩, .int .i64 0] 33)
            have hne111 : (wr2.heap.size + 1) ≠ wr2.heap.size := by omega
            refine hK.out _ _ hS111 (fun hHeld2 => ?ra111)
            case ra111 =>
            clear hK K hHeld2
            try simp only [Act.put, List.getElem_toArray, List.getElem_cons_zero, List.getElem_cons_succ, List.setIfInBounds_toArray, List.set_cons_zero, List.set_cons_succ]
            refine wpAnyH_ready (rs := [2]) (by kernel_rfl) (by simp) ?_
            refine AllReadyH.cons rfl (fun K hK => ?g2t112) (AllReadyH.nil)
            case g2t112 =>
              refine oper_append_steps ((wr2.drew.alloc (.cells #[] 33)).alloc (.cells #[.int .i64 5, .string ⟨#[]⟩, .int .i64 0, .int .i64 5, .string ⟨#[]⟩, .int .i64 0] 33)) _ _ rfl wr2.heap.size wr2.heap.size 0 0 [] rfl on111 g3 0 k cap3 l rfl (punhide HK) hl111 (by omega) hS111.size ?_
              intro p113 q113 v113 o113 gr113 wh113
              try simp only [List.nil_append] at o113
              try rw [Nat.zero_add] at o113
              have hS113 : Below wr2.heap.size wr2 v113 := hS111.grown gr113 hS111.size (fun k hk => by cases hk; exact (on111.lt _ rfl).1)
              have hl113 := (punhide HD _ hS113).2.1
              have hp113 := (punhide HD _ hS113).2.2
              have hd113 := hd111.grown gr113 hne111
              have hne113 : (wr2.heap.size + 1) ≠ p113 := wh113.elim (fun h => by rw [h]; exact hne111) (fun h => by have := hd111.1; omega)
              have hlt113 := (o113.lt p113 rfl).2
              refine hK.out _ _ hS113 (fun hHeld2 => ?ra113)
              case ra113 =>
              clear hK K hHeld2
              try simp only [Nat.zero_add]
              try simp only [Act.put, List.getElem_toArray, List.getElem_cons_zero, List.getElem_cons_succ, List.setIfInBounds_toArray, List.set_cons_zero, List.set_cons_succ]
              refine wpAnyH_ready (rs := [6]) (by kernel_rfl) (by simp) ?_
              refine AllReadyH.cons rfl (fun K hK => ?g6t114) (AllReadyH.nil)
              case g6t114 =>
                refine oper_append_steps v113 _ _ rfl wr2.heap.size p113 q113 k l rfl o113 (wr2.heap.size + 1) 0 2 2 [⟨5, ⟨#[]⟩, 0⟩, ⟨5, ⟨#[]⟩, 0⟩] rfl rfl hd113 (by omega) hS113.size ?_
                intro p115 q115 v115 o115 gr115 wh115
                have hS115 : Below wr2.heap.size wr2 v115 := hS113.grown gr115 hS113.size (fun k hk => by cases hk; exact (o113.lt _ rfl).1)
                have hl115 := (punhide HD _ hS115).2.1
                have hp115 := (punhide HD _ hS115).2.2
                have hlt115 := (o115.lt p115 rfl).2
                refine hK.out _ _ hS115 (fun hHeld2 => ?ra115)
                case ra115 =>
                clear hK K hHeld2
                try simp only [Nat.zero_add]
                try simp only [Act.put, List.getElem_toArray, List.getElem_cons_zero, List.getElem_cons_succ, List.setIfInBounds_toArray, List.set_cons_zero, List.set_cons_succ]
                refine wpAnyH_ready (rs := [8]) (by kernel_rfl) (by simp) ?_
                refine AllReadyH.cons rfl (fun K hK => ?g8t116) (AllReadyH.nil)
                case g8t116 =>
                  go_simp
                  have hr117 := rowst_of o115
                  go_at_call 11
                  refine (C8 _ _ _ hr117 hp115).mono ?_
                  rintro e9 wc117 ⟨rfl, b117⟩
                  have hS117 := hS115.trans (b117.mono hS115.size)
                  refine hK.out _ _ hS117 (fun hHeld2 => ?ra117)
                  case ra117 =>
                  clear hK K hHeld2
                  try simp only [Act.put, List.getElem_toArray, List.getElem_cons_zero, List.getElem_cons_succ, List.setIfInBounds_toArray, List.set_cons_zero, List.set_cons_succ]
                  refine wpAnyH_take (i := 9) (v := .bool ya) rfl (by kernel_rfl) (by kernel_rfl) (by kernel_rfl) (fun _ _ _ h => h) (Or.inl ⟨by rfl, ?hya117⟩) (by first | assumption | exact hS117) ?rz117
                  case hya117 => ((intro w hSw; go_simp) <;> with_reducible rfl)
                  case rz117 =>
                  try simp only [Act.put, List.getElem_toArray, List.getElem_cons_zero, List.getElem_cons_succ, List.setIfInBounds_toArray, List.set_cons_zero, List.set_cons_succ]
                  refine wpAnyH_done (by kernel_rfl) ?_ _
                  go_wp2_with fail
                  go_meet
                  exact ⟨rfl, (punhide HX).trans (hS117.mono (punhide HX).size)⟩
        case g5t101 =>
          go_simp
          have ez118 : (wr2.drew.alloc (.cells #[.int .i64 5, .string ⟨#[]⟩, .int .i64 0, .int .i64 5, .string ⟨#[]⟩, .int .i64 0] 33)).heap.size = wr2.heap.size + 1 := by simp
          have al118 : Below wr2.drew.heap.size wr2.drew (wr2.drew.alloc (.cells #[.int .i64 5, .string ⟨#[]⟩, .int .i64 0, .int .i64 5, .string ⟨#[]⟩, .int .i64 0] 33)) := (Below.refl _ _).alloc (Nat.le_refl _) (.cells #[.int .i64 5, .string ⟨#[]⟩, .int .i64 0, .int .i64 5, .string ⟨#[]⟩, .int .i64 0] 33)
          have hS118 := hS.trans (al118.mono hS.size)
          have hl118 := hl0.step al118
          have hp118 := hp0.step al118
          have hd118 := row2_new wr2.drew ⟨5, ⟨#[]⟩, 0⟩ ⟨5, ⟨#[]⟩, 0⟩ 33
          skip
          refine hK.out _ _ hS118 (fun hHeld2 => ?ra118)
          case ra118 =>
          clear hK K hHeld2
          try simp only [Act.put, List.getElem_toArray, List.getElem_cons_zero, List.getElem_cons_succ, List.setIfInBounds_toArray, List.set_cons_zero, List.set_cons_succ]
          refine wpAnyH_ready (rs := [0]) (by kernel_rfl) (by simp) ?_
          refine AllReadyH.cons rfl (fun K hK => ?g0t119) (AllReadyH.nil)
          case g0t119 =>
            go_simp
            have ez120 : ((wr2.drew.alloc (.cells #[.int .i64 5, .string ⟨#[]⟩, .int .i64 0, .int .i64 5, .string ⟨#[]⟩, .int .i64 0] 33)).alloc (.cells #[] 33)).heap.size = wr2.heap.size + 2 := by simp
            have al120 : Below (wr2.drew.alloc (.cells #[.int .i64 5, .string ⟨#[]⟩, .int .i64 0, .int .i64 5, .string ⟨#[]⟩, .int .i64 0] 33)).heap.size (wr2.drew.alloc (.cells #[.int .i64 5, .string ⟨#[]⟩, .int .i64 0, .int .i64 5, .string ⟨#[]⟩, .int .i64 0] 33)) ((wr2.drew.alloc (.cells #[.int .i64 5, .string ⟨#[]⟩, .int .i64 0, .int .i64 5, .string ⟨#[]⟩, .int .i64 0] 33)).alloc (.cells #[] 33)) := (Below.refl _ _).alloc (Nat.le_refl _) (.cells #[] 33)
            have hS120 := hS118.trans (al120.mono hS118.size)
            have hl120 := hl118.step al120
            have hp120 := hp118.step al120
            have on120 := own_none (wr2.drew.alloc (.cells #[.int .i64 5, .string ⟨#[]⟩, .int .i64 0, .int .i64 5, .string ⟨#[]⟩, .int .i64 0] 33)) wr2.heap.size hS118.size
            rw [show (wr2.drew.alloc (.cells #[.int .i64 5, .string ⟨#[]⟩, .int .i64 0, .int .i64 5, .string ⟨#[]⟩, .int .i64 0] 33)).heap.size = wr2.heap.size + 1 by simp] at on120
            have hd120 := hd118.step al120
            have hne120 : wr2.heap.size ≠ (wr2.heap.size + 1) := by omega
            refine hK.out _ _ hS120 (fun hHeld2 => ?ra120)
            case ra120 =>
            clear hK K hHeld2
            try simp only [Act.put, List.getElem_toArray, List.getElem_cons_zero, List.getElem_cons_succ, List.setIfInBounds_toArray, List.set_cons_zero, List.set_cons_succ]
            refine wpAnyH_ready (rs := [2]) (by kernel_rfl) (by simp) ?_
            refine AllReadyH.cons rfl (fun K hK => ?g2t121) (AllReadyH.nil)
            case g2t121 =>
              refine oper_append_steps ((wr2.drew.alloc (.cells #[.int .i64 5, .string ⟨#[]⟩, .int .i64 0, .int .i64 5, .string ⟨#[]⟩, .int .i64 0] 33)).alloc (.cells #[] 33)) _ _ rfl wr2.heap.size (wr2.heap.size + 1) 0 0 [] rfl on120 g3 0 k cap3 l rfl (punhide HK) hl120 (by omega) hS120.size ?_
              intro p122 q122 v122 o122 gr122 wh122
              try simp only [List.nil_append] at o122
              try rw [Nat.zero_add] at o122
              have hS122 : Below wr2.heap.size wr2 v122 := hS120.grown gr122 hS120.size (fun k hk => by cases hk; exact (on120.lt _ rfl).1)
              have hl122 := (punhide HD _ hS122).2.1
              have hp122 := (punhide HD _ hS122).2.2
              have hd122 := hd120.grown gr122 hne120
              have hne122 : wr2.heap.size ≠ p122 := wh122.elim (fun h => by rw [h]; exact hne120) (fun h => by have := hd120.1; omega)
              have hlt122 := (o122.lt p122 rfl).2
              refine hK.out _ _ hS122 (fun hHeld2 => ?ra122)
              case ra122 =>
              clear hK K hHeld2
              try simp only [Nat.zero_add]
              try simp only [Act.put, List.getElem_toArray, List.getElem_cons_zero, List.getElem_cons_succ, List.setIfInBounds_toArray, List.set_cons_zero, List.set_cons_succ]
              refine wpAnyH_ready (rs := [6]) (by kernel_rfl) (by simp) ?_
              refine AllReadyH.cons rfl (fun K hK => ?g6t123) (AllReadyH.nil)
              case g6t123 =>
                refine oper_append_steps v122 _ _ rfl wr2.heap.size p122 q122 k l rfl o122 wr2.heap.size 0 2 2 [⟨5, ⟨#[]⟩, 0⟩, ⟨5, ⟨#[]⟩, 0⟩] rfl rfl hd122 (by omega) hS122.size ?_
                intro p124 q124 v124 o124 gr124 wh124
                have hS124 : Below wr2.heap.size wr2 v124 := hS122.grown gr124 hS122.size (fun k hk => by cases hk; exact (o122.lt _ rfl).1)
                have hl124 := (punhide HD _ hS124).2.1
                have hp124 := (punhide HD _ hS124).2.2
                have hlt124 := (o124.lt p124 rfl).2
                refine hK.out _ _ hS124 (fun hHeld2 => ?ra124)
                case ra124 =>
                clear hK K hHeld2
                try simp only [Nat.zero_add]
                try simp only [Act.put, List.getElem_toArray, List.getElem_cons_zero, List.getElem_cons_succ, List.setIfInBounds_toArray, List.set_cons_zero, List.set_cons_succ]
                refine wpAnyH_ready (rs := [8]) (by kernel_rfl) (by simp) ?_
                refine AllReadyH.cons rfl (fun K hK => ?g8t125) (AllReadyH.nil)
                case g8t125 =>
                  go_simp
                  have hr126 := rowst_of o124
                  go_at_call 11
                  refine (C8 _ _ _ hr126 hp124).mono ?_
                  rintro e9 wc126 ⟨rfl, b126⟩
                  have hS126 := hS124.trans (b126.mono hS124.size)
                  refine hK.out _ _ hS126 (fun hHeld2 => ?ra126)
                  case ra126 =>
                  clear hK K hHeld2
                  try simp only [Act.put, List.getElem_toArray, List.getElem_cons_zero, List.getElem_cons_succ, List.setIfInBounds_toArray, List.set_cons_zero, List.set_cons_succ]
                  refine wpAnyH_take (i := 9) (v := .bool ya) rfl (by kernel_rfl) (by kernel_rfl) (by kernel_rfl) (fun _ _ _ h => h) (Or.inl ⟨by rfl, ?hya126⟩) (by first | assumption | exact hS126) ?rz126
                  case hya126 => ((intro w hSw; go_simp) <;> with_reducible rfl)
                  case rz126 =>
                  try simp only [Act.put, List.getElem_toArray, List.getElem_cons_zero, List.getElem_cons_succ, List.setIfInBounds_toArray, List.set_cons_zero, List.set_cons_succ]
                  refine wpAnyH_done (by kernel_rfl) ?_ _
                  go_wp2_with fail
                  go_meet
                  exact ⟨rfl, (punhide HX).trans (hS126.mono (punhide HX).size)⟩
      case rest =>
      obtain ⟨rfl, hB⟩ := hcut
      have hBw := (punhide HD7 _ hB).1
      cases ya <;> cases yb <;> (
        go_wp2
        go_ret
        exact ⟨rfl, hBw⟩)
end Go.Proofs.YtomhgafpjpnmdaaGreatDoor
