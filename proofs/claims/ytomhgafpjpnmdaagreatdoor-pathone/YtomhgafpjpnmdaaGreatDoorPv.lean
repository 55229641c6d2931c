/- What is proved here: PathOne, walked: for every pattern and place that come in the law returns true and leaves them; conditions: the tables lie, the rows lie. -/
import Derived.Test.YtomhgafpjpnmdaaGreatDoorPs
import Derived.Deep.RegionHeld3
namespace Go.Proofs.YtomhgafpjpnmdaaGreatDoor
open Go.RowKit
set_option linter.unusedVariables false
set_option linter.unusedSimpArgs false

/-- Whether the first i steps lead, each to its own, and both are as long. -/
def Ed (l p : List Pm.St) (i : Nat) : Bool := decide (l.length = p.length) && Pm.each (l.take i) (p.take i)
theorem Ed_zero (l p : List Pm.St) : Ed l p 0 = decide (l.length = p.length) := by unfold Ed; simp [Pm.each]
theorem Ed_yes {l p : List Pm.St} {i : Nat} (hi : i < l.length) (h : Ed l p i = true) : ∃ hj : i < p.length, Ed l p (i + 1) = Pm.leadB (l[i]'hi) (p[i]'hj) := by
  unfold Ed at h ⊢
  rw [Bool.and_eq_true, decide_eq_true_eq] at h
  have hj : i < p.length := by omega
  refine ⟨hj, ?_⟩
  rw [decide_eq_true h.1, Bool.true_and, Pm.take_snoc l i hi, Pm.take_snoc p i hj, Pm.each_snoc _ _ _ _ (by rw [List.length_take, List.length_take]; omega), h.2, Bool.true_and]
theorem Ed_no {l p : List Pm.St} {i : Nat} (hi : i < l.length) (h : Ed l p i = false) : Ed l p (i + 1) = false := by
  unfold Ed at h ⊢
  by_cases hl : l.length = p.length
  · have hj : i < p.length := by omega
    rw [decide_eq_true hl, Bool.true_and] at h ⊢
    rw [Pm.take_snoc l i hi, Pm.take_snoc p i hj, Pm.each_snoc _ _ _ _ (by rw [List.length_take, List.length_take]; omega), h, Bool.false_and]
  · rw [decide_eq_false hl, Bool.false_and]
theorem Ed_end {l p : List Pm.St} (h : ∀ t ∈ l, t.k ≠ 5) : Pm.mt l p = Ed l p l.length := by
  rw [Pm.mt_each l p h]
  unfold Ed
  rw [List.take_length]
  by_cases hl : l.length = p.length
  · rw [decide_eq_true hl, Bool.true_and, List.take_of_length_le (by omega)]
  · rw [decide_eq_false hl, Bool.false_and, ← Bool.not_eq_true]
    intro e
    exact hl (Pm.each_len e)
theorem mt_11 {t x : Pm.St} (h : t.k ≠ 5) : Pm.mt [t] [x] = Pm.leadB t x := by
  rw [Pm.mt_each [t] [x] (by intro u hu; rw [List.mem_singleton.1 hu]; exact h)]
  simp [Pm.each]
theorem RowSt.one {w : World} {b : Nat} {L : List Pm.St} (h : RowSt w b 0 L) (i : Nat) (hi : i < L.length) : RowSt w b (i * 3) [L[i]'hi] := by
  refine ⟨h.1, fun j hj => ?_⟩
  have hj0 : j = 0 := by simp at hj; omega
  subst hj0
  have := h.2 i hi
  rw [Nat.zero_add] at this
  exact this

set_option maxRecDepth 100000 in
set_option maxHeartbeats 4000000 in
theorem one_walk (a : Option Addr) (n c : Nat) (L : List Pm.St) (b : Option Addr) (m d : Nat) (M : List Pm.St) (w : World) (hn : n ≤ 9223372036854775807) (hm : m ≤ 9223372036854775807) (hL : StepsIn w a n L) (hM : StepsIn w b m M) (hT : Tabs w) (hP : Pow w) :
    Calls Tryz.prog 7 #[.slice a n c, .slice b m d] w fun e w' => e = .returned (.bool true) ∧ Below w.heap.size w w' := by
  have C1 := fun W h => pfew_any a n c L hn W h
  have C2 := fun W h => place_any b m d M hm W h
  obtain ⟨l, hl⟩ : ∃ l, fewL L = l := ⟨_, rfl⟩
  obtain ⟨p, hp⟩ : ∃ p, Pm.plL M = p := ⟨_, rfl⟩
  obtain ⟨k, hk⟩ : ∃ k, l.length = k := ⟨_, rfl⟩
  obtain ⟨j, hj⟩ : ∃ j, p.length = j := ⟨_, rfl⟩
  have hk12 : k ≤ 12 := by rw [← hk, ← hl, fewL_len]; omega
  have hj12 : j ≤ 12 := by rw [← hj, ← hp]; exact Pm.plL_len M
  obtain ⟨q, hq⟩ : ∃ q, mayE l = q := ⟨_, rfl⟩
  rw [hl, hk] at C1
  rw [hp, hj] at C2
  have HQ := phide hq
  have HK := phide hk
  have HJ := phide hj
  clear hq hk hj hl hp
  go_enter Tryz.func7, Tryz.ntmps7
  go_wp2_with fail
  refine (pshown_any _ hT hP).mono ?_
  rintro e w1 ⟨rfl, hB⟩
  go_wp2_with fail
  refine (C1 _ (hL.step hB)).mono ?_
  rintro e w2 ⟨b2, g, cap, rfl, hg, hcap, hl⟩
  replace hB := hB.trans (b2.mono hB.size)
  clear b2 hg C1
  go_wp2_with fail
  refine (C2 _ (hM.step hB)).mono ?_
  rintro e w3 ⟨b3, g4, cap4, rfl, hg4, hcap4, hp⟩
  replace hB := hB.trans (b3.mono hB.size)
  replace hl := hl.step b3
  clear b3 hg4 C2
  go_wp2_with fail
  refine (may_any (some ⟨g, 0, none⟩) k cap l q (punhide HQ) (by omega) _ (tabs_step hT hB) ⟨punhide HK, .inr ⟨g, 0, rfl, hl⟩⟩).mono ?_
  rintro e w4 ⟨rfl, b4⟩
  replace hB := hB.trans (b4.mono hB.size)
  replace hl := hl.step b4
  replace hp := hp.step b4
  clear b4
  by_cases hq0 : q = 0
  · subst hq0
    have HB4 : Hid (∀ W, Below w4.heap.size w4 W → Below w.heap.size w W ∧ RowSt W g 0 l ∧ RowSt W g4 0 p) := phide (fun W b => ⟨hB.trans (b.mono hB.size), hl.step b, hp.step b⟩)
    obtain ⟨z, hz⟩ : ∃ z, ((k : Int) == (j : Int)) = z := ⟨_, rfl⟩
    have HZ : Hid (Ed l p 0 = z) := phide (by rw [Ed_zero, punhide HK, punhide HJ, ← hz, Bool.eq_iff_iff]; simp; omega)
    clear hB hl hp hM hL hT hP HQ
    go_wp2
    go_loopw [7, 8] (fun v i wr => ∃ (i' : Nat) (y : Bool), i = .int .i64 (i' : Int) ∧ v = .bool y ∧ i' ≤ k ∧ Hid (Ed l p i' = y) ∧ Hid (∀ t ∈ l.take i', t.k ≠ 5) ∧ Below w4.heap.size w4 wr) (fun _ i _ => k - (intOf i).toNat)
    case atStart => exact ⟨0, z, rfl, rfl, by omega, HZ, phide (by simp), Below.refl _ _⟩
    case round =>
      clear HZ hz
      obtain ⟨i, y, rfl, rfl, hik, HY, H5, hB⟩ := hrel
      by_cases hlt : i < k
      · have hil : i < l.length := by rw [punhide HK]; exact hlt
        obtain ⟨hBw, hl, hp⟩ := punhide HB4 _ hB
        obtain ⟨t, ht⟩ : ∃ t, l[i]'hil = t := ⟨_, rfl⟩
        obtain ⟨c0, c1, c2⟩ := hl.2 i hil
        rw [Nat.zero_add, ht] at c0 c1 c2
        by_cases h5 : t.k = 5
        · rw [h5] at c0
          clear c1 c2 ht h5 HY H5 hil hl hp
          go_wp2
          go_ret
          exact ⟨rfl, hBw⟩
        · have d5 : (t.k == 5) = false := beq_eq_false_iff_ne.2 h5
          have H52 : Hid (∀ u ∈ l.take (i + 1), u.k ≠ 5) := phide (by
            intro u hu
            rw [Pm.take_snoc l i hil] at hu
            rcases List.mem_append.1 hu with hu | hu
            · exact punhide H5 u hu
            · rw [List.mem_singleton.1 hu, ht]; exact h5)
          cases y
          · have HY2 := phide (Ed_no hil (punhide HY))
            clear c1 c2 ht h5 HY H5 hil hl hp
            go_wp2
            go_roundw
            case rel => exact ⟨i + 1, false, by go_num, rfl, by omega, HY2, H52, hB⟩
            case measure => simp [intOf]; omega
          · obtain ⟨hip, he⟩ := Ed_yes hil (punhide HY)
            have hr1 := hl.one i hil
            have hr2 := hp.one i hip
            obtain ⟨x, hx⟩ : ∃ x, p[i]'hip = x := ⟨_, rfl⟩
            rw [ht] at hr1 he
            rw [hx] at hr2 he
            obtain ⟨y2, hy2⟩ : ∃ y2, Pm.leadB t x = y2 := ⟨_, rfl⟩
            have HY2 := phide (he.trans hy2)
            have CM := fun W lc ac h1 h2 => match_any g (i * 3) lc g4 (i * 3) ac 1 1 [t] [x] rfl rfl (by omega) (by omega) y2 ((mt_11 h5).trans hy2) W h1 h2
            have hij : i < j := by rw [← punhide HJ]; exact hip
            have HR : Hid (∀ W, Below wr.heap.size wr W → RowSt W g (i * 3) [t] ∧ RowSt W g4 (i * 3) [x]) := phide (fun W b => ⟨hr1.step b, hr2.step b⟩)
            have hS : Below wr.heap.size wr wr.drew := (Below.refl _ _).drew
            have s1 : (i : Int) + 1 ≤ (cap : Int) := by omega
            have s2 : (i : Int) + 1 ≤ (cap4 : Int) := by omega
            have s3 : (0 : Int) ≤ (i : Int) + 1 := by omega
            have n1 : ¬ cap = i := by omega
            have n2 : ¬ cap4 = i := by omega
            have hw : IntKind.i64.wrap ((i : Int) + 1) = (i : Int) + 1 := by rw [IntKind.wrap_i64]; omega
            clear c1 c2 ht h5 HY H5 hil hl hp hr1 hr2 he hx hy2 hip
            go_wp2_with fail
            refine wp_region_held_drew (S := fun w' => True) (by kernel_rfl) ?hS0 (fun hHeld => ?rest0)
            case hS0 => first | (dsimp only; (trivial)) | (trivial)
            case rest0 =>
            refine wpAnyH_take (i := 0) (v := .slice (some ⟨g, 0, none⟩) k cap) rfl (by kernel_rfl) (by kernel_rfl) (by kernel_rfl) (fun _ _ _ h => h) (Or.inl ⟨by rfl, ?hy0⟩) (by assumption) ?rest1
            case hy0 => ((intro w hSw; (try dsimp only at hSw); go_simp) <;> (first | with_reducible rfl))
            case rest1 =>
            try simp only [Act.put, List.getElem_toArray, List.getElem_cons_zero, List.getElem_cons_succ, List.setIfInBounds_toArray, List.set_cons_zero, List.set_cons_succ]
            refine wpAnyH_take (i := 1) (v := .int .i64 (i : Int)) rfl (by kernel_rfl) (by kernel_rfl) (by kernel_rfl) (fun _ _ _ h => h) (Or.inl ⟨by rfl, ?hy1⟩) (by assumption) ?rest2
            case hy1 => ((intro w hSw; (try dsimp only at hSw); go_simp) <;> (first | with_reducible rfl))
            case rest2 =>
            try simp only [Act.put, List.getElem_toArray, List.getElem_cons_zero, List.getElem_cons_succ, List.setIfInBounds_toArray, List.set_cons_zero, List.set_cons_succ]
            refine wpAnyH_take (i := 2) (v := .int .i64 (i : Int)) rfl (by kernel_rfl) (by kernel_rfl) (by kernel_rfl) (fun _ _ _ h => h) (Or.inl ⟨by rfl, ?hy2⟩) (by assumption) ?rest3
            case hy2 => ((intro w hSw; (try dsimp only at hSw); go_simp) <;> (first | with_reducible rfl))
            case rest3 =>
            try simp only [Act.put, List.getElem_toArray, List.getElem_cons_zero, List.getElem_cons_succ, List.setIfInBounds_toArray, List.set_cons_zero, List.set_cons_succ]
            refine wpAnyH_take (i := 3) (v := .int .i64 ((i : Int) + 1)) rfl (by kernel_rfl) (by kernel_rfl) (by kernel_rfl) (fun _ _ _ h => h) (Or.inl ⟨by rfl, ?hy3⟩) (by assumption) ?rest4
            case hy3 => ((intro w hSw; (try dsimp only at hSw); go_simp) <;> (first | with_reducible rfl))
            case rest4 =>
            try simp only [Act.put, List.getElem_toArray, List.getElem_cons_zero, List.getElem_cons_succ, List.setIfInBounds_toArray, List.set_cons_zero, List.set_cons_succ]
            refine wpAnyH_take (i := 4) (v := .slice (some ⟨g, i * 3, none⟩) 1 (cap - i)) rfl (by kernel_rfl) (by kernel_rfl) (by kernel_rfl) (fun _ _ _ h => h) (Or.inl ⟨by rfl, ?hy4⟩) (by assumption) ?rest5
            case hy4 => ((intro w hSw; (try dsimp only at hSw); go_simp) <;> (first | with_reducible rfl))
            case rest5 =>
            try simp only [Act.put, List.getElem_toArray, List.getElem_cons_zero, List.getElem_cons_succ, List.setIfInBounds_toArray, List.set_cons_zero, List.set_cons_succ]
            refine wpAnyH_take (i := 5) (v := .slice (some ⟨g4, 0, none⟩) j cap4) rfl (by kernel_rfl) (by kernel_rfl) (by kernel_rfl) (fun _ _ _ h => h) (Or.inl ⟨by rfl, ?hy5⟩) (by assumption) ?rest6
            case hy5 => ((intro w hSw; (try dsimp only at hSw); go_simp) <;> (first | with_reducible rfl))
            case rest6 =>
            try simp only [Act.put, List.getElem_toArray, List.getElem_cons_zero, List.getElem_cons_succ, List.setIfInBounds_toArray, List.set_cons_zero, List.set_cons_succ]
            refine wpAnyH_take (i := 6) (v := .int .i64 (i : Int)) rfl (by kernel_rfl) (by kernel_rfl) (by kernel_rfl) (fun _ _ _ h => h) (Or.inl ⟨by rfl, ?hy6⟩) (by assumption) ?rest7
            case hy6 => ((intro w hSw; (try dsimp only at hSw); go_simp) <;> (first | with_reducible rfl))
            case rest7 =>
            try simp only [Act.put, List.getElem_toArray, List.getElem_cons_zero, List.getElem_cons_succ, List.setIfInBounds_toArray, List.set_cons_zero, List.set_cons_succ]
            refine wpAnyH_take (i := 7) (v := .int .i64 (i : Int)) rfl (by kernel_rfl) (by kernel_rfl) (by kernel_rfl) (fun _ _ _ h => h) (Or.inl ⟨by rfl, ?hy7⟩) (by assumption) ?rest8
            case hy7 => ((intro w hSw; (try dsimp only at hSw); go_simp) <;> (first | with_reducible rfl))
            case rest8 =>
            try simp only [Act.put, List.getElem_toArray, List.getElem_cons_zero, List.getElem_cons_succ, List.setIfInBounds_toArray, List.set_cons_zero, List.set_cons_succ]
            refine wpAnyH_take (i := 8) (v := .int .i64 ((i : Int) + 1)) rfl (by kernel_rfl) (by kernel_rfl) (by kernel_rfl) (fun _ _ _ h => h) (Or.inl ⟨by rfl, ?hy8⟩) (by assumption) ?rest9
            case hy8 => ((intro w hSw; (try dsimp only at hSw); go_simp) <;> (first | with_reducible rfl))
            case rest9 =>
            try simp only [Act.put, List.getElem_toArray, List.getElem_cons_zero, List.getElem_cons_succ, List.setIfInBounds_toArray, List.set_cons_zero, List.set_cons_succ]
            refine wpAnyH_take (i := 9) (v := .slice (some ⟨g4, i * 3, none⟩) 1 (cap4 - i)) rfl (by kernel_rfl) (by kernel_rfl) (by kernel_rfl) (fun _ _ _ h => h) (Or.inl ⟨by rfl, ?hy9⟩) (by assumption) ?rest10
            case hy9 => ((intro w hSw; (try dsimp only at hSw); go_simp) <;> (first | with_reducible rfl))
            case rest10 =>
            try simp only [Act.put, List.getElem_toArray, List.getElem_cons_zero, List.getElem_cons_succ, List.setIfInBounds_toArray, List.set_cons_zero, List.set_cons_succ]
            refine wpAnyH_ready (rs := [10]) (by kernel_rfl) (by simp) ?_
            refine AllReadyH.cons rfl (fun K hK => ?_) AllReadyH.nil
            go_simp
            go_at_call 11; refine (CM _ _ _ (punhide HR _ hS).1 (punhide HR _ hS).2).mono ?_; rintro e9 w9 ⟨rfl, b9⟩
            replace hS := hS.trans (b9.mono hS.size)
            clear b9
            refine hK.out _ _ ?hS11 (fun hHeld2 => ?rest11)
            case hS11 => first | (dsimp only; (trivial)) | (trivial)
            case rest11 =>
            clear hK K
            try clear hHeld
            have hHeld := hHeld2
            clear hHeld2
            try simp only [Act.put, List.getElem_toArray, List.getElem_cons_zero, List.getElem_cons_succ, List.setIfInBounds_toArray, List.set_cons_zero, List.set_cons_succ]
            refine wpAnyH_take (i := 11) (v := .bool y2) rfl (by kernel_rfl) (by kernel_rfl) (by kernel_rfl) (fun _ _ _ h => h) (Or.inl ⟨by rfl, ?hy11⟩) (by assumption) ?rest12
            case hy11 => ((intro w hSw; (try dsimp only at hSw); go_simp) <;> (first | with_reducible rfl))
            case rest12 =>
            try simp only [Act.put, List.getElem_toArray, List.getElem_cons_zero, List.getElem_cons_succ, List.setIfInBounds_toArray, List.set_cons_zero, List.set_cons_succ]
            refine wpAnyH_done (by kernel_rfl) ?_ _
            all_goals
              go_wp2
              go_roundw
              case rel => exact ⟨i + 1, y2, by go_num, rfl, by omega, HY2, H52, hB.trans (hS.mono hB.size)⟩
              case measure => simp [intOf]; omega
      · have hik2 : i = k := by omega
        obtain ⟨hBw, hl, hp⟩ := punhide HB4 _ hB
        have hm : Pm.mt l p = y := by
          have h5 := punhide H5
          rw [List.take_of_length_le (by rw [punhide HK]; omega)] at h5
          rw [Ed_end h5, punhide HK, ← hik2]; exact punhide HY
        have CM := fun W h1 h2 => match_any g 0 cap g4 0 cap4 k j l p (punhide HK) (punhide HJ) (by omega) (by omega) y hm W h1 h2
        have d1 : decide ((i : Int) < (k : Int)) = false := decide_eq_false (by omega)
        clear HY H5 hm hik2
        go_wp2_with fail
        refine (CM _ hl hp).mono ?_
        rintro e w9 ⟨rfl, b9⟩
        go_wp2
        go_ret
        exact ⟨by cases y <;> rfl, hBw.trans (b9.mono hBw.size)⟩
  · have d1 : (q != 0) = true := by simp [hq0]
    go_wp2
    go_ret
    exact ⟨rfl, hB⟩
end Go.Proofs.YtomhgafpjpnmdaaGreatDoor
