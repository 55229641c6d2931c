/- What is proved here: what the document's own Match does with two rows of steps that lie, walked; conditions: the pattern's steps may be, the place's are some. Written by rmatch_gen.py. -/
import Derived.Test.YtomhgafpjpnmdaaGreatDoorPf
import Derived.Deep.RegionHeld3
namespace Go.Proofs.YtomhgafpjpnmdaaGreatDoor
open Go.RowKit
set_option linter.unusedVariables false
set_option linter.unusedSimpArgs false

theorem infoB : (Tryz.prog.info? 4).map (fun i => (i.zero, i.size, i.bytes)) = some (some (.bool false), 1, 1) := by kernel_rfl
theorem pre_none (l a : List Pm.St) (i k : Nat) (hi : i < l.length) (hk : k ≤ a.length) (h5 : (l[i]'hi).k ≠ 5) (h : 0 < k → Pm.pre l a i (k - 1) = false) : Pm.pre l a (i + 1) k = false := by
  cases k with
  | zero => exact Pm.pre_one0 l a i hi h5
  | succ k =>
    rw [Pm.pre_one l a i k hi (by omega) h5]
    have := h (by omega)
    rw [Nat.add_sub_cancel] at this
    rw [this]; rfl
set_option maxRecDepth 100000 in
set_option maxHeartbeats 8000000 in
theorem rmatch_any (lb lo lc ab ao ac n m : Nat) (l a : List Pm.St) (hn : l.length = n) (hm : a.length = m) (hn2 : n ≤ 1000) (hm2 : m ≤ 1000) (hcl : ∀ t ∈ l, Pm.Cl t) (hpl : ∀ x ∈ a, Pm.Pl x) (q : Bool) (hq : Pm.mt l a = q) (w : World) (hrl : RowSt w lb lo l) (hra : RowSt w ab ao a) :
    Calls Tryz.prog 13 #[.slice (some ⟨lb, lo, none⟩) n lc, .slice (some ⟨ab, ao, none⟩) m ac] w fun e w' => e = .returned (.bool q) ∧ Below w.heap.size w w' := by
  have HQ : Hid (Pm.pre l a n m = q) := phide (by rw [← hn, ← hm, Pm.pre_all]; exact hq)
  have HL : Hid (∀ W, Below w.heap.size w W → ∀ i, ∀ h : i < l.length, StepAt W lb (lo + i * 3) (l[i]'h)) := phide (fun W hB => (hrl.step hB).2)
  have HA : Hid (∀ W, Below w.heap.size w W → ∀ i, ∀ h : i < a.length, StepAt W ab (ao + i * 3) (a[i]'h)) := phide (fun W hB => (hra.step hB).2)
  have HCL := phide hcl
  have HPL := phide hpl
  have hmk := run_make_row' (P := Tryz.prog) 39 4 (.bool false) 1 Tryz.underlying39 infoB rfl .i64 .i64 (m + 1) (by omega) (by omega)
  have hc : ((m + 1 : Nat) : Int) = (m : Int) + 1 := by omega
  rw [hc] at hmk
  have hwm : IntKind.i64.wrap ((m : Int) + 1) = (m : Int) + 1 := by rw [IntKind.wrap_i64]; omega
  clear hq hrl hra hcl hpl hc
  have R0 := World.rowIs_made w (.bool false) (m + 1) 4
  have k0 := R0.cell (i := 0) (by omega)
  have f0 := R0.frozen 0
  have hB1 : ∀ v, Below w.heap.size w ((w.alloc (.cells (madeCells #[.bool false] (m + 1)) 4)).setCell ⟨w.heap.size, 0, none⟩ v) := fun v => ((Below.refl _ _).alloc (Nat.le_refl _) _).setCell (Nat.le_refl _) v
  go_enter Tryz.func13, Tryz.ntmps13
  go_wp2
  go_loopw [5, 6] (fun vr vi wr => ∃ i gr : Nat, vi = .int .i64 (i : Int) ∧ vr = .slice (some ⟨gr, 0, none⟩) (m + 1) (m + 1) ∧ i ≤ n ∧ w.heap.size ≤ gr ∧ wr.rowIs gr 4 (m + 1) (fun k => .bool (Pm.pre l a i k)) ∧ Below w.heap.size w wr) (fun _ vi _ => n - (intOf vi).toNat)
  case atStart =>
    have e := World.setCell_alloc_new (w := w) (madeCells #[.bool false] (m + 1)) 4 0 (.bool true)
    refine ⟨0, w.heap.size, rfl, rfl, by omega, Nat.le_refl _, ?_, (Below.refl _ _).alloc (Nat.le_refl _) _⟩
    rw [← e]
    refine (R0.set 0 (.bool true)).congr (fun k hk => ?_)
    rw [Pm.pre_zero l a k (by omega)]
    by_cases h : k = 0
    · rw [if_pos h, decide_eq_true h]
    · rw [if_neg h, decide_eq_false h]
  case round =>
    clear R0 k0 f0 hB1
    obtain ⟨i, gr, rfl, rfl, hin, hgr, hR, hB⟩ := hrel
    by_cases hlt : i < n
    · have hil : i < l.length := by omega
      have R1 := World.rowIs_made wr (.bool false) (m + 1) 4
      have hRr := hR.alloc (.cells (madeCells #[.bool false] (m + 1)) 4)
      have hBr := hB.alloc hB.size (.cells (madeCells #[.bool false] (m + 1)) 4)
      have hne : gr ≠ wr.heap.size := by have := hR.lt; omega
      have hgn : w.heap.size ≤ wr.heap.size := hB.size
      clear hR
      go_wp2
      generalize wr.heap.size = gn at *
      go_loopw [8] (fun vk wx => ∃ k : Nat, vk = .int .i64 (k : Int) ∧ k ≤ m + 1 ∧ wx.rowIs gr 4 (m + 1) (fun k => .bool (Pm.pre l a i k)) ∧ wx.rowIs gn 4 (m + 1) (fun j => if j < k then .bool (Pm.pre l a (i + 1) j) else .bool false) ∧ Below w.heap.size w wx) (fun vk _ => m + 1 - (intOf vk).toNat)
      case atStart => exact ⟨0, rfl, by omega, hRr, R1.congr (fun j hj => by rw [if_neg (by omega)]), hBr⟩
      case round =>
        clear R1 hRr hBr hB
        obtain ⟨k, rfl, hkm, hR, hN, hB⟩ := hrel
        by_cases hk : k ≤ m
        · have dk : decide ((k : Int) ≤ (m : Int)) = true := decide_eq_true (by omega)
          have ck := hR.cell (i := k) (by omega)
          have nk := hN.cell (i := k) (by omega)
          have fk := hN.frozen k
          rw [if_neg (by omega)] at nk
          have HS : ∀ v, v = Pm.pre l a (i + 1) k → ∀ W : World, Hid (W.rowIs gr 4 (m + 1) (fun k => .bool (Pm.pre l a i k)) → W.rowIs gn 4 (m + 1) (fun j => if j < k then .bool (Pm.pre l a (i + 1) j) else .bool false) →
              (W.setCell ⟨gn, k, none⟩ (.bool v)).rowIs gr 4 (m + 1) (fun k => .bool (Pm.pre l a i k)) ∧ (W.setCell ⟨gn, k, none⟩ (.bool v)).rowIs gn 4 (m + 1) (fun j => if j < k + 1 then .bool (Pm.pre l a (i + 1) j) else .bool false)) := by
            intro v hv W
            refine phide (fun h1 h2 => ⟨h1.setOther hne _, (h2.set k (.bool v)).congr (fun j hj => ?_)⟩)
            show (if j = k then Value.bool v else if j < k then _ else _) = _
            by_cases e : j = k
            · rw [if_pos e, if_pos (by omega), hv, e]
            · rw [if_neg e]
              by_cases e2 : j < k
              · rw [if_pos e2, if_pos (by omega)]
              · rw [if_neg e2, if_neg (by omega)]
          obtain ⟨c0, c1, c2⟩ := punhide HL _ hB i hil
          have hwk : IntKind.i64.wrap ((k : Int) - 1) = ((k - 1 : Nat) : Int) ∨ k = 0 := by
            by_cases h : k = 0
            · exact .inr h
            · left; rw [IntKind.wrap_i64]; omega
          by_cases h5 : (l[i]'hil).k = 5
          · have hpd := Pm.pre_deep l a i k hil (by omega) h5
            rw [h5] at c0
            clear c1 c2 h5 hwk
            have hR9 := hR
            have hN9 := hN
            have hB9 := hB
            obtain ⟨p, hp⟩ : ∃ p, Pm.pre l a i k = p := ⟨_, rfl⟩
            rw [hp] at hpd ck
            cases p
            · rw [Bool.false_or] at hpd
              by_cases hz : k = 0
              · subst hz
                have HS0 := HS false (by rw [hpd]; rfl)
                clear HS hpd hn hm HQ HL HA HCL HPL hp hR hN hB
                go_wp2
                go_roundw
                case rel =>
                  have h9 := punhide (HS0 _) hR9 hN9
                  exact ⟨0 + 1, by go_num, by omega, h9.1, h9.2, hB9.setCell hgn _⟩
                case measure => simp [intOf] <;> omega
              · obtain ⟨j, rfl⟩ : ∃ j, k = j + 1 := ⟨k - 1, by omega⟩
                rw [decide_eq_true (show 0 < j + 1 by omega), Bool.true_and, Nat.add_sub_cancel] at hpd
                have cj := hN.cell (i := j) (by omega)
                rw [if_pos (by omega)] at cj
                obtain ⟨y, hy⟩ : ∃ y, Pm.pre l a (i + 1) j = y := ⟨_, rfl⟩
                rw [hy] at hpd cj
                have HS0 := HS y hpd.symm
                have hkj : ((j + 1 : Nat) : Int) = (j : Int) + 1 := by omega
                have d0 : decide (0 < (j : Int) + 1) = true := decide_eq_true (by omega)
                have hwj : IntKind.i64.wrap ((j : Int) + 1 - 1) = (j : Int) := by rw [IntKind.wrap_i64]; omega
                have hj1 : (j : Int) + 1 - 1 = (j : Int) := by omega
                have i1 : (j : Int) < (m : Int) + 1 := by omega
                have i2 : (j : Int) + 1 < (m : Int) + 1 := by omega
                clear HS hpd hn hm HQ HL HA HCL HPL hp hR hN hB hy hz
                go_wp2
                go_roundw
                case rel =>
                  have h9 := punhide (HS0 _) hR9 hN9
                  exact ⟨j + 1 + 1, by go_num, by omega, h9.1, h9.2, hB9.setCell hgn _⟩
                case measure => simp [intOf] <;> omega
            · have HS0 := HS true (by rw [hpd]; rfl)
              clear HS hpd hn hm HQ HL HA HCL HPL hp hR hN hB
              go_wp2
              go_roundw
              case rel =>
                have h9 := punhide (HS0 _) hR9 hN9
                exact ⟨k + 1, by go_num, by omega, h9.1, h9.2, hB9.setCell hgn _⟩
              case measure => simp [intOf] <;> omega
          · have hp0 := pre_none l a i k hil (by omega) h5
            by_cases hz : k = 0
            · have HS0 := HS false (hp0 (fun h => absurd h (by omega))).symm
              subst hz
              obtain ⟨t, ht⟩ : ∃ t, l[i]'hil = t := ⟨_, rfl⟩
              rw [ht] at c0 c1 c2 h5
              have d5 : (t.k == 5) = false := beq_eq_false_iff_ne.2 h5
              have hR9 := hR.drew
              have hN9 := hN.drew
              have hB9 := hB.drew
              have nk9 := hN9.cell (i := 0) (by omega)
              have fk9 := hN9.frozen 0
              rw [if_neg (by omega)] at nk9
              clear HS hwk hp0 hn hm HQ HL HA HCL HPL ht hR hN hB nk fk ck
              go_wp2_with fail
              refine wp_region_held_drew (S := fun w' => True) (by kernel_rfl) ?hS0 (fun hHeld => ?rest0)
              case hS0 => first | (dsimp only; (trivial)) | (trivial)
              case rest0 =>
              refine wpAnyH_take (i := 0) (v := ?v0) rfl (by kernel_rfl) (by kernel_rfl) (by kernel_rfl) (fun _ _ _ h => h) (Or.inl ⟨by rfl, ?hy0⟩) (by assumption) ?rest1
              case hy0 => ((intro w hSw; (try dsimp only at hSw); go_simp) <;> with_reducible rfl)
              case rest1 =>
              try simp only [Act.put, List.getElem_toArray, List.getElem_cons_zero, List.getElem_cons_succ, List.setIfInBounds_toArray, List.set_cons_zero, List.set_cons_succ]
              refine wpAnyH_take (i := 1) (v := ?v1) rfl (by kernel_rfl) (by kernel_rfl) (by kernel_rfl) (fun _ _ _ h => h) (Or.inl ⟨by rfl, ?hy1⟩) (by assumption) ?rest2
              case hy1 => ((intro w hSw; (try dsimp only at hSw); go_simp) <;> with_reducible rfl)
              case rest2 =>
              try simp only [Act.put, List.getElem_toArray, List.getElem_cons_zero, List.getElem_cons_succ, List.setIfInBounds_toArray, List.set_cons_zero, List.set_cons_succ]
              refine wpAnyH_take (i := 2) (v := ?v2) rfl (by kernel_rfl) (by kernel_rfl) (by kernel_rfl) (fun _ _ _ h => h) (Or.inl ⟨by rfl, ?hy2⟩) (by assumption) ?rest3
              case hy2 => ((intro w hSw; (try dsimp only at hSw); go_simp) <;> with_reducible rfl)
              case rest3 =>
              try simp only [Act.put, List.getElem_toArray, List.getElem_cons_zero, List.getElem_cons_succ, List.setIfInBounds_toArray, List.set_cons_zero, List.set_cons_succ]
              refine wpAnyH_take (i := 3) (v := ?v3) rfl (by kernel_rfl) (by kernel_rfl) (by kernel_rfl) (fun _ _ _ h => h) (Or.inl ⟨by rfl, ?hy3⟩) (by assumption) ?rest4
              case hy3 => ((intro w hSw; (try dsimp only at hSw); go_simp) <;> with_reducible rfl)
              case rest4 =>
              try simp only [Act.put, List.getElem_toArray, List.getElem_cons_zero, List.getElem_cons_succ, List.setIfInBounds_toArray, List.set_cons_zero, List.set_cons_succ]
              refine wpAnyH_take (i := 4) (v := ?v4) rfl (by kernel_rfl) (by kernel_rfl) (by kernel_rfl) (fun _ _ _ h => h) (Or.inl ⟨by rfl, ?hy4⟩) (by assumption) ?rest5
              case hy4 => ((intro w hSw; (try dsimp only at hSw); go_simp) <;> with_reducible rfl)
              case rest5 =>
              try simp only [Act.put, List.getElem_toArray, List.getElem_cons_zero, List.getElem_cons_succ, List.setIfInBounds_toArray, List.set_cons_zero, List.set_cons_succ]
              refine wpAnyH_take (i := 5) (v := undef) rfl (by kernel_rfl) (by kernel_rfl) (by kernel_rfl) (fun _ _ _ h => h) (Or.inr ⟨by kernel_rfl, rfl⟩) (by assumption) ?_
              try simp only [Act.put, List.getElem_toArray, List.getElem_cons_zero, List.getElem_cons_succ, List.setIfInBounds_toArray, List.set_cons_zero, List.set_cons_succ]
              refine wpAnyH_take (i := 6) (v := undef) rfl (by kernel_rfl) (by kernel_rfl) (by kernel_rfl) (fun _ _ _ h => h) (Or.inr ⟨by kernel_rfl, rfl⟩) (by assumption) ?_
              try simp only [Act.put, List.getElem_toArray, List.getElem_cons_zero, List.getElem_cons_succ, List.setIfInBounds_toArray, List.set_cons_zero, List.set_cons_succ]
              refine wpAnyH_take (i := 7) (v := undef) rfl (by kernel_rfl) (by kernel_rfl) (by kernel_rfl) (fun _ _ _ h => h) (Or.inr ⟨by kernel_rfl, rfl⟩) (by assumption) ?_
              try simp only [Act.put, List.getElem_toArray, List.getElem_cons_zero, List.getElem_cons_succ, List.setIfInBounds_toArray, List.set_cons_zero, List.set_cons_succ]
              refine wpAnyH_take (i := 8) (v := undef) rfl (by kernel_rfl) (by kernel_rfl) (by kernel_rfl) (fun _ _ _ h => h) (Or.inr ⟨by kernel_rfl, rfl⟩) (by assumption) ?_
              try simp only [Act.put, List.getElem_toArray, List.getElem_cons_zero, List.getElem_cons_succ, List.setIfInBounds_toArray, List.set_cons_zero, List.set_cons_succ]
              refine wpAnyH_take (i := 9) (v := undef) rfl (by kernel_rfl) (by kernel_rfl) (by kernel_rfl) (fun _ _ _ h => h) (Or.inr ⟨by kernel_rfl, rfl⟩) (by assumption) ?_
              try simp only [Act.put, List.getElem_toArray, List.getElem_cons_zero, List.getElem_cons_succ, List.setIfInBounds_toArray, List.set_cons_zero, List.set_cons_succ]
              refine wpAnyH_take (i := 10) (v := ?v10) rfl (by kernel_rfl) (by kernel_rfl) (by kernel_rfl) (fun _ _ _ h => h) (Or.inl ⟨by rfl, ?hy10⟩) (by assumption) ?rest11
              case hy10 => ((intro w hSw; (try dsimp only at hSw); go_simp) <;> with_reducible rfl)
              case rest11 =>
              try simp only [Act.put, List.getElem_toArray, List.getElem_cons_zero, List.getElem_cons_succ, List.setIfInBounds_toArray, List.set_cons_zero, List.set_cons_succ]
              refine wpAnyH_take (i := 11) (v := ?v11) rfl (by kernel_rfl) (by kernel_rfl) (by kernel_rfl) (fun _ _ _ h => h) (Or.inl ⟨by rfl, ?hy11⟩) (by assumption) ?rest12
              case hy11 => ((intro w hSw; (try dsimp only at hSw); go_simp) <;> with_reducible rfl)
              case rest12 =>
              try simp only [Act.put, List.getElem_toArray, List.getElem_cons_zero, List.getElem_cons_succ, List.setIfInBounds_toArray, List.set_cons_zero, List.set_cons_succ]
              refine wpAnyH_take (i := 12) (v := undef) rfl (by kernel_rfl) (by kernel_rfl) (by kernel_rfl) (fun _ _ _ h => h) (Or.inr ⟨by kernel_rfl, rfl⟩) (by assumption) ?_
              try simp only [Act.put, List.getElem_toArray, List.getElem_cons_zero, List.getElem_cons_succ, List.setIfInBounds_toArray, List.set_cons_zero, List.set_cons_succ]
              refine wpAnyH_take (i := 13) (v := undef) rfl (by kernel_rfl) (by kernel_rfl) (by kernel_rfl) (fun _ _ _ h => h) (Or.inr ⟨by kernel_rfl, rfl⟩) (by assumption) ?_
              try simp only [Act.put, List.getElem_toArray, List.getElem_cons_zero, List.getElem_cons_succ, List.setIfInBounds_toArray, List.set_cons_zero, List.set_cons_succ]
              refine wpAnyH_take (i := 14) (v := undef) rfl (by kernel_rfl) (by kernel_rfl) (by kernel_rfl) (fun _ _ _ h => h) (Or.inr ⟨by kernel_rfl, rfl⟩) (by assumption) ?_
              try simp only [Act.put, List.getElem_toArray, List.getElem_cons_zero, List.getElem_cons_succ, List.setIfInBounds_toArray, List.set_cons_zero, List.set_cons_succ]
              refine wpAnyH_take (i := 15) (v := undef) rfl (by kernel_rfl) (by kernel_rfl) (by kernel_rfl) (fun _ _ _ h => h) (Or.inr ⟨by kernel_rfl, rfl⟩) (by assumption) ?_
              try simp only [Act.put, List.getElem_toArray, List.getElem_cons_zero, List.getElem_cons_succ, List.setIfInBounds_toArray, List.set_cons_zero, List.set_cons_succ]
              refine wpAnyH_take (i := 16) (v := undef) rfl (by kernel_rfl) (by kernel_rfl) (by kernel_rfl) (fun _ _ _ h => h) (Or.inr ⟨by kernel_rfl, rfl⟩) (by assumption) ?_
              try simp only [Act.put, List.getElem_toArray, List.getElem_cons_zero, List.getElem_cons_succ, List.setIfInBounds_toArray, List.set_cons_zero, List.set_cons_succ]
              refine wpAnyH_take (i := 17) (v := undef) rfl (by kernel_rfl) (by kernel_rfl) (by kernel_rfl) (fun _ _ _ h => h) (Or.inr ⟨by kernel_rfl, rfl⟩) (by assumption) ?_
              try simp only [Act.put, List.getElem_toArray, List.getElem_cons_zero, List.getElem_cons_succ, List.setIfInBounds_toArray, List.set_cons_zero, List.set_cons_succ]
              refine wpAnyH_take (i := 18) (v := undef) rfl (by kernel_rfl) (by kernel_rfl) (by kernel_rfl) (fun _ _ _ h => h) (Or.inr ⟨by kernel_rfl, rfl⟩) (by assumption) ?_
              try simp only [Act.put, List.getElem_toArray, List.getElem_cons_zero, List.getElem_cons_succ, List.setIfInBounds_toArray, List.set_cons_zero, List.set_cons_succ]
              refine wpAnyH_take (i := 19) (v := undef) rfl (by kernel_rfl) (by kernel_rfl) (by kernel_rfl) (fun _ _ _ h => h) (Or.inr ⟨by kernel_rfl, rfl⟩) (by assumption) ?_
              try simp only [Act.put, List.getElem_toArray, List.getElem_cons_zero, List.getElem_cons_succ, List.setIfInBounds_toArray, List.set_cons_zero, List.set_cons_succ]
              refine wpAnyH_take (i := 20) (v := undef) rfl (by kernel_rfl) (by kernel_rfl) (by kernel_rfl) (fun _ _ _ h => h) (Or.inr ⟨by kernel_rfl, rfl⟩) (by assumption) ?_
              try simp only [Act.put, List.getElem_toArray, List.getElem_cons_zero, List.getElem_cons_succ, List.setIfInBounds_toArray, List.set_cons_zero, List.set_cons_succ]
              refine wpAnyH_take (i := 21) (v := undef) rfl (by kernel_rfl) (by kernel_rfl) (by kernel_rfl) (fun _ _ _ h => h) (Or.inr ⟨by kernel_rfl, rfl⟩) (by assumption) ?_
              try simp only [Act.put, List.getElem_toArray, List.getElem_cons_zero, List.getElem_cons_succ, List.setIfInBounds_toArray, List.set_cons_zero, List.set_cons_succ]
              refine wpAnyH_take (i := 22) (v := ?v22) rfl (by kernel_rfl) (by kernel_rfl) (by kernel_rfl) (fun _ _ _ h => h) (Or.inl ⟨by rfl, ?hy22⟩) (by assumption) ?rest23
              case hy22 => ((intro w hSw; (try dsimp only at hSw); go_simp) <;> with_reducible rfl)
              case rest23 =>
              try simp only [Act.put, List.getElem_toArray, List.getElem_cons_zero, List.getElem_cons_succ, List.setIfInBounds_toArray, List.set_cons_zero, List.set_cons_succ]
              refine wpAnyH_take (i := 23) (v := ?v23) rfl (by kernel_rfl) (by kernel_rfl) (by kernel_rfl) (fun _ _ _ h => h) (Or.inl ⟨by rfl, ?hy23⟩) (by assumption) ?rest24
              case hy23 => ((intro w hSw; (try dsimp only at hSw); go_simp) <;> with_reducible rfl)
              case rest24 =>
              try simp only [Act.put, List.getElem_toArray, List.getElem_cons_zero, List.getElem_cons_succ, List.setIfInBounds_toArray, List.set_cons_zero, List.set_cons_succ]
              refine wpAnyH_ready (rs := [24]) (by kernel_rfl) (by simp) ?_
              refine AllReadyH.cons rfl (fun K hK => ?_) AllReadyH.nil
              go_simp
              refine hK.out _ _ ?hS25 (fun hHeld2 => ?rest25)
              case hS25 => first | (dsimp only; (trivial)) | (trivial)
              case rest25 =>
              clear hK K
              try clear hHeld
              have hHeld := hHeld2
              clear hHeld2
              try simp only [Act.put, List.getElem_toArray, List.getElem_cons_zero, List.getElem_cons_succ, List.setIfInBounds_toArray, List.set_cons_zero, List.set_cons_succ]
              refine wpAnyH_done (by kernel_rfl) ?_ _
              go_wp2
              go_roundw
              case rel =>
                have h9 := punhide (HS0 _) hR9 hN9
                exact ⟨0 + 1, by go_num, by omega, h9.1, h9.2, hB9.setCell hgn _⟩
              case measure => simp [intOf] <;> omega
            · obtain ⟨j, rfl⟩ : ∃ j, k = j + 1 := ⟨k - 1, by omega⟩
              have hjm : j < m := by omega
              have hja : j < a.length := by omega
              have hp1 := Pm.pre_one l a i j hil hja h5
              have cj := hR.cell (i := j) (by omega)
              obtain ⟨p, hp⟩ : ∃ p, Pm.pre l a i j = p := ⟨_, rfl⟩
              obtain ⟨t, ht⟩ : ∃ t, l[i]'hil = t := ⟨_, rfl⟩
              obtain ⟨x, hx⟩ : ∃ x, a[j]'hja = x := ⟨_, rfl⟩
              have HPT := phide (punhide HCL t (by rw [← ht]; exact List.getElem_mem _))
              have HPX := phide (punhide HPL x (by rw [← hx]; exact List.getElem_mem _))
              have HC : Hid (∀ W, Below w.heap.size w W → (W.cell? ⟨lb, lo + i * 3, none⟩ = some (.int .i64 t.k) ∧ W.cell? ⟨lb, lo + i * 3 + 1, none⟩ = some (.string t.s) ∧ W.cell? ⟨lb, lo + i * 3 + 2, none⟩ = some (.int .i64 t.n)) ∧ (W.cell? ⟨ab, ao + j * 3, none⟩ = some (.int .i64 x.k) ∧ W.cell? ⟨ab, ao + j * 3 + 1, none⟩ = some (.string x.s) ∧ W.cell? ⟨ab, ao + j * 3 + 2, none⟩ = some (.int .i64 x.n))) :=
                phide (fun W hB => by
                  have k1 := punhide HL W hB i hil
                  have k2 := punhide HA W hB j hja
                  rw [ht] at k1
                  rw [hx] at k2
                  exact ⟨k1, k2⟩)
              rw [hp] at hp1 cj
              rw [ht] at c0 c1 c2 h5 hp1
              rw [hx] at hp1
              have d5 : (t.k == 5) = false := beq_eq_false_iff_ne.2 h5
              have hR9 := hR.drew
              have hN9 := hN.drew
              have hB9 := hB.drew
              have nk9 := hN9.cell (i := j + 1) (by omega)
              have fk9 := hN9.frozen (j + 1)
              rw [if_neg (by omega)] at nk9
              have hkj : ((j + 1 : Nat) : Int) = (j : Int) + 1 := by omega
              have d0 : decide (0 < (j : Int) + 1) = true := decide_eq_true (by omega)
              have hwj : IntKind.i64.wrap ((j : Int) + 1 - 1) = (j : Int) := by rw [IntKind.wrap_i64]; omega
              have hj1 : (j : Int) + 1 - 1 = (j : Int) := by omega
              have hwj2 : IntKind.i64.wrap (j : Int) = (j : Int) := by rw [IntKind.wrap_i64]; omega
              have i1 : (j : Int) < (m : Int) + 1 := by omega
              have i2 : (j : Int) + 1 < (m : Int) + 1 := by omega
              have i3 : (j : Int) < (m : Int) := by omega
              have i4 : (i : Int) < (n : Int) := by omega
              have hne' := hne
              have hpj : Pm.pre l a i j = p := hp
              clear hwk hp0 hn hm HQ HL HA HCL HPL ht hx hR hN hB nk fk ck hp hz
              cases p
              · have HS0 := HS false (by rw [hp1]; rfl)
                clear HS hp1 HC HPT HPX h5
                go_wp2_with fail
                refine wp_region_held_drew (S := fun w' => w'.cell? ⟨gr, j, none⟩ = some (.bool false)) (by kernel_rfl) ?hS0 (fun hHeld => ?rest0)
                case hS0 => first | (dsimp only; (first | exact cj | exact (World.cell?_setCell_other _ _ _ _ (fun e => hne' (Addr.mk.inj e).1.symm)).trans cj)) | (first | exact cj | exact (World.cell?_setCell_other _ _ _ _ (fun e => hne' (Addr.mk.inj e).1.symm)).trans cj)
                case rest0 =>
                refine wpAnyH_take (i := 0) (v := .slice (some ⟨gn, 0, none⟩) (m + 1) (m + 1)) rfl (by kernel_rfl) (by kernel_rfl) (by kernel_rfl) (fun _ _ _ h => h) (Or.inl ⟨by rfl, ?hy0⟩) (by assumption) ?rest1
                case hy0 => ((intro w hSw; (try dsimp only at hSw); go_simp) <;> (first | with_reducible rfl | exact hwj2 | (intro h9; exfalso; omega)))
                case rest1 =>
                try simp only [Act.put, List.getElem_toArray, List.getElem_cons_zero, List.getElem_cons_succ, List.setIfInBounds_toArray, List.set_cons_zero, List.set_cons_succ]
                refine wpAnyH_take (i := 1) (v := .int .i64 ((j : Int) + 1)) rfl (by kernel_rfl) (by kernel_rfl) (by kernel_rfl) (fun _ _ _ h => h) (Or.inl ⟨by rfl, ?hy1⟩) (by assumption) ?rest2
                case hy1 => ((intro w hSw; (try dsimp only at hSw); go_simp) <;> (first | with_reducible rfl | exact hwj2 | (intro h9; exfalso; omega)))
                case rest2 =>
                try simp only [Act.put, List.getElem_toArray, List.getElem_cons_zero, List.getElem_cons_succ, List.setIfInBounds_toArray, List.set_cons_zero, List.set_cons_succ]
                refine wpAnyH_take (i := 2) (v := .int .i64 ((j : Int) + 1)) rfl (by kernel_rfl) (by kernel_rfl) (by kernel_rfl) (fun _ _ _ h => h) (Or.inl ⟨by rfl, ?hy2⟩) (by assumption) ?rest3
                case hy2 => ((intro w hSw; (try dsimp only at hSw); go_simp) <;> (first | with_reducible rfl | exact hwj2 | (intro h9; exfalso; omega)))
                case rest3 =>
                try simp only [Act.put, List.getElem_toArray, List.getElem_cons_zero, List.getElem_cons_succ, List.setIfInBounds_toArray, List.set_cons_zero, List.set_cons_succ]
                refine wpAnyH_take (i := 3) (v := .bool true) rfl (by kernel_rfl) (by kernel_rfl) (by kernel_rfl) (fun _ _ _ h => h) (Or.inl ⟨by rfl, ?hy3⟩) (by assumption) ?rest4
                case hy3 => ((intro w hSw; (try dsimp only at hSw); go_simp) <;> (first | with_reducible rfl | exact hwj2 | (intro h9; exfalso; omega)))
                case rest4 =>
                try simp only [Act.put, List.getElem_toArray, List.getElem_cons_zero, List.getElem_cons_succ, List.setIfInBounds_toArray, List.set_cons_zero, List.set_cons_succ]
                refine wpAnyH_take (i := 4) (v := .bool true) rfl (by kernel_rfl) (by kernel_rfl) (by kernel_rfl) (fun _ _ _ h => h) (Or.inl ⟨by rfl, ?hy4⟩) (by assumption) ?rest5
                case hy4 => ((intro w hSw; (try dsimp only at hSw); go_simp) <;> (first | with_reducible rfl | exact hwj2 | (intro h9; exfalso; omega)))
                case rest5 =>
                try simp only [Act.put, List.getElem_toArray, List.getElem_cons_zero, List.getElem_cons_succ, List.setIfInBounds_toArray, List.set_cons_zero, List.set_cons_succ]
                refine wpAnyH_take (i := 5) (v := .slice (some ⟨gr, 0, none⟩) (m + 1) (m + 1)) rfl (by kernel_rfl) (by kernel_rfl) (by kernel_rfl) (fun _ _ _ h => h) (Or.inl ⟨by rfl, ?hy5⟩) (by assumption) ?rest6
                case hy5 => ((intro w hSw; (try dsimp only at hSw); go_simp) <;> (first | with_reducible rfl | exact hwj2 | (intro h9; exfalso; omega)))
                case rest6 =>
                try simp only [Act.put, List.getElem_toArray, List.getElem_cons_zero, List.getElem_cons_succ, List.setIfInBounds_toArray, List.set_cons_zero, List.set_cons_succ]
                refine wpAnyH_take (i := 6) (v := .int .i64 ((j : Int) + 1)) rfl (by kernel_rfl) (by kernel_rfl) (by kernel_rfl) (fun _ _ _ h => h) (Or.inl ⟨by rfl, ?hy6⟩) (by assumption) ?rest7
                case hy6 => ((intro w hSw; (try dsimp only at hSw); go_simp) <;> (first | with_reducible rfl | exact hwj2 | (intro h9; exfalso; omega)))
                case rest7 =>
                try simp only [Act.put, List.getElem_toArray, List.getElem_cons_zero, List.getElem_cons_succ, List.setIfInBounds_toArray, List.set_cons_zero, List.set_cons_succ]
                refine wpAnyH_take (i := 7) (v := .int .i64 (j : Int)) rfl (by kernel_rfl) (by kernel_rfl) (by kernel_rfl) (fun _ _ _ h => h) (Or.inl ⟨by rfl, ?hy7⟩) (by assumption) ?rest8
                case hy7 => ((intro w hSw; (try dsimp only at hSw); go_simp) <;> (first | with_reducible rfl | exact hwj2 | (intro h9; exfalso; omega)))
                case rest8 =>
                try simp only [Act.put, List.getElem_toArray, List.getElem_cons_zero, List.getElem_cons_succ, List.setIfInBounds_toArray, List.set_cons_zero, List.set_cons_succ]
                refine wpAnyH_take (i := 8) (v := .pointer (some ⟨gr, j, none⟩)) rfl (by kernel_rfl) (by kernel_rfl) (by kernel_rfl) (fun _ _ _ h => h) (Or.inl ⟨by rfl, ?hy8⟩) (by assumption) ?rest9
                case hy8 => ((intro w hSw; (try dsimp only at hSw); go_simp) <;> (first | with_reducible rfl | exact hwj2 | (intro h9; exfalso; omega)))
                case rest9 =>
                try simp only [Act.put, List.getElem_toArray, List.getElem_cons_zero, List.getElem_cons_succ, List.setIfInBounds_toArray, List.set_cons_zero, List.set_cons_succ]
                refine wpAnyH_take (i := 9) (v := .bool false) rfl (by kernel_rfl) (by kernel_rfl) (by kernel_rfl) (fun _ _ _ h => h) (Or.inl ⟨by rfl, ?hy9⟩) (by assumption) ?rest10
                case hy9 => ((intro w hSw; (try dsimp only at hSw); go_simp) <;> (first | with_reducible rfl | exact hwj2 | (intro h9; exfalso; omega)))
                case rest10 =>
                try simp only [Act.put, List.getElem_toArray, List.getElem_cons_zero, List.getElem_cons_succ, List.setIfInBounds_toArray, List.set_cons_zero, List.set_cons_succ]
                refine wpAnyH_take (i := 10) (v := .bool false) rfl (by kernel_rfl) (by kernel_rfl) (by kernel_rfl) (fun _ _ _ h => h) (Or.inl ⟨by rfl, ?hy10⟩) (by assumption) ?rest11
                case hy10 => ((intro w hSw; (try dsimp only at hSw); go_simp) <;> (first | with_reducible rfl | exact hwj2 | (intro h9; exfalso; omega)))
                case rest11 =>
                try simp only [Act.put, List.getElem_toArray, List.getElem_cons_zero, List.getElem_cons_succ, List.setIfInBounds_toArray, List.set_cons_zero, List.set_cons_succ]
                refine wpAnyH_take (i := 11) (v := .bool false) rfl (by kernel_rfl) (by kernel_rfl) (by kernel_rfl) (fun _ _ _ h => h) (Or.inl ⟨by rfl, ?hy11⟩) (by assumption) ?rest12
                case hy11 => ((intro w hSw; (try dsimp only at hSw); go_simp) <;> (first | with_reducible rfl | exact hwj2 | (intro h9; exfalso; omega)))
                case rest12 =>
                try simp only [Act.put, List.getElem_toArray, List.getElem_cons_zero, List.getElem_cons_succ, List.setIfInBounds_toArray, List.set_cons_zero, List.set_cons_succ]
                refine wpAnyH_take (i := 12) (v := undef) rfl (by kernel_rfl) (by kernel_rfl) (by kernel_rfl) (fun _ _ _ h => h) (Or.inr ⟨by kernel_rfl, rfl⟩) (by assumption) ?_
                try simp only [Act.put, List.getElem_toArray, List.getElem_cons_zero, List.getElem_cons_succ, List.setIfInBounds_toArray, List.set_cons_zero, List.set_cons_succ]
                refine wpAnyH_take (i := 13) (v := undef) rfl (by kernel_rfl) (by kernel_rfl) (by kernel_rfl) (fun _ _ _ h => h) (Or.inr ⟨by kernel_rfl, rfl⟩) (by assumption) ?_
                try simp only [Act.put, List.getElem_toArray, List.getElem_cons_zero, List.getElem_cons_succ, List.setIfInBounds_toArray, List.set_cons_zero, List.set_cons_succ]
                refine wpAnyH_take (i := 14) (v := undef) rfl (by kernel_rfl) (by kernel_rfl) (by kernel_rfl) (fun _ _ _ h => h) (Or.inr ⟨by kernel_rfl, rfl⟩) (by assumption) ?_
                try simp only [Act.put, List.getElem_toArray, List.getElem_cons_zero, List.getElem_cons_succ, List.setIfInBounds_toArray, List.set_cons_zero, List.set_cons_succ]
                refine wpAnyH_take (i := 15) (v := undef) rfl (by kernel_rfl) (by kernel_rfl) (by kernel_rfl) (fun _ _ _ h => h) (Or.inr ⟨by kernel_rfl, rfl⟩) (by assumption) ?_
                try simp only [Act.put, List.getElem_toArray, List.getElem_cons_zero, List.getElem_cons_succ, List.setIfInBounds_toArray, List.set_cons_zero, List.set_cons_succ]
                refine wpAnyH_take (i := 16) (v := undef) rfl (by kernel_rfl) (by kernel_rfl) (by kernel_rfl) (fun _ _ _ h => h) (Or.inr ⟨by kernel_rfl, rfl⟩) (by assumption) ?_
                try simp only [Act.put, List.getElem_toArray, List.getElem_cons_zero, List.getElem_cons_succ, List.setIfInBounds_toArray, List.set_cons_zero, List.set_cons_succ]
                refine wpAnyH_take (i := 17) (v := undef) rfl (by kernel_rfl) (by kernel_rfl) (by kernel_rfl) (fun _ _ _ h => h) (Or.inr ⟨by kernel_rfl, rfl⟩) (by assumption) ?_
                try simp only [Act.put, List.getElem_toArray, List.getElem_cons_zero, List.getElem_cons_succ, List.setIfInBounds_toArray, List.set_cons_zero, List.set_cons_succ]
                refine wpAnyH_take (i := 18) (v := undef) rfl (by kernel_rfl) (by kernel_rfl) (by kernel_rfl) (fun _ _ _ h => h) (Or.inr ⟨by kernel_rfl, rfl⟩) (by assumption) ?_
                try simp only [Act.put, List.getElem_toArray, List.getElem_cons_zero, List.getElem_cons_succ, List.setIfInBounds_toArray, List.set_cons_zero, List.set_cons_succ]
                refine wpAnyH_take (i := 19) (v := undef) rfl (by kernel_rfl) (by kernel_rfl) (by kernel_rfl) (fun _ _ _ h => h) (Or.inr ⟨by kernel_rfl, rfl⟩) (by assumption) ?_
                try simp only [Act.put, List.getElem_toArray, List.getElem_cons_zero, List.getElem_cons_succ, List.setIfInBounds_toArray, List.set_cons_zero, List.set_cons_succ]
                refine wpAnyH_take (i := 20) (v := undef) rfl (by kernel_rfl) (by kernel_rfl) (by kernel_rfl) (fun _ _ _ h => h) (Or.inr ⟨by kernel_rfl, rfl⟩) (by assumption) ?_
                try simp only [Act.put, List.getElem_toArray, List.getElem_cons_zero, List.getElem_cons_succ, List.setIfInBounds_toArray, List.set_cons_zero, List.set_cons_succ]
                refine wpAnyH_take (i := 21) (v := undef) rfl (by kernel_rfl) (by kernel_rfl) (by kernel_rfl) (fun _ _ _ h => h) (Or.inr ⟨by kernel_rfl, rfl⟩) (by assumption) ?_
                try simp only [Act.put, List.getElem_toArray, List.getElem_cons_zero, List.getElem_cons_succ, List.setIfInBounds_toArray, List.set_cons_zero, List.set_cons_succ]
                refine wpAnyH_take (i := 22) (v := .bool false) rfl (by kernel_rfl) (by kernel_rfl) (by kernel_rfl) (fun _ _ _ h => h) (Or.inl ⟨by rfl, ?hy22⟩) (by assumption) ?rest23
                case hy22 => ((intro w hSw; (try dsimp only at hSw); go_simp) <;> (first | with_reducible rfl | exact hwj2 | (intro h9; exfalso; omega)))
                case rest23 =>
                try simp only [Act.put, List.getElem_toArray, List.getElem_cons_zero, List.getElem_cons_succ, List.setIfInBounds_toArray, List.set_cons_zero, List.set_cons_succ]
                refine wpAnyH_take (i := 23) (v := .pointer (some ⟨gn, j + 1, none⟩)) rfl (by kernel_rfl) (by kernel_rfl) (by kernel_rfl) (fun _ _ _ h => h) (Or.inl ⟨by rfl, ?hy23⟩) (by assumption) ?rest24
                case hy23 => ((intro w hSw; (try dsimp only at hSw); go_simp) <;> (first | with_reducible rfl | exact hwj2 | (intro h9; exfalso; omega)))
                case rest24 =>
                try simp only [Act.put, List.getElem_toArray, List.getElem_cons_zero, List.getElem_cons_succ, List.setIfInBounds_toArray, List.set_cons_zero, List.set_cons_succ]
                refine wpAnyH_ready (rs := [24]) (by kernel_rfl) (by simp) ?_
                refine AllReadyH.cons rfl (fun K hK => ?_) AllReadyH.nil
                go_simp
                refine hK.out _ _ ?hS25 (fun hHeld2 => ?rest25)
                case hS25 => first | (dsimp only; (first | exact cj | exact (World.cell?_setCell_other _ _ _ _ (fun e => hne' (Addr.mk.inj e).1.symm)).trans cj)) | (first | exact cj | exact (World.cell?_setCell_other _ _ _ _ (fun e => hne' (Addr.mk.inj e).1.symm)).trans cj)
                case rest25 =>
                clear hK K
                try clear hHeld
                have hHeld := hHeld2
                clear hHeld2
                try simp only [Act.put, List.getElem_toArray, List.getElem_cons_zero, List.getElem_cons_succ, List.setIfInBounds_toArray, List.set_cons_zero, List.set_cons_succ]
                refine wpAnyH_done (by kernel_rfl) ?_ _
                go_wp2
                go_roundw
                case rel =>
                  have h9 := punhide (HS0 _) hR9 hN9
                  exact ⟨j + 1 + 1, by go_num, by omega, h9.1, h9.2, hB9.setCell hgn _⟩
                case measure => simp [intOf] <;> omega
              · obtain ⟨y, hy⟩ : ∃ y, Pm.leadB t x = y := ⟨_, rfl⟩
                have CO := fun W => rone_any t x y (by rw [Pm.one_lead (punhide HPT) h5 (punhide HPX)]; exact hy) W
                have HS0 := HS y (by rw [hp1, hy]; rfl)
                obtain ⟨tk, ts, tn⟩ := t
                obtain ⟨xk, xs, xn⟩ := x
                unfold valS at CO
                simp only [] at *
                clear HS hp1 HPT HPX h5 hy
                go_wp2_with fail
                refine wp_region_held_drew (S := fun w' => (w'.cell? ⟨gr, j, none⟩ = some (.bool true)) ∧ (w'.cell? ⟨lb, lo + i * 3, none⟩ = some (.int .i64 tk) ∧ w'.cell? ⟨lb, lo + i * 3 + 1, none⟩ = some (.string ts) ∧ w'.cell? ⟨lb, lo + i * 3 + 2, none⟩ = some (.int .i64 tn)) ∧ (w'.cell? ⟨ab, ao + j * 3, none⟩ = some (.int .i64 xk) ∧ w'.cell? ⟨ab, ao + j * 3 + 1, none⟩ = some (.string xs) ∧ w'.cell? ⟨ab, ao + j * 3 + 2, none⟩ = some (.int .i64 xn))) (by kernel_rfl) ?hS0 (fun hHeld => ?rest0)
                case hS0 => first | (dsimp only; (first | exact ⟨cj, punhide HC _ hB9⟩ | exact ⟨cj9, punhide HC _ hB9⟩ | exact ⟨(World.cell?_setCell_other _ _ _ _ (fun e => hne' (Addr.mk.inj e).1.symm)).trans cj9, punhide HC _ (hB9.setCell hgn _)⟩)) | (first | exact ⟨cj, punhide HC _ hB9⟩ | exact ⟨cj9, punhide HC _ hB9⟩ | exact ⟨(World.cell?_setCell_other _ _ _ _ (fun e => hne' (Addr.mk.inj e).1.symm)).trans cj9, punhide HC _ (hB9.setCell hgn _)⟩)
                case rest0 =>
                refine wpAnyH_take (i := 0) (v := .slice (some ⟨gn, 0, none⟩) (m + 1) (m + 1)) rfl (by kernel_rfl) (by kernel_rfl) (by kernel_rfl) (fun _ _ _ h => h) (Or.inl ⟨by rfl, ?hy0⟩) (by assumption) ?rest1
                case hy0 => ((intro w hSw; (try dsimp only at hSw); go_simp) <;> (first | with_reducible rfl | exact hwj2 | (intro h9; exfalso; omega)))
                case rest1 =>
                try simp only [Act.put, List.getElem_toArray, List.getElem_cons_zero, List.getElem_cons_succ, List.setIfInBounds_toArray, List.set_cons_zero, List.set_cons_succ]
                refine wpAnyH_take (i := 1) (v := .int .i64 ((j : Int) + 1)) rfl (by kernel_rfl) (by kernel_rfl) (by kernel_rfl) (fun _ _ _ h => h) (Or.inl ⟨by rfl, ?hy1⟩) (by assumption) ?rest2
                case hy1 => ((intro w hSw; (try dsimp only at hSw); go_simp) <;> (first | with_reducible rfl | exact hwj2 | (intro h9; exfalso; omega)))
                case rest2 =>
                try simp only [Act.put, List.getElem_toArray, List.getElem_cons_zero, List.getElem_cons_succ, List.setIfInBounds_toArray, List.set_cons_zero, List.set_cons_succ]
                refine wpAnyH_take (i := 2) (v := .int .i64 ((j : Int) + 1)) rfl (by kernel_rfl) (by kernel_rfl) (by kernel_rfl) (fun _ _ _ h => h) (Or.inl ⟨by rfl, ?hy2⟩) (by assumption) ?rest3
                case hy2 => ((intro w hSw; (try dsimp only at hSw); go_simp) <;> (first | with_reducible rfl | exact hwj2 | (intro h9; exfalso; omega)))
                case rest3 =>
                try simp only [Act.put, List.getElem_toArray, List.getElem_cons_zero, List.getElem_cons_succ, List.setIfInBounds_toArray, List.set_cons_zero, List.set_cons_succ]
                refine wpAnyH_take (i := 3) (v := .bool true) rfl (by kernel_rfl) (by kernel_rfl) (by kernel_rfl) (fun _ _ _ h => h) (Or.inl ⟨by rfl, ?hy3⟩) (by assumption) ?rest4
                case hy3 => ((intro w hSw; (try dsimp only at hSw); go_simp) <;> (first | with_reducible rfl | exact hwj2 | (intro h9; exfalso; omega)))
                case rest4 =>
                try simp only [Act.put, List.getElem_toArray, List.getElem_cons_zero, List.getElem_cons_succ, List.setIfInBounds_toArray, List.set_cons_zero, List.set_cons_succ]
                refine wpAnyH_take (i := 4) (v := .bool true) rfl (by kernel_rfl) (by kernel_rfl) (by kernel_rfl) (fun _ _ _ h => h) (Or.inl ⟨by rfl, ?hy4⟩) (by assumption) ?rest5
                case hy4 => ((intro w hSw; (try dsimp only at hSw); go_simp) <;> (first | with_reducible rfl | exact hwj2 | (intro h9; exfalso; omega)))
                case rest5 =>
                try simp only [Act.put, List.getElem_toArray, List.getElem_cons_zero, List.getElem_cons_succ, List.setIfInBounds_toArray, List.set_cons_zero, List.set_cons_succ]
                refine wpAnyH_take (i := 5) (v := .slice (some ⟨gr, 0, none⟩) (m + 1) (m + 1)) rfl (by kernel_rfl) (by kernel_rfl) (by kernel_rfl) (fun _ _ _ h => h) (Or.inl ⟨by rfl, ?hy5⟩) (by assumption) ?rest6
                case hy5 => ((intro w hSw; (try dsimp only at hSw); go_simp) <;> (first | with_reducible rfl | exact hwj2 | (intro h9; exfalso; omega)))
                case rest6 =>
                try simp only [Act.put, List.getElem_toArray, List.getElem_cons_zero, List.getElem_cons_succ, List.setIfInBounds_toArray, List.set_cons_zero, List.set_cons_succ]
                refine wpAnyH_take (i := 6) (v := .int .i64 ((j : Int) + 1)) rfl (by kernel_rfl) (by kernel_rfl) (by kernel_rfl) (fun _ _ _ h => h) (Or.inl ⟨by rfl, ?hy6⟩) (by assumption) ?rest7
                case hy6 => ((intro w hSw; (try dsimp only at hSw); go_simp) <;> (first | with_reducible rfl | exact hwj2 | (intro h9; exfalso; omega)))
                case rest7 =>
                try simp only [Act.put, List.getElem_toArray, List.getElem_cons_zero, List.getElem_cons_succ, List.setIfInBounds_toArray, List.set_cons_zero, List.set_cons_succ]
                refine wpAnyH_take (i := 7) (v := .int .i64 (j : Int)) rfl (by kernel_rfl) (by kernel_rfl) (by kernel_rfl) (fun _ _ _ h => h) (Or.inl ⟨by rfl, ?hy7⟩) (by assumption) ?rest8
                case hy7 => ((intro w hSw; (try dsimp only at hSw); go_simp) <;> (first | with_reducible rfl | exact hwj2 | (intro h9; exfalso; omega)))
                case rest8 =>
                try simp only [Act.put, List.getElem_toArray, List.getElem_cons_zero, List.getElem_cons_succ, List.setIfInBounds_toArray, List.set_cons_zero, List.set_cons_succ]
                refine wpAnyH_take (i := 8) (v := .pointer (some ⟨gr, j, none⟩)) rfl (by kernel_rfl) (by kernel_rfl) (by kernel_rfl) (fun _ _ _ h => h) (Or.inl ⟨by rfl, ?hy8⟩) (by assumption) ?rest9
                case hy8 => ((intro w hSw; (try dsimp only at hSw); go_simp) <;> (first | with_reducible rfl | exact hwj2 | (intro h9; exfalso; omega)))
                case rest9 =>
                try simp only [Act.put, List.getElem_toArray, List.getElem_cons_zero, List.getElem_cons_succ, List.setIfInBounds_toArray, List.set_cons_zero, List.set_cons_succ]
                refine wpAnyH_take (i := 9) (v := .bool true) rfl (by kernel_rfl) (by kernel_rfl) (by kernel_rfl) (fun _ _ _ h => h) (Or.inl ⟨by rfl, ?hy9⟩) (by assumption) ?rest10
                case hy9 => ((intro w hSw; (try dsimp only at hSw); go_simp) <;> (first | with_reducible rfl | exact hwj2 | (intro h9; exfalso; omega)))
                case rest10 =>
                try simp only [Act.put, List.getElem_toArray, List.getElem_cons_zero, List.getElem_cons_succ, List.setIfInBounds_toArray, List.set_cons_zero, List.set_cons_succ]
                refine wpAnyH_take (i := 10) (v := .bool true) rfl (by kernel_rfl) (by kernel_rfl) (by kernel_rfl) (fun _ _ _ h => h) (Or.inl ⟨by rfl, ?hy10⟩) (by assumption) ?rest11
                case hy10 => ((intro w hSw; (try dsimp only at hSw); go_simp) <;> (first | with_reducible rfl | exact hwj2 | (intro h9; exfalso; omega)))
                case rest11 =>
                try simp only [Act.put, List.getElem_toArray, List.getElem_cons_zero, List.getElem_cons_succ, List.setIfInBounds_toArray, List.set_cons_zero, List.set_cons_succ]
                refine wpAnyH_take (i := 11) (v := .bool true) rfl (by kernel_rfl) (by kernel_rfl) (by kernel_rfl) (fun _ _ _ h => h) (Or.inl ⟨by rfl, ?hy11⟩) (by assumption) ?rest12
                case hy11 => ((intro w hSw; (try dsimp only at hSw); go_simp) <;> (first | with_reducible rfl | exact hwj2 | (intro h9; exfalso; omega)))
                case rest12 =>
                try simp only [Act.put, List.getElem_toArray, List.getElem_cons_zero, List.getElem_cons_succ, List.setIfInBounds_toArray, List.set_cons_zero, List.set_cons_succ]
                refine wpAnyH_take (i := 12) (v := .slice (some ⟨lb, lo, none⟩) n lc) rfl (by kernel_rfl) (by kernel_rfl) (by kernel_rfl) (fun _ _ _ h => h) (Or.inl ⟨by rfl, ?hy12⟩) (by assumption) ?rest13
                case hy12 => ((intro w hSw; (try dsimp only at hSw); go_simp) <;> (first | with_reducible rfl | exact hwj2 | (intro h9; exfalso; omega)))
                case rest13 =>
                try simp only [Act.put, List.getElem_toArray, List.getElem_cons_zero, List.getElem_cons_succ, List.setIfInBounds_toArray, List.set_cons_zero, List.set_cons_succ]
                refine wpAnyH_take (i := 13) (v := .int .i64 (i : Int)) rfl (by kernel_rfl) (by kernel_rfl) (by kernel_rfl) (fun _ _ _ h => h) (Or.inl ⟨by rfl, ?hy13⟩) (by assumption) ?rest14
                case hy13 => ((intro w hSw; (try dsimp only at hSw); go_simp) <;> (first | with_reducible rfl | exact hwj2 | (intro h9; exfalso; omega)))
                case rest14 =>
                try simp only [Act.put, List.getElem_toArray, List.getElem_cons_zero, List.getElem_cons_succ, List.setIfInBounds_toArray, List.set_cons_zero, List.set_cons_succ]
                refine wpAnyH_take (i := 14) (v := .pointer (some ⟨lb, lo + i * 3, none⟩)) rfl (by kernel_rfl) (by kernel_rfl) (by kernel_rfl) (fun _ _ _ h => h) (Or.inl ⟨by rfl, ?hy14⟩) (by assumption) ?rest15
                case hy14 => ((intro w hSw; (try dsimp only at hSw); go_simp) <;> (first | with_reducible rfl | exact hwj2 | (intro h9; exfalso; omega)))
                case rest15 =>
                try simp only [Act.put, List.getElem_toArray, List.getElem_cons_zero, List.getElem_cons_succ, List.setIfInBounds_toArray, List.set_cons_zero, List.set_cons_succ]
                refine wpAnyH_take (i := 15) (v := .agg #[.int .i64 tk, .string ts, .int .i64 tn]) rfl (by kernel_rfl) (by kernel_rfl) (by kernel_rfl) (fun _ _ _ h => h) (Or.inl ⟨by rfl, ?hy15⟩) (by assumption) ?rest16
                case hy15 => ((intro w hSw; (try dsimp only at hSw); go_simp) <;> (first | with_reducible rfl | exact hwj2 | (intro h9; exfalso; omega)))
                case rest16 =>
                try simp only [Act.put, List.getElem_toArray, List.getElem_cons_zero, List.getElem_cons_succ, List.setIfInBounds_toArray, List.set_cons_zero, List.set_cons_succ]
                refine wpAnyH_take (i := 16) (v := .slice (some ⟨ab, ao, none⟩) m ac) rfl (by kernel_rfl) (by kernel_rfl) (by kernel_rfl) (fun _ _ _ h => h) (Or.inl ⟨by rfl, ?hy16⟩) (by assumption) ?rest17
                case hy16 => ((intro w hSw; (try dsimp only at hSw); go_simp) <;> (first | with_reducible rfl | exact hwj2 | (intro h9; exfalso; omega)))
                case rest17 =>
                try simp only [Act.put, List.getElem_toArray, List.getElem_cons_zero, List.getElem_cons_succ, List.setIfInBounds_toArray, List.set_cons_zero, List.set_cons_succ]
                refine wpAnyH_take (i := 17) (v := .int .i64 ((j : Int) + 1)) rfl (by kernel_rfl) (by kernel_rfl) (by kernel_rfl) (fun _ _ _ h => h) (Or.inl ⟨by rfl, ?hy17⟩) (by assumption) ?rest18
                case hy17 => ((intro w hSw; (try dsimp only at hSw); go_simp) <;> (first | with_reducible rfl | exact hwj2 | (intro h9; exfalso; omega)))
                case rest18 =>
                try simp only [Act.put, List.getElem_toArray, List.getElem_cons_zero, List.getElem_cons_succ, List.setIfInBounds_toArray, List.set_cons_zero, List.set_cons_succ]
                refine wpAnyH_take (i := 18) (v := .int .i64 (j : Int)) rfl (by kernel_rfl) (by kernel_rfl) (by kernel_rfl) (fun _ _ _ h => h) (Or.inl ⟨by rfl, ?hy18⟩) (by assumption) ?rest19
                case hy18 => ((intro w hSw; (try dsimp only at hSw); go_simp) <;> (first | with_reducible rfl | exact hwj2 | (intro h9; exfalso; omega)))
                case rest19 =>
                try simp only [Act.put, List.getElem_toArray, List.getElem_cons_zero, List.getElem_cons_succ, List.setIfInBounds_toArray, List.set_cons_zero, List.set_cons_succ]
                refine wpAnyH_take (i := 19) (v := .pointer (some ⟨ab, ao + j * 3, none⟩)) rfl (by kernel_rfl) (by kernel_rfl) (by kernel_rfl) (fun _ _ _ h => h) (Or.inl ⟨by rfl, ?hy19⟩) (by assumption) ?rest20
                case hy19 => ((intro w hSw; (try dsimp only at hSw); go_simp) <;> (first | with_reducible rfl | exact hwj2 | (intro h9; exfalso; omega)))
                case rest20 =>
                try simp only [Act.put, List.getElem_toArray, List.getElem_cons_zero, List.getElem_cons_succ, List.setIfInBounds_toArray, List.set_cons_zero, List.set_cons_succ]
                refine wpAnyH_take (i := 20) (v := .agg #[.int .i64 xk, .string xs, .int .i64 xn]) rfl (by kernel_rfl) (by kernel_rfl) (by kernel_rfl) (fun _ _ _ h => h) (Or.inl ⟨by rfl, ?hy20⟩) (by assumption) ?rest21
                case hy20 => ((intro w hSw; (try dsimp only at hSw); go_simp) <;> (first | with_reducible rfl | exact hwj2 | (intro h9; exfalso; omega)))
                case rest21 =>
                try simp only [Act.put, List.getElem_toArray, List.getElem_cons_zero, List.getElem_cons_succ, List.setIfInBounds_toArray, List.set_cons_zero, List.set_cons_succ]
                refine wpAnyH_ready (rs := [21]) (by kernel_rfl) (by simp) ?_
                refine AllReadyH.cons rfl (fun K hK => ?_) AllReadyH.nil
                go_simp
                go_at_call 22; refine (CO _).mono ?_; rintro e9 w2 ⟨rfl, b9⟩
                have hR10 := hR9.of_block (b9.block _ hR9.lt)
                have hN10 := hN9.of_block (b9.block _ hN9.lt)
                have hB10 := hB9.trans (b9.mono hB9.size)
                clear nk9 fk9 hR9 hN9 hB9 b9
                have hR9 := hR10
                have hN9 := hN10
                have hB9 := hB10
                have cj9 := hR9.cell (i := j) (by omega)
                rw [hpj] at cj9
                have nk9 := hN9.cell (i := j + 1) (by omega)
                have fk9 := hN9.frozen (j + 1)
                rw [if_neg (by omega)] at nk9
                clear hR10 hN10 hB10
                refine hK.out _ _ ?hS22 (fun hHeld2 => ?rest22)
                case hS22 => first | (dsimp only; (first | exact ⟨cj, punhide HC _ hB9⟩ | exact ⟨cj9, punhide HC _ hB9⟩ | exact ⟨(World.cell?_setCell_other _ _ _ _ (fun e => hne' (Addr.mk.inj e).1.symm)).trans cj9, punhide HC _ (hB9.setCell hgn _)⟩)) | (first | exact ⟨cj, punhide HC _ hB9⟩ | exact ⟨cj9, punhide HC _ hB9⟩ | exact ⟨(World.cell?_setCell_other _ _ _ _ (fun e => hne' (Addr.mk.inj e).1.symm)).trans cj9, punhide HC _ (hB9.setCell hgn _)⟩)
                case rest22 =>
                clear hK K
                try clear hHeld
                have hHeld := hHeld2
                clear hHeld2
                try simp only [Act.put, List.getElem_toArray, List.getElem_cons_zero, List.getElem_cons_succ, List.setIfInBounds_toArray, List.set_cons_zero, List.set_cons_succ]
                refine wpAnyH_take (i := 22) (v := .bool y) rfl (by kernel_rfl) (by kernel_rfl) (by kernel_rfl) (fun _ _ _ h => h) (Or.inl ⟨by rfl, ?hy22⟩) (by assumption) ?rest23
                case hy22 => ((intro w hSw; (try dsimp only at hSw); go_simp) <;> (first | with_reducible rfl | exact hwj2 | (intro h9; exfalso; omega)))
                case rest23 =>
                try simp only [Act.put, List.getElem_toArray, List.getElem_cons_zero, List.getElem_cons_succ, List.setIfInBounds_toArray, List.set_cons_zero, List.set_cons_succ]
                refine wpAnyH_take (i := 23) (v := .pointer (some ⟨gn, j + 1, none⟩)) rfl (by kernel_rfl) (by kernel_rfl) (by kernel_rfl) (fun _ _ _ h => h) (Or.inl ⟨by rfl, ?hy23⟩) (by assumption) ?rest24
                case hy23 => ((intro w hSw; (try dsimp only at hSw); go_simp) <;> (first | with_reducible rfl | exact hwj2 | (intro h9; exfalso; omega)))
                case rest24 =>
                try simp only [Act.put, List.getElem_toArray, List.getElem_cons_zero, List.getElem_cons_succ, List.setIfInBounds_toArray, List.set_cons_zero, List.set_cons_succ]
                refine wpAnyH_ready (rs := [24]) (by kernel_rfl) (by simp) ?_
                refine AllReadyH.cons rfl (fun K hK => ?_) AllReadyH.nil
                go_simp
                refine hK.out _ _ ?hS25 (fun hHeld2 => ?rest25)
                case hS25 => first | (dsimp only; (first | exact ⟨cj, punhide HC _ hB9⟩ | exact ⟨cj9, punhide HC _ hB9⟩ | exact ⟨(World.cell?_setCell_other _ _ _ _ (fun e => hne' (Addr.mk.inj e).1.symm)).trans cj9, punhide HC _ (hB9.setCell hgn _)⟩)) | (first | exact ⟨cj, punhide HC _ hB9⟩ | exact ⟨cj9, punhide HC _ hB9⟩ | exact ⟨(World.cell?_setCell_other _ _ _ _ (fun e => hne' (Addr.mk.inj e).1.symm)).trans cj9, punhide HC _ (hB9.setCell hgn _)⟩)
                case rest25 =>
                clear hK K
                try clear hHeld
                have hHeld := hHeld2
                clear hHeld2
                try simp only [Act.put, List.getElem_toArray, List.getElem_cons_zero, List.getElem_cons_succ, List.setIfInBounds_toArray, List.set_cons_zero, List.set_cons_succ]
                refine wpAnyH_done (by kernel_rfl) ?_ _
                go_wp2
                go_roundw
                case rel =>
                  have h9 := punhide (HS0 _) hR9 hN9
                  exact ⟨j + 1 + 1, by go_num, by omega, h9.1, h9.2, hB9.setCell hgn _⟩
                case measure => simp [intOf] <;> omega
        · have hk2 : k = m + 1 := by omega
          have dk : decide ((k : Int) ≤ (m : Int)) = false := decide_eq_false (by omega)
          have hN2 := hN.congr (g := fun j => .bool (Pm.pre l a (i + 1) j)) (fun j hj => by rw [if_pos (by omega)])
          clear hR hN HQ HL HA HCL HPL hn hm hmk hk2
          go_wp2
          go_roundw
          case rel => exact ⟨i + 1, gn, by go_num, rfl, by omega, hgn, hN2, hB⟩
          case measure => simp [intOf] <;> omega
    · have hie : i = n := by omega
      have HF : Hid (Pm.pre l a i m = q) := phide (by rw [hie]; exact punhide HQ)
      have km := hR.cell (i := m) (by omega)
      have d1 : decide ((i : Int) < (n : Int)) = false := decide_eq_false (by omega)
      clear HQ HL HA HCL HPL hn hm hmk hie
      go_wp2
      go_ret
      exact ⟨ret_b (punhide HF).symm, hB⟩
end Go.Proofs.YtomhgafpjpnmdaaGreatDoor
