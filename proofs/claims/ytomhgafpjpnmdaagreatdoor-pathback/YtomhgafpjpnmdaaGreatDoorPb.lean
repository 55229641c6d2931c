/- What is proved here: what Match of package path does with two rows of steps that lie, walked; conditions: as the theorem states. Written by match_gen.py. -/
import Derived.Test.YtomhgafpjpnmdaaGreatDoorPa
import Derived.OwnWalk
import Derived.Deep.DeepCutAuto
import Derived.Deep.CutRange
import Derived.Deep.CutBlock
import Derived.Deep.RegionWith
namespace Go.Proofs.YtomhgafpjpnmdaaGreatDoor
open Go.RowKit
set_option linter.unusedVariables false
set_option linter.unusedSimpArgs false

set_option maxRecDepth 100000 in
set_option maxHeartbeats 8000000 in
theorem match_any (lb lo lc ab ao ac n m : Nat) (l a : List Pm.St) (hn : l.length = n) (hm : a.length = m) (hn2 : n ≤ 1000) (hm2 : m ≤ 1000) (q : Bool) (hq : Pm.mt l a = q) (w : World) (hrl : RowSt w lb lo l) (hra : RowSt w ab ao a) :
    Calls Tryz.prog 11 #[.slice (some ⟨lb, lo, none⟩) n lc, .slice (some ⟨ab, ao, none⟩) m ac] w fun e w' => e = .returned (.bool q) ∧ Below w.heap.size w w' := by
  have HQ := phide hq
  have HL : Hid (∀ W, Below w.heap.size w W → ∀ i, ∀ h : i < l.length, StepAt W lb (lo + i * 3) (l[i]'h)) := phide (fun W hB => (hrl.step hB).2)
  have HA : Hid (∀ W, Below w.heap.size w W → ∀ i, ∀ h : i < a.length, StepAt W ab (ao + i * 3) (a[i]'h)) := phide (fun W hB => (hra.step hB).2)
  clear hq hrl hra
  go_enter Tryz.func11, Tryz.ntmps11
  go_wp2
  go_loopw [5, 6, 7, 8] (fun vi vj vd ve wr => ∃ i j d e : Nat, vi = .int .i64 (i : Int) ∧ vj = .int .i64 (j : Int) ∧ vd = .int .i64 (d : Int) ∧ ve = .int .i64 (e : Int) ∧ Hid (Pm.Inv l a i j d e) ∧ Below w.heap.size w wr) (fun _ vj vd ve _ => Pm.left n m (intOf vd).toNat (intOf ve).toNat (intOf vj).toNat)
  case atStart => exact ⟨0, 0, 0, 0, rfl, rfl, rfl, rfl, phide (Pm.Inv.start l a), Below.refl _ _⟩
  case round =>
    obtain ⟨i, j, d, e, rfl, rfl, rfl, rfl, HI, hB⟩ := hrel
    have hil : i ≤ n := by have := (punhide HI).1; omega
    have hjm : j ≤ m := by have := (punhide HI).2.1; omega
    have hdi : d ≤ i := by
      by_cases h0 : d = 0
      · omega
      · exact ((punhide HI).2.2.2 (by omega)).1
    have hej : e ≤ j := by
      by_cases h0 : d = 0
      · have := ((punhide HI).2.2.1 h0).1; omega
      · exact ((punhide HI).2.2.2 (by omega)).2.1
    by_cases hj : j < m
    · have hja : j < a.length := by omega
      by_cases hi : i < n
      · have hia : i < l.length := by omega
        obtain ⟨c0, c1, c2⟩ := punhide HL _ hB i hia
        obtain ⟨x0, x1, x2⟩ := punhide HA _ hB j hja
        by_cases h5 : (l[i]'hia).k = 5
        · have HI2 := phide ((punhide HI).deep hia h5)
          have hmeas := Pm.left_deep (L := n) (N := m) hdi hi hej
          rw [h5] at c0
          clear c1 c2 x0 x1 x2 h5 hil hjm hej hn hm
          go_wp2
          go_roundw
          case rel => exact ⟨i + 1, j, i + 1, j, by go_num, rfl, by go_num, rfl, HI2, hB⟩
          case measure => simp [intOf]; (first | exact hmeas | (have e1 : ((i : Int) + 1).toNat = i + 1 := by omega; simpa [e1] using hmeas))
        · obtain ⟨t, ht⟩ : ∃ t, l[i]'hia = t := ⟨_, rfl⟩
          obtain ⟨x, hx⟩ : ∃ x, a[j]'hja = x := ⟨_, rfl⟩
          have HY : Hid (Pm.leadB t x = true → Pm.Inv l a (i + 1) (j + 1) d e) := phide (fun h => (punhide HI).yes hia hja h5 (by rw [ht, hx]; exact h))
          have HN : Hid (Pm.leadB t x = false → (d = 0 → q = false) ∧ (0 < d → Pm.Inv l a d (e + 1) d (e + 1))) := phide (fun h => by
            have := (punhide HI).no hja (by rw [Pm.R_yes hia hja h5, ht, hx, h]; rfl)
            rwa [punhide HQ] at this)
          rw [ht] at c0 c1 c2 h5
          rw [hx] at x0 x1 x2
          have d5 : (t.k == 5) = false := beq_eq_false_iff_ne.2 h5
          have hmy := Pm.left_yes (L := n) (d := d) (e := e) hj
          have hmn := Pm.left_no (L := n) (N := m) (d := d) (e := e) (j := j) (show e < m by omega)
          have HC : Hid (∀ W, Below w.heap.size w W → (W.cell? ⟨lb, lo + i * 3, none⟩ = some (.int .i64 t.k) ∧ W.cell? ⟨lb, lo + i * 3 + 1, none⟩ = some (.string t.s) ∧ W.cell? ⟨lb, lo + i * 3 + 2, none⟩ = some (.int .i64 t.n)) ∧ (W.cell? ⟨ab, ao + j * 3, none⟩ = some (.int .i64 x.k) ∧ W.cell? ⟨ab, ao + j * 3 + 1, none⟩ = some (.string x.s) ∧ W.cell? ⟨ab, ao + j * 3 + 2, none⟩ = some (.int .i64 x.n))) :=
            phide (fun W hB => by
              have k1 := punhide HL W hB i hia
              have k2 := punhide HA W hB j hja
              rw [ht] at k1
              rw [hx] at k2
              exact ⟨k1, k2⟩)
          have hS : Below w.heap.size w wr.drew := hB.drew
          have hi' : (i : Int) < (n : Int) := by omega
          have hj' : (j : Int) < (m : Int) := by omega
          obtain ⟨y, hy⟩ : ∃ y, Pm.leadB t x = y := ⟨_, rfl⟩
          rw [hy] at HY HN
          clear hn hm ht hx hia hja HL HA HQ HI c1 c2 x0 x1 x2 h5
          go_wp2_with fail
          go_cut [30] from 9 to 57 (fun v wx => v = .bool y ∧ Below w.heap.size w wx)
          case first =>
            clear HY HN hmy hmn
            by_cases h12 : t.k = 1 ∨ t.k = 2
            · obtain ⟨u, hu⟩ : ∃ u, Pm.bareS t = u := ⟨_, rfl⟩
              have CL := fun W => leads_1 t u h12 hu W
              have CW : ∀ g W, StepAt W g 0 u → g < W.heap.size → _ := fun g W h1 h2 => want_any t u x g y (by rw [← hy, ← hu]; unfold Pm.leadB; rw [if_pos h12]) W h1 h2
              obtain ⟨tk, ts, tn⟩ := t
              obtain ⟨xk, xs, xn⟩ := x
              unfold valS at *
              simp only [] at *
              clear hy hu h12 hi hj
              go_region_held3 (fun w' => (w'.cell? ⟨lb, lo + i * 3, none⟩ = some (.int .i64 tk) ∧ w'.cell? ⟨lb, lo + i * 3 + 1, none⟩ = some (.string ts) ∧ w'.cell? ⟨lb, lo + i * 3 + 2, none⟩ = some (.int .i64 tn)) ∧ (w'.cell? ⟨ab, ao + j * 3, none⟩ = some (.int .i64 xk) ∧ w'.cell? ⟨ab, ao + j * 3 + 1, none⟩ = some (.string xs) ∧ w'.cell? ⟨ab, ao + j * 3 + 2, none⟩ = some (.int .i64 xn))) (exact punhide HC _ hS)
                (first | (go_at_call 21; refine (CL _).mono ?_; rintro e9 w2 ⟨g9, rfl, b9, hg9, hs9⟩; replace hS := hS.trans (b9.mono hS.size); clear b9) | (go_at_call 31; refine (CW _ _ hs9 hg9).mono ?_; rintro e9 w3 ⟨rfl, b9⟩; replace hS := hS.trans (b9.mono hS.size); clear b9))
              all_goals
                go_wp2_with fail
                go_meet
                exact ⟨rfl, hS⟩
            by_cases h3 : t.k = 3
            · have CL := fun W => leads_3 t h3 W
              have CW := fun W => kind1_any x y (by rw [← hy]; unfold Pm.leadB; rw [if_neg h12, if_pos h3]) W
              obtain ⟨tk, ts, tn⟩ := t
              obtain ⟨xk, xs, xn⟩ := x
              unfold valS at *
              simp only [] at *
              clear hy h12 hi hj h3
              go_region_held3 (fun w' => (w'.cell? ⟨lb, lo + i * 3, none⟩ = some (.int .i64 tk) ∧ w'.cell? ⟨lb, lo + i * 3 + 1, none⟩ = some (.string ts) ∧ w'.cell? ⟨lb, lo + i * 3 + 2, none⟩ = some (.int .i64 tn)) ∧ (w'.cell? ⟨ab, ao + j * 3, none⟩ = some (.int .i64 xk) ∧ w'.cell? ⟨ab, ao + j * 3 + 1, none⟩ = some (.string xs) ∧ w'.cell? ⟨ab, ao + j * 3 + 2, none⟩ = some (.int .i64 xn))) (exact punhide HC _ hS)
                (first | (go_at_call 21; refine (CL _).mono ?_; rintro e9 w2 ⟨rfl, b9⟩; replace hS := hS.trans (b9.mono hS.size); clear b9) | (go_at_call 32; refine (CW _).mono ?_; rintro e9 w3 ⟨rfl, b9⟩; replace hS := hS.trans (b9.mono hS.size); clear b9))
              all_goals
                go_wp2_with fail
                go_meet
                exact ⟨rfl, hS⟩
            by_cases h4 : t.k = 4
            · have CL := fun W => leads_4 t h4 W
              have CW := fun W => kind2_any x y (by rw [← hy]; unfold Pm.leadB; rw [if_neg h12, if_neg h3, if_pos h4]) W
              obtain ⟨tk, ts, tn⟩ := t
              obtain ⟨xk, xs, xn⟩ := x
              unfold valS at *
              simp only [] at *
              clear hy h12 hi hj h3 h4
              go_region_held3 (fun w' => (w'.cell? ⟨lb, lo + i * 3, none⟩ = some (.int .i64 tk) ∧ w'.cell? ⟨lb, lo + i * 3 + 1, none⟩ = some (.string ts) ∧ w'.cell? ⟨lb, lo + i * 3 + 2, none⟩ = some (.int .i64 tn)) ∧ (w'.cell? ⟨ab, ao + j * 3, none⟩ = some (.int .i64 xk) ∧ w'.cell? ⟨ab, ao + j * 3 + 1, none⟩ = some (.string xs) ∧ w'.cell? ⟨ab, ao + j * 3 + 2, none⟩ = some (.int .i64 xn))) (exact punhide HC _ hS)
                (first | (go_at_call 21; refine (CL _).mono ?_; rintro e9 w2 ⟨rfl, b9⟩; replace hS := hS.trans (b9.mono hS.size); clear b9) | (go_at_call 33; refine (CW _).mono ?_; rintro e9 w3 ⟨rfl, b9⟩; replace hS := hS.trans (b9.mono hS.size); clear b9))
              all_goals
                go_wp2_with fail
                go_meet
                exact ⟨rfl, hS⟩
            obtain rfl : y = false := by rw [← hy]; unfold Pm.leadB; rw [if_neg h12, if_neg h3, if_neg h4]
            have CL := fun W => leads_0 t (fun h => h12 (.inl h)) (fun h => h12 (.inr h)) h3 h4 W
            have CW := fun W => none_any x W
            obtain ⟨tk, ts, tn⟩ := t
            obtain ⟨xk, xs, xn⟩ := x
            unfold valS at *
            simp only [] at *
            clear hy h12 hi hj h3 h4
            go_region_held3 (fun w' => (w'.cell? ⟨lb, lo + i * 3, none⟩ = some (.int .i64 tk) ∧ w'.cell? ⟨lb, lo + i * 3 + 1, none⟩ = some (.string ts) ∧ w'.cell? ⟨lb, lo + i * 3 + 2, none⟩ = some (.int .i64 tn)) ∧ (w'.cell? ⟨ab, ao + j * 3, none⟩ = some (.int .i64 xk) ∧ w'.cell? ⟨ab, ao + j * 3 + 1, none⟩ = some (.string xs) ∧ w'.cell? ⟨ab, ao + j * 3 + 2, none⟩ = some (.int .i64 xn))) (exact punhide HC _ hS)
              (first | (go_at_call 21; refine (CL _).mono ?_; rintro e9 w2 ⟨rfl, b9⟩; replace hS := hS.trans (b9.mono hS.size); clear b9) | (go_at_call 34; refine (CW _).mono ?_; rintro e9 w3 ⟨rfl, b9⟩; replace hS := hS.trans (b9.mono hS.size); clear b9))
            all_goals
              go_wp2_with fail
              go_meet
              exact ⟨rfl, hS⟩
          case rest =>
            replace hS := hcut.2
            obtain rfl := hcut.1
            clear HC c0 d5 hy hi' hj'
            cases y
            · have HN2 := phide (punhide HN rfl)
              clear HY HN hmy
              by_cases hd0 : d = 0
              · have HF := phide ((punhide HN2).1 hd0)
                subst hd0
                clear HN2
                go_wp2
                go_ret
                exact ⟨by rw [punhide HF]; rfl, hS⟩
              · have HF := phide ((punhide HN2).2 (by omega))
                have hd1 : decide (0 < (d : Int)) = true := decide_eq_true (by omega)
                clear HN2
                go_wp2
                go_roundw
                case rel => exact ⟨d, e + 1, d, e + 1, rfl, by go_num, rfl, by go_num, HF, hS⟩
                case measure => simp [intOf]; (first | exact hmn | (have e1 : ((e : Int) + 1).toNat = e + 1 := by omega; simpa [e1] using hmn))
            · have HY2 := phide (punhide HY rfl)
              clear HY HN hmn
              go_wp2
              go_roundw
              case rel => exact ⟨i + 1, j + 1, d, e, by go_num, by go_num, rfl, rfl, HY2, hS⟩
              case measure => simp [intOf]; (first | exact hmy | (have e1 : ((j : Int) + 1).toNat = j + 1 := by omega; simpa [e1] using hmy))
      · have HN2 : Hid ((d = 0 → q = false) ∧ (0 < d → Pm.Inv l a d (e + 1) d (e + 1))) := phide (by
          have := (punhide HI).no hja (Pm.R_no hja (by omega) (fun h => absurd h (by omega)))
          rwa [punhide HQ] at this)
        have di : decide ((i : Int) < (n : Int)) = false := decide_eq_false (by omega)
        have hmn := Pm.left_no (L := n) (N := m) (d := d) (e := e) (j := j) (show e < m by omega)
        have hS : ∀ k, Below w.heap.size w (wr.drewN k) := fun k => hB.trans ⟨rfl, rfl, rfl, Nat.le_refl _, fun _ _ => rfl⟩
        clear hn hm hja HL HA HQ HI
        by_cases hd0 : d = 0
        · have HF := phide ((punhide HN2).1 hd0)
          subst hd0
          clear HN2
          go_wp2_with fail
          go_quiet (fail)
          all_goals
            go_wp2
            go_ret
            exact ⟨by rw [punhide HF]; rfl, hS _⟩
        · have HF := phide ((punhide HN2).2 (by omega))
          have hd1 : decide (0 < (d : Int)) = true := decide_eq_true (by omega)
          clear HN2
          go_wp2_with fail
          go_quiet (fail)
          all_goals
            go_wp2
            go_roundw
            case rel => exact ⟨d, e + 1, d, e + 1, rfl, by go_num, rfl, by go_num, HF, hS _⟩
            case measure => simp [intOf]; (first | exact hmn | (have e1 : ((e : Int) + 1).toNat = e + 1 := by omega; simpa [e1] using hmn))
    · have hjm2 : j = m := by omega
      have HR : Hid (Pm.R l a i a.length = q) := phide (by
        have h := punhide HI
        rw [show j = a.length by omega] at h
        rw [← h.last]; exact punhide HQ)
      have dj : decide ((j : Int) < (m : Int)) = false := decide_eq_false (by omega)
      clear HA HQ HI hdi hej
      go_wp2
      go_loop [5] (fun vi => ∃ i : Nat, i ≤ n ∧ vi = .int .i64 (i : Int) ∧ Hid (Pm.R l a i a.length = q)) (fun vi => n - (intOf vi).toNat)
      case atStart => exact ⟨i, hil, rfl, HR⟩
      case round =>
        clear HR hil dj
        obtain ⟨k, hk, rfl, HR⟩ := hrel
        by_cases hlt : k < n
        · have hkl : k < l.length := by omega
          obtain ⟨c0, c1, c2⟩ := punhide HL _ hB k hkl
          by_cases h5 : (l[k]'hkl).k = 5
          · have HR2 := phide ((Pm.R_last hkl h5).symm.trans (punhide HR))
            rw [h5] at c0
            clear c1 c2 h5 HR hn hm
            go_wp2
            go_round
            case rel => exact ⟨k + 1, by omega, by go_num, HR2⟩
            case measure => simp [intOf]; omega
          · have HF := phide ((Pm.R_none (a := a) hkl h5).symm.trans (punhide HR))
            obtain ⟨z, hz⟩ : ∃ z, (l[k]'hkl).k = z := ⟨_, rfl⟩
            rw [hz] at c0 h5
            have d5 : (z == 5) = false := beq_eq_false_iff_ne.2 h5
            have dk : ((k : Int) == (n : Int)) = false := beq_eq_false_iff_ne.2 (by omega)
            clear c1 c2 h5 HR hn hm hz
            go_wp2
            go_ret
            exact ⟨by rw [← punhide HF]; rfl, hB⟩
        · have hkn : k = n := by omega
          have HF : Hid (true = q) := phide (by have h := punhide HR; rw [hkn, ← hn, Pm.R_end] at h; exact h)
          have dk : decide ((k : Int) < (n : Int)) = false := decide_eq_false (by omega)
          have dk2 : ((k : Int) == (n : Int)) = true := beq_iff_eq.2 (by omega)
          clear HR hn hm hkn HL
          go_wp2
          go_ret
          exact ⟨by rw [← punhide HF]; rfl, hB⟩
end Go.Proofs.YtomhgafpjpnmdaaGreatDoor
