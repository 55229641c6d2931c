/- What is proved here: what place, key and at of the laws, and the document's own Same, do with rows of steps that lie, walked; conditions: as each theorem states. -/
import Derived.Test.YtomhgafpjpnmdaaGreatDoorPc
namespace Go.Proofs.YtomhgafpjpnmdaaGreatDoor
open Go.RowKit
set_option linter.unusedVariables false
set_option linter.unusedSimpArgs false

theorem key_any (s : ByteArray) (w : World) : Calls Tryz.prog 18 #[.string s] w fun e w' => e = .returned (.agg #[.int .i64 1, .string s, .int .i64 0]) ∧ Below w.heap.size w w' := by
  go_enter Tryz.func18, Tryz.ntmps18
  go_wp2
  go_returns
  exact ⟨rfl, by go_grown⟩
theorem at_any (n : Int) (w : World) : Calls Tryz.prog 19 #[.int .i64 n] w fun e w' => e = .returned (.agg #[.int .i64 2, .string ⟨#[]⟩, .int .i64 n]) ∧ Below w.heap.size w w' := by
  go_enter Tryz.func19, Tryz.ntmps19
  go_wp2
  go_returns
  exact ⟨rfl, by go_grown⟩

set_option maxRecDepth 100000 in
set_option maxHeartbeats 2000000 in
theorem place_any (a : Option Addr) (n c : Nat) (L : List Pm.St) (hn2 : n ≤ 9223372036854775807) (w : World) (hs : StepsIn w a n L) :
    Calls Tryz.prog 12 #[.slice a n c] w fun e w' => Below w.heap.size w w' ∧ ∃ g cap, e = .returned (.slice (some ⟨g, 0, none⟩) (Pm.plL L).length cap) ∧ w.heap.size ≤ g ∧ (Pm.plL L).length ≤ cap ∧ RowSt w' g 0 (Pm.plL L) := by
  obtain ⟨i0, hi, hz0, hz1, hz2⟩ := info_parts infoS
  go_enter Tryz.func12, Tryz.ntmps12
  go_wp2
  go_loopw [3, 4] (fun o i wr => ∃ (j k g cap : Nat), i = .int .i64 (j : Int) ∧ o = .slice (some ⟨g, 0, none⟩) k cap ∧ j ≤ n ∧ j ≤ 12 ∧ k ≤ j ∧ k ≤ cap ∧ (((L.take j).flatMap Pm.plS)).length = k ∧ w.heap.size ≤ g ∧ wr.ownsRow w.heap.size 33 3 (.slice (some ⟨g, 0, none⟩) k cap) k (rowS ((L.take j).flatMap Pm.plS)) ∧ Below w.heap.size w wr) (fun _ i _ => 12 - (intOf i).toNat)
  case atStart =>
    refine ⟨0, 0, w.heap.size, 0, rfl, rfl, by omega, by omega, by omega, by omega, by simp, Nat.le_refl _, ⟨rfl, .inr ⟨w.heap.size, 0, #[], rfl, Nat.le_refl _, ?_, Nat.le_refl _, by unfold maxLen; omega, rfl, rfl⟩⟩, (Below.refl _ _).alloc (Nat.le_refl _) _⟩
    exact heap_alloc_new w _
  case round =>
    obtain ⟨j, k, g, cap, rfl, rfl, hjn, hj12, hkj, hkc, hkl, hg, hown, hB⟩ := hrel
    have hs0 := hs
    obtain ⟨hsl, hs2⟩ := hs0
    by_cases hlt : j < n
    · by_cases h70 : j < 12
      · obtain ⟨b, off, rfl, hrow⟩ := hs2.resolve_left (by omega)
        have hb := hrow.1
        obtain ⟨c0, c1, c2⟩ := (hrow.step hB).2 j (by omega)
        obtain ⟨t, ht⟩ : ∃ t, L[j]'(by omega) = t := ⟨_, rfl⟩
        rw [ht] at c0 c1 c2
        have hLk : (L.take (j + 1)).flatMap Pm.plS = (L.take j).flatMap Pm.plS ++ Pm.plS t := by
          rw [List.take_succ_eq_append_getElem (by omega), List.flatMap_append, ht]; simp
        have HLK := phide hLk
        obtain ⟨tk, ts, tn⟩ := t
        simp only [] at c0 c1 c2
        have hlk2 : ((L.take (j + 1)).flatMap Pm.plS).length = k + (Pm.plS ⟨tk, ts, tn⟩).length := by rw [hLk, List.length_append, hkl]
        have hsz : ∀ (W : World) o, (W.alloc o).heap.size = W.heap.size + 1 := fun W o => by simp
        have hb0 : (wr.alloc (.cells #[.int .i64 tk, .string ts, .int .i64 tn] 33)).cell? ⟨wr.heap.size, 0, none⟩ = some (.int .i64 tk) := by go_simp
        have hb2 : (wr.alloc (.cells #[.int .i64 tk, .string ts, .int .i64 tn] 33)).cell? ⟨wr.heap.size, 2, none⟩ = some (.int .i64 tn) := by go_simp
        have hown0 := hown.alloc (.cells #[.int .i64 tk, .string ts, .int .i64 tn] 33)
        have hB0 := hB.alloc hB.size (.cells #[.int .i64 tk, .string ts, .int .i64 tn] 33)
        have hBx : w.heap.size ≤ wr.heap.size := hB.size
        clear hs2 hrow ht hLk hs hsl hkl

        by_cases h1 : tk = 1
        · subst h1
          have hLm : rowS ((L.take (j + 1)).flatMap Pm.plS) = rowS ((L.take j).flatMap Pm.plS) ++ cellsS ⟨1, ts, 0⟩ := by rw [punhide HLK, rowS_app, show Pm.plS ⟨1, ts, tn⟩ = [⟨1, ts, 0⟩] from rfl]; simp [rowS]
          rw [show Pm.plS ⟨1, ts, tn⟩ = [⟨1, ts, 0⟩] from rfl] at hlk2
          have HLM := phide hLm
          have HLK2 := phide hlk2
          clear hLm hlk2 HLK
          go_wp2_with (first | (go_at_call 18; refine (key_any _ _).mono ?_; rintro e9 w2 ⟨rfl, b9⟩; have hown2 := ownS_step hown0 b9; have hown3 := hown2.alloc (.cells #[.int .i64 1, .string ts, .int .i64 0] 33); have hnew := newS w2 ⟨1, ts, 0⟩ 33; have hB2 := hB0.trans (b9.mono hB0.size); have k0 := (b9.cell (p := ⟨wr.heap.size, 0, none⟩) (by simp)).trans hb0; have k2 := (b9.cell (p := ⟨wr.heap.size, 2, none⟩) (by simp)).trans hb2; have hsz2 : wr.heap.size < w2.heap.size := Nat.lt_of_lt_of_le (by simp) b9.size; clear b9 hown2) | (at_builtin; refine wpList_append_lies _ rfl _ _ 22 rfl w.heap.size 33 i0 (.agg #[.int .i64 0, .string ⟨#[]⟩, .int .i64 0]) 3 32 Tryz.underlying22 hi hz0 hz1 hz2 rfl (by decide) _ k _ rfl hown3 ⟨w2.heap.size, 0, none⟩ 1 1 (cellsS ⟨1, ts, 0⟩) rfl rfl hnew (by intro u hu; exact rowS_one (L := [⟨1, ts, 0⟩]) u (by unfold rowS; simpa using hu)) (by omega) (by unfold maxLen; omega) (by omega) (by simp; omega) (w2.heap.size + 1) (by simp) ?_))
          intro g2 cap2 w1 hown4 hgrow hat hlt2
          rw [← punhide HLM] at hown4
          have hgrow2 : w2.grownBy w1 (some g) := (World.grownBy_alloc w2 _ (some g)).trans hgrow
          have hB3 : Below w.heap.size w w1 := hB2.grown hgrow2 hB2.size (fun j hj => by cases hj; exact hg)
          have hgb : g ≠ wr.heap.size := fun e => by have := (hown.lt g rfl).2; omega
          have q0 : w1.cell? ⟨wr.heap.size, 0, none⟩ = some (.int .i64 1) := (World.cell?_of_block (w := w2) (hgrow2.block _ hsz2 (fun e => hgb (Option.some.inj e).symm))).trans k0
          have hg2 : w.heap.size ≤ g2 := by
            rcases hat with h | h
            · have : g = g2 := by simpa [Value.ownBlock] using h
              omega
            · have := hB2.size; omega
          have hc2 : k + 1 ≤ cap2 := by
            rcases hown4.2 with ⟨h, _⟩ | ⟨g', cap', cur, hv, _, _, hnc, _⟩
            · cases h
            · have e1 := Value.slice.inj hv
              rw [e1.2.2]; exact hnc
          clear hown3 hnew hgrow hgrow2 hat hB2 c0 c1 c2 hown hown0 hB0 hb0 hb2 k0 k2
          go_wp2
          go_roundw
          case rel => exact ⟨j + 1, k + 1, g2, cap2, by go_num, rfl, by omega, by omega, by omega, hc2, by rw [punhide HLK2]; rfl, hg2, hown4, hB3⟩
          case measure => simp [intOf]; omega
        · have b1 : (tk == 1) = false := beq_eq_false_iff_ne.2 h1
          by_cases h2 : tk = 2
          · subst h2
            by_cases h3 : 0 ≤ tn
            · have d3 : decide (0 ≤ tn) = true := decide_eq_true h3
              have hLm : rowS ((L.take (j + 1)).flatMap Pm.plS) = rowS ((L.take j).flatMap Pm.plS) ++ cellsS ⟨2, ⟨#[]⟩, tn⟩ := by rw [punhide HLK, rowS_app, show Pm.plS ⟨2, ts, tn⟩ = [⟨2, ⟨#[]⟩, tn⟩] by unfold Pm.plS; rw [if_neg (show ¬ (2 : Int) = 1 by decide), if_pos ⟨rfl, h3⟩]; rfl]; simp [rowS]
              rw [show Pm.plS ⟨2, ts, tn⟩ = [⟨2, ⟨#[]⟩, tn⟩] by unfold Pm.plS; rw [if_neg (show ¬ (2 : Int) = 1 by decide), if_pos ⟨rfl, h3⟩]; rfl] at hlk2
              have HLM := phide hLm
              have HLK2 := phide hlk2
              clear hLm hlk2 HLK
              go_wp2_with (first | (go_at_call 19; refine (at_any _ _).mono ?_; rintro e9 w2 ⟨rfl, b9⟩; have hown2 := ownS_step hown0 b9; have hown3 := hown2.alloc (.cells #[.int .i64 2, .string ⟨#[]⟩, .int .i64 tn] 33); have hnew := newS w2 ⟨2, ⟨#[]⟩, tn⟩ 33; have hB2 := hB0.trans (b9.mono hB0.size); have k0 := (b9.cell (p := ⟨wr.heap.size, 0, none⟩) (by simp)).trans hb0; have k2 := (b9.cell (p := ⟨wr.heap.size, 2, none⟩) (by simp)).trans hb2; have hsz2 : wr.heap.size < w2.heap.size := Nat.lt_of_lt_of_le (by simp) b9.size; clear b9 hown2) | (at_builtin; refine wpList_append_lies _ rfl _ _ 22 rfl w.heap.size 33 i0 (.agg #[.int .i64 0, .string ⟨#[]⟩, .int .i64 0]) 3 32 Tryz.underlying22 hi hz0 hz1 hz2 rfl (by decide) _ k _ rfl hown3 ⟨w2.heap.size, 0, none⟩ 1 1 (cellsS ⟨2, ⟨#[]⟩, tn⟩) rfl rfl hnew (by intro u hu; exact rowS_one (L := [⟨2, ⟨#[]⟩, tn⟩]) u (by unfold rowS; simpa using hu)) (by omega) (by unfold maxLen; omega) (by omega) (by simp; omega) (w2.heap.size + 1) (by simp) ?_))
              intro g2 cap2 w1 hown4 hgrow hat hlt2
              rw [← punhide HLM] at hown4
              have hgrow2 : w2.grownBy w1 (some g) := (World.grownBy_alloc w2 _ (some g)).trans hgrow
              have hB3 : Below w.heap.size w w1 := hB2.grown hgrow2 hB2.size (fun j hj => by cases hj; exact hg)
              have hgb : g ≠ wr.heap.size := fun e => by have := (hown.lt g rfl).2; omega
              have q0 : w1.cell? ⟨wr.heap.size, 0, none⟩ = some (.int .i64 2) := (World.cell?_of_block (w := w2) (hgrow2.block _ hsz2 (fun e => hgb (Option.some.inj e).symm))).trans k0
              have hg2 : w.heap.size ≤ g2 := by
                rcases hat with h | h
                · have : g = g2 := by simpa [Value.ownBlock] using h
                  omega
                · have := hB2.size; omega
              have hc2 : k + 1 ≤ cap2 := by
                rcases hown4.2 with ⟨h, _⟩ | ⟨g', cap', cur, hv, _, _, hnc, _⟩
                · cases h
                · have e1 := Value.slice.inj hv
                  rw [e1.2.2]; exact hnc
              clear hown3 hnew hgrow hgrow2 hat hB2 c0 c1 c2 hown hown0 hB0 hb0 hb2 k0 k2
              go_wp2
              go_roundw
              case rel => exact ⟨j + 1, k + 1, g2, cap2, by go_num, rfl, by omega, by omega, by omega, hc2, by rw [punhide HLK2]; rfl, hg2, hown4, hB3⟩
              case measure => simp [intOf]; omega
            · have d3 : decide (0 ≤ tn) = false := decide_eq_false h3
              have hE : Pm.plS ⟨2, ts, tn⟩ = [] := by unfold Pm.plS; rw [if_neg (show ¬ (2 : Int) = 1 by decide), if_neg (fun h => h3 h.2)]
              have hE2 : (L.take (j + 1)).flatMap Pm.plS = (L.take j).flatMap Pm.plS := by rw [punhide HLK, hE, List.append_nil]
              rw [hE] at hlk2
              rw [← hE2] at hown0
              have HLK2 := phide hlk2
              clear hE hE2 hlk2 HLK hown
              go_wp2
              go_roundw
              case rel => exact ⟨j + 1, k, g, cap, by go_num, rfl, by omega, by omega, by omega, hkc, by rw [punhide HLK2]; rfl, hg, hown0, hB0⟩
              case measure => simp [intOf]; omega
          · have b2 : (tk == 2) = false := beq_eq_false_iff_ne.2 h2
            have hE : Pm.plS ⟨tk, ts, tn⟩ = [] := by unfold Pm.plS; rw [if_neg h1, if_neg (fun h => h2 h.1)]
            have hE2 : (L.take (j + 1)).flatMap Pm.plS = (L.take j).flatMap Pm.plS := by rw [punhide HLK, hE, List.append_nil]
            rw [hE] at hlk2
            rw [← hE2] at hown0
            have HLK2 := phide hlk2
            clear hE hE2 hlk2 HLK hown
            go_wp2
            go_roundw
            case rel => exact ⟨j + 1, k, g, cap, by go_num, rfl, by omega, by omega, by omega, hkc, by rw [punhide HLK2]; rfl, hg, hown0, hB0⟩
            case measure => simp [intOf]; omega
      · have hk : j = 12 := by omega
        have d1 : decide ((j : Int) < 12) = false := decide_eq_false (by omega)
        have hL : (L.take j).flatMap Pm.plS = Pm.plL L := by rw [hk]; rfl
        rw [hL] at hkl hown
        clear hs2 hk hs hsl hL
        go_wp2
        go_ret
        exact ⟨hB, g, cap, by rw [hkl]; rfl, hg, by omega, rowst_of hown⟩
    · have d1 : decide ((j : Int) < (n : Int)) = false := decide_eq_false (by omega)
      have hL : (L.take j).flatMap Pm.plS = Pm.plL L := by
        unfold Pm.plL
        rw [List.take_of_length_le (by omega), List.take_of_length_le (by omega)]
      rw [hL] at hkl hown
      clear hs2 hs hsl hL
      go_wp2
      go_ret
      exact ⟨hB, g, cap, by rw [hkl]; rfl, hg, by omega, rowst_of hown⟩

set_option maxRecDepth 100000 in
/-- Whether two rows are the same. -/
theorem same_any (ab ao ac bb bo bc n m : Nat) (L M : List Pm.St) (hn : L.length = n) (hm : M.length = m) (hn2 : n ≤ 1000) (hm2 : m ≤ 1000) (q : Bool) (hq : decide (L = M) = q) (w : World) (ha : RowSt w ab ao L) (hb : RowSt w bb bo M) :
    Calls Tryz.prog 17 #[.slice (some ⟨ab, ao, none⟩) n ac, .slice (some ⟨bb, bo, none⟩) m bc] w fun e w' => e = .returned (.bool q) ∧ Below w.heap.size w w' := by
  have HQ := phide hq
  clear hq
  have hGD := guard_stepN
  by_cases hnm : n = m
  · subst hnm
    go_enter Tryz.func17, Tryz.ntmps17
    go_wp2
    go_loopw [5] (fun i wr => ∃ k : Nat, i = .int .i64 (k : Int) ∧ k ≤ n ∧ L.take k = M.take k ∧ Below w.heap.size w wr) (fun i _ => n - (intOf i).toNat)
    case atStart => exact ⟨0, rfl, by omega, rfl, Below.refl _ _⟩
    case round =>
      obtain ⟨k, rfl, hk, hp, hB⟩ := hrel
      have HP := phide hp
      clear hp
      by_cases hlt : k < n
      · obtain ⟨c0, c1, c2⟩ := (ha.step hB).2 k (by omega)
        obtain ⟨x0, x1, x2⟩ := (hb.step hB).2 k (by omega)
        obtain ⟨t, ht⟩ : ∃ t, L[k]'(by omega) = t := ⟨_, rfl⟩
        obtain ⟨x, hx⟩ : ∃ x, M[k]'(by omega) = x := ⟨_, rfl⟩
        rw [ht] at c0 c1 c2
        rw [hx] at x0 x1 x2
        by_cases he : t = x
        · have hNE := fun W => neq_step' t x false (by rw [he]; simp) W
          have HP2 := phide (show L.take (k + 1) = M.take (k + 1) by
            rw [List.take_succ_eq_append_getElem (by omega), List.take_succ_eq_append_getElem (by omega), punhide HP, ht, hx, he])
          obtain ⟨tk, ts, tn⟩ := t
          obtain ⟨xk, xs, xn⟩ := x
          simp only [] at c0 c1 c2 x0 x1 x2 hNE
          clear ht hx he hn hm HP ha hb
          go_wp2_with fail
          go_quiet (fail)
          all_goals
            go_wp2
            go_roundw
            case rel => exact ⟨k + 1, by go_num, by omega, punhide HP2, hB.trans ⟨rfl, rfl, rfl, Nat.le_refl _, fun _ _ => rfl⟩⟩
            case measure => simp [intOf]; omega
        · have hNE := fun W => neq_step' t x true (by simp [he]) W
          have HF : Hid (q = false) := phide (by
            rw [← punhide HQ, decide_eq_false_iff_not]
            intro h
            exact he (by rw [← ht, ← hx]; simp only [h]))
          obtain ⟨tk, ts, tn⟩ := t
          obtain ⟨xk, xs, xn⟩ := x
          simp only [] at c0 c1 c2 x0 x1 x2 hNE
          clear ht hx he hn hm HP ha hb
          go_wp2_with fail
          go_quiet (fail)
          all_goals
            go_wp2
            go_ret
            exact ⟨by rw [punhide HF]; rfl, hB.trans ⟨rfl, rfl, rfl, Nat.le_refl _, fun _ _ => rfl⟩⟩
      · have HF : Hid (q = true) := phide (by
          have h := punhide HP
          rw [List.take_of_length_le (by omega), List.take_of_length_le (by omega)] at h
          rw [← punhide HQ, decide_eq_true_eq]; exact h)
        have d1 : decide ((k : Int) < (n : Int)) = false := decide_eq_false (by omega)
        clear hn hm HP ha hb
        go_wp2
        go_ret
        exact ⟨by rw [punhide HF]; rfl, hB⟩
  · have HF : Hid (q = false) := phide (by
      rw [← punhide HQ, decide_eq_false_iff_not]
      intro h
      exact hnm (by rw [← hn, ← hm, h]))
    have d1 : ((n : Int) != (m : Int)) = true := by simp; omega
    have d2 : ¬ (n : Int) = (m : Int) := by omega
    clear hn hm ha hb
    go_enter Tryz.func17, Tryz.ntmps17
    go_wp2
    go_ret
    exact ⟨by rw [punhide HF]; rfl, Below.refl _ _⟩
end Go.Proofs.YtomhgafpjpnmdaaGreatDoor
