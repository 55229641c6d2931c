/- What is proved here: LexPlaces, walked; conditions: the tables of unicode/utf8 and of signs lie. Written by places10_gen.py. -/
import Derived.Test.YtppkknmgdahniabDoorNj
import Derived.Deep.QuietTactic
import Derived.BigQuiet
namespace Go.Proofs.YtppkknmgdahniabDoor.Lex
set_option maxRecDepth 100000
open Go.RowKit Go.Proofs.YtppkknmgdahniabDoor.Nc Go.Proofs.YtppkknmgdahniabDoor.Nq
set_option maxRecDepth 100000
set_option linter.unusedVariables false
set_option linter.unusedSimpArgs false

theorem err_cases (l : Lx.Tx) (h : Lx.errL l ≠ 0) : Lx.allL l = [] := by
  unfold Lx.errL at h
  unfold Lx.allL
  split
  · rfl
  · rename_i hb
    rw [if_neg hb] at h
    cases hx : Lx.lexO l with
    | none => rfl
    | some T =>
      rw [hx] at h
      dsimp only at h ⊢
      split
      · rfl
      · rename_i h6; rw [if_neg h6] at h; exact absurd rfl h
theorem err_zero (l : Lx.Tx) (h : Lx.errL l = 0) : Lx.lexO l = some (Lx.allL l) ∧ (Lx.allL l).length ≤ 600 ∧ l.length ≤ 2000 := by
  unfold Lx.errL at h
  unfold Lx.allL
  by_cases hb : 2000 < l.length
  · rw [if_pos hb] at h; cases h
  · rw [if_neg hb] at h ⊢
    cases hx : Lx.lexO l with
    | none => rw [hx] at h; cases h
    | some T =>
      rw [hx] at h
      dsimp only at h ⊢
      by_cases h6 : 600 < T.length
      · rw [if_pos h6] at h; cases h
      · rw [if_neg h6]; exact ⟨rfl, by omega, by omega⟩
theorem err_le (l : Lx.Tx) : Lx.errL l ≤ 30 := by
  unfold Lx.errL
  split
  · decide
  · split
    · decide
    · split <;> decide
theorem ch_eq (l : List UInt8) (x : ByteArray) (hx : x.data.toList = l) (h : 0 < x.size) : x[0]'h = l.getD 0 0 := by
  subst hx
  rw [ByteArray.getElem_eq_getElem_data, ← Array.getElem_toList]
  simp [List.getD, List.getElem?_eq_getElem (show 0 < x.data.toList.length by rw [lsize]; exact h)]
theorem at_drop (s : ByteArray) (k : Nat) (h : k < s.size) : s[k]'h = (s.data.toList.drop k).getD 0 0 := by
  rw [ByteArray.getElem_eq_getElem_data, ← Array.getElem_toList]
  simp [List.getD, List.getElem?_drop, List.getElem?_eq_getElem (show k < s.data.toList.length by rw [lsize]; exact h)]
set_option maxHeartbeats 8000000 in
theorem places10 (s0 : ByteArray) (w : World) (hs0 : s0.size ≤ maxLen) (hT : Tabs w) (hS : Sg w) :
    Calls Tryd.prog 5 #[.string s0] w fun e w' => e = .returned (.bool true) ∧ Below w.heap.size w w' := by
  have HSH := lhide (shown10_any w hT hS)
  obtain ⟨s, hs⟩ : ∃ s, fewB 2100 s0 = s := ⟨_, rfl⟩
  have CF := few10_any s0
  rw [hs] at CF
  have hsz : s.size ≤ 2100 := by rw [← hs]; exact few_size 2100 s0
  have HCF := lhide CF
  obtain ⟨er, her⟩ : ∃ n, Lx.errL s.data.toList = n := ⟨_, rfl⟩
  obtain ⟨T, hTT⟩ : ∃ T, Lx.allL s.data.toList = T := ⟨_, rfl⟩
  have hel : er ≤ 30 := by rw [← her]; exact err_le _
  have HCA : Hid (∀ W, Below w.heap.size w W → Calls Tryd.prog 8 #[.string s] W fun e w' => ∃ V, e = .returned (.tuple #[V, .int .i64 (er : Int)]) ∧ TokIn w' V s.size T ∧ Below W.heap.size W w') := lhide (fun W hW => by
    have := all_any s (by omega) W (Nq.Tabs.step hT hW) (Sg.below hS hW)
    rw [her, hTT] at this
    exact this)
  have HE0 : Hid (er ≠ 0 → T = []) := lhide (fun h => by rw [← hTT]; exact err_cases _ (by rw [her]; exact h))
  have HE1 : Hid (er = 0 → Lx.lexO s.data.toList = some T ∧ T.length ≤ 600 ∧ s.data.toList.length ≤ 2000) := lhide (fun h => by have := err_zero s.data.toList (by rw [her]; exact h); rw [hTT] at this; exact this)
  clear hT hS hs CF her hTT hs0
  go_enter Tryd.func5, Tryd.ntmps5
  go_wp2_with fail
  refine (lunhide HSH).mono ?_
  rintro e w1 ⟨rfl, b1⟩
  go_wp2_with fail
  refine (lunhide HCF _).mono ?_
  rintro e w2 ⟨rfl, rfl⟩
  go_wp2_with fail
  refine (lunhide HCA _ b1).mono ?_
  rintro e w3 ⟨V, rfl, hV, b3⟩
  have hb3 : Below w.heap.size w w3 := b1.trans (b3.mono b1.size)
  obtain ⟨va, vc, rfl⟩ := hV.shape
  have HV := lhide hV
  have HB3 := lhide hb3
  clear b1 b3 hb3 hV HSH HCF HCA
  by_cases h0 : er = 0
  · subst h0
    obtain ⟨hlx, hn6, hln⟩ := lunhide HE1 rfl
    have HSP := lhide (Lx.lex_spec _ s.data.toList (Nat.le_refl _) T hlx)
    clear hlx hln HE0 HE1
    go_wp2_with fail
    go_loopw [6] (fun I wr => ∃ k : Nat, I = .int .i64 (k : Int) ∧ k ≤ T.length ∧ Below w3.heap.size w3 wr) (fun I _ => T.length - (intOf I).toNat)
    case atStart => exact ⟨0, rfl, Nat.zero_le _, Below.refl _ _⟩
    case round =>
      obtain ⟨k, rfl, hk9, hBr⟩ := hrel
      by_cases hlt : k < T.length
      · obtain ⟨p1, p2, ⟨nn, p3⟩, p4⟩ := lunhide HSP k hlt
        obtain ⟨q1, q2⟩ := Lx.read_ok p3
        obtain ⟨g, e9, -, hgl, c0, c1, c2, c3, c4, c5⟩ := tok_at ((lunhide HV).below hBr) k hlt
        have hprev : Hid (0 < k → wr.cell? ⟨g, (k - 1) * 6 + 1, none⟩ = some (.int .i64 ((s.size : Int) - ((T[k - 1]'(by omega)).2 : Int))) ∧ (T[k]'hlt).2 < (T[k - 1]'(by omega)).2 ∧ (T[k - 1]'(by omega)).2 ≤ s.size) := lhide (fun hk0 => by
          obtain ⟨g2, e8, -, -, -, d1, -, -, -, -⟩ := tok_at ((lunhide HV).below hBr) (k - 1) (by omega)
          rw [e9] at e8
          obtain rfl : g = g2 := (Addr.mk.inj (Option.some.inj e8)).1
          obtain ⟨-, r2, -, r4⟩ := lunhide HSP (k - 1) (by omega)
          have e7 : k - 1 + 1 = k := by omega
          refine ⟨d1, ?_, by rw [lsize] at r2; exact r2⟩
          have := r4 (by omega)
          simp only [e7] at this
          exact this)
        subst e9
        obtain ⟨⟨⟨tk, tx, ng, dg, sc⟩, r⟩, ht⟩ : ∃ x, T[k]'hlt = x := ⟨_, rfl⟩
        rw [ht] at p1 p2 p3 q1 q2 c0 c1 c2 c3 c4 c5 hprev
        dsimp only at p1 p2 p3 q1 q2 c0 c1 c2 c3 c4 c5 hprev
        rw [lsize] at p2 p3 q1
        obtain ⟨pos, hpos⟩ : ∃ p : Nat, s.size - r = p := ⟨_, rfl⟩
        have hpi : (s.size : Int) - (r : Int) = (pos : Int) := by omega
        have hpl : pos < s.size := by omega
        obtain ⟨ch, hch⟩ : ∃ c : UInt8, s[pos]'hpl = c := ⟨_, rfl⟩
        rw [hpos, ← at_drop s pos hpl, hch] at q1
        rw [hpi] at c1
        obtain ⟨x, hx⟩ := ex_txt tx
        obtain ⟨y, hy⟩ := ex_txt dg
        subst hx hy
        rw [mk_of] at c2 c4
        have hki : (k : Int) < (T.length : Int) := by omega
        have hposi : (pos : Int) < (s.size : Int) := by omega
        have HBR := lhide hBr
        have hslt : T.length ≤ 600 := hn6
        clear p1 p2 p3 p4 ht
        obtain ⟨w5, e5, z5, g5, ⟨d0, d1, d2, d3, d4, d5⟩⟩ := alloc6 wr (.int .i64 (tk : Int)) (.int .i64 (pos : Int)) (.string x) (.bool ng) (.string y) (.int .i64 (sc : Int)) 33
        have hwl : wr.heap.size < w5.heap.size := by omega
        have HX5 : Hid (∀ W, Below w5.heap.size w5 W → (W.cell? ⟨wr.heap.size, 0, none⟩ = some (.int .i64 (tk : Int)) ∧ W.cell? ⟨wr.heap.size, 1, none⟩ = some (.int .i64 (pos : Int)) ∧ W.cell? ⟨wr.heap.size, 2, none⟩ = some (.string x) ∧ W.cell? ⟨wr.heap.size, 3, none⟩ = some (.bool ng) ∧ W.cell? ⟨wr.heap.size, 4, none⟩ = some (.string y) ∧ W.cell? ⟨wr.heap.size, 5, none⟩ = some (.int .i64 (sc : Int)))) := lhide (fun W hW => by
          have key : ∀ i, W.cell? ⟨wr.heap.size, i, none⟩ = w5.cell? ⟨wr.heap.size, i, none⟩ := fun i => hW.cell (p := ⟨wr.heap.size, i, none⟩) hwl
          exact ⟨(key 0).trans d0, (key 1).trans d1, (key 2).trans d2, (key 3).trans d3, (key 4).trans d4, (key 5).trans d5⟩)
        have HB5 : Hid (Below w3.heap.size w3 w5) := lhide (hBr.trans (g5.mono hBr.size))
        have hprev5 : Hid (0 < k → ∃ j pp : Nat, (j : Int) < (T.length : Int) ∧ IntKind.i64.wrap ((k : Int) - 1) = (j : Int) ∧ w5.cell? ⟨g, j * 6 + 1, none⟩ = some (.int .i64 (pp : Int)) ∧ ¬ (pos : Int) ≤ (pp : Int)) := lhide (fun hk0 => by
          obtain ⟨u1, u2, u3⟩ := lunhide hprev hk0
          refine ⟨k - 1, s.size - (T[k - 1]'(by omega)).2, by omega, by rw [IntKind.wrap_i64]; omega, ?_, by omega⟩
          rw [g5.cell (p := ⟨g, (k - 1) * 6 + 1, none⟩) hgl, u1]
          congr 2
          omega)
        have HE := lhide e5
        have n0 : decide ((pos : Int) < 0) = false := decide_eq_false (by omega)
        have n1 : decide (s.size ≤ pos) = false := decide_eq_false (by omega)
        have HQ1 := lhide q1
        have HQ2 := lhide q2
        have HN := lhide (And.intro hposi (And.intro hk9 (And.intro hlt (And.intro hki hgl))))
        have hk9' := lhide hk9
        clear hBr e5 z5 g5 hwl hprev hpi q1 q2 hposi hk9 hki hgl
        go_upto_region 10 with fail
        rw [lunhide HE]
        clear HE c0 c1 c2 c3 c4 c5
        by_cases hk0 : k = 0
        · have n2 : decide (0 < k) = false := decide_eq_false (by omega)
          clear hprev5
          have hS : Below w5.heap.size w5 w5.drew := (Below.refl _ _).drew
          refine wp_region_held_drew (S := (fun W => W.cell? ⟨wr.heap.size, 1, none⟩ = some (.int .i64 (pos : Int)))) (by kernel_rfl) ?hS0q1x (fun hHeld => ?restq1x0)
          case hS0q1x => first | (dsimp only; (exact (lunhide HX5 _ hS).2.1)) | (exact (lunhide HX5 _ hS).2.1)
          case restq1x0 =>
          refine wpAnyH_take (i := 0) (v := ?vq1x0) rfl (by kernel_rfl) (by kernel_rfl) (by kernel_rfl) (fun _ _ _ h => h) (Or.inl ⟨by rfl, ?hyq1x0⟩) (by assumption) ?restq1x1
          case hyq1x0 => ((intro w hSw; (try dsimp only at hSw); go_simp) <;> with_reducible rfl)
          case restq1x1 =>
          try simp only [Act.put, List.getElem_toArray, List.getElem_cons_zero, List.getElem_cons_succ, List.setIfInBounds_toArray, List.set_cons_zero, List.set_cons_succ]
          refine wpAnyH_take (i := 1) (v := ?vq1x1) rfl (by kernel_rfl) (by kernel_rfl) (by kernel_rfl) (fun _ _ _ h => h) (Or.inl ⟨by rfl, ?hyq1x1⟩) (by assumption) ?restq1x2
          case hyq1x1 => ((intro w hSw; (try dsimp only at hSw); go_simp) <;> with_reducible rfl)
          case restq1x2 =>
          try simp only [Act.put, List.getElem_toArray, List.getElem_cons_zero, List.getElem_cons_succ, List.setIfInBounds_toArray, List.set_cons_zero, List.set_cons_succ]
          refine wpAnyH_take (i := 2) (v := ?vq1x2) rfl (by kernel_rfl) (by kernel_rfl) (by kernel_rfl) (fun _ _ _ h => h) (Or.inl ⟨by rfl, ?hyq1x2⟩) (by assumption) ?restq1x3
          case hyq1x2 => ((intro w hSw; (try dsimp only at hSw); go_simp) <;> with_reducible rfl)
          case restq1x3 =>
          try simp only [Act.put, List.getElem_toArray, List.getElem_cons_zero, List.getElem_cons_succ, List.setIfInBounds_toArray, List.set_cons_zero, List.set_cons_succ]
          refine wpAnyH_take (i := 3) (v := ?vq1x3) rfl (by kernel_rfl) (by kernel_rfl) (by kernel_rfl) (fun _ _ _ h => h) (Or.inl ⟨by rfl, ?hyq1x3⟩) (by assumption) ?restq1x4
          case hyq1x3 => ((intro w hSw; (try dsimp only at hSw); go_simp) <;> with_reducible rfl)
          case restq1x4 =>
          try simp only [Act.put, List.getElem_toArray, List.getElem_cons_zero, List.getElem_cons_succ, List.setIfInBounds_toArray, List.set_cons_zero, List.set_cons_succ]
          refine wpAnyH_take (i := 4) (v := ?vq1x4) rfl (by kernel_rfl) (by kernel_rfl) (by kernel_rfl) (fun _ _ _ h => h) (Or.inl ⟨by rfl, ?hyq1x4⟩) (by assumption) ?restq1x5
          case hyq1x4 => ((intro w hSw; (try dsimp only at hSw); go_simp) <;> with_reducible rfl)
          case restq1x5 =>
          try simp only [Act.put, List.getElem_toArray, List.getElem_cons_zero, List.getElem_cons_succ, List.setIfInBounds_toArray, List.set_cons_zero, List.set_cons_succ]
          refine wpAnyH_take (i := 5) (v := ?vq1x5) rfl (by kernel_rfl) (by kernel_rfl) (by kernel_rfl) (fun _ _ _ h => h) (Or.inl ⟨by rfl, ?hyq1x5⟩) (by assumption) ?restq1x6
          case hyq1x5 => ((intro w hSw; (try dsimp only at hSw); go_simp) <;> with_reducible rfl)
          case restq1x6 =>
          try simp only [Act.put, List.getElem_toArray, List.getElem_cons_zero, List.getElem_cons_succ, List.setIfInBounds_toArray, List.set_cons_zero, List.set_cons_succ]
          refine wpAnyH_take (i := 6) (v := ?vq1x6) rfl (by kernel_rfl) (by kernel_rfl) (by kernel_rfl) (fun _ _ _ h => h) (Or.inl ⟨by rfl, ?hyq1x6⟩) (by assumption) ?restq1x7
          case hyq1x6 => ((intro w hSw; (try dsimp only at hSw); go_simp) <;> with_reducible rfl)
          case restq1x7 =>
          try simp only [Act.put, List.getElem_toArray, List.getElem_cons_zero, List.getElem_cons_succ, List.setIfInBounds_toArray, List.set_cons_zero, List.set_cons_succ]
          refine wpAnyH_take (i := 7) (v := ?vq1x7) rfl (by kernel_rfl) (by kernel_rfl) (by kernel_rfl) (fun _ _ _ h => h) (Or.inl ⟨by rfl, ?hyq1x7⟩) (by assumption) ?restq1x8
          case hyq1x7 => ((intro w hSw; (try dsimp only at hSw); go_simp) <;> with_reducible rfl)
          case restq1x8 =>
          try simp only [Act.put, List.getElem_toArray, List.getElem_cons_zero, List.getElem_cons_succ, List.setIfInBounds_toArray, List.set_cons_zero, List.set_cons_succ]
          refine wpAnyH_take (i := 8) (v := ?vq1x8) rfl (by kernel_rfl) (by kernel_rfl) (by kernel_rfl) (fun _ _ _ h => h) (Or.inl ⟨by rfl, ?hyq1x8⟩) (by assumption) ?restq1x9
          case hyq1x8 => ((intro w hSw; (try dsimp only at hSw); go_simp) <;> with_reducible rfl)
          case restq1x9 =>
          try simp only [Act.put, List.getElem_toArray, List.getElem_cons_zero, List.getElem_cons_succ, List.setIfInBounds_toArray, List.set_cons_zero, List.set_cons_succ]
          refine wpAnyH_take (i := 9) (v := ?vq1x9) rfl (by kernel_rfl) (by kernel_rfl) (by kernel_rfl) (fun _ _ _ h => h) (Or.inl ⟨by rfl, ?hyq1x9⟩) (by assumption) ?restq1x10
          case hyq1x9 => ((intro w hSw; (try dsimp only at hSw); go_simp) <;> with_reducible rfl)
          case restq1x10 =>
          try simp only [Act.put, List.getElem_toArray, List.getElem_cons_zero, List.getElem_cons_succ, List.setIfInBounds_toArray, List.set_cons_zero, List.set_cons_succ]
          refine wpAnyH_take (i := 10) (v := ?vq1x10) rfl (by kernel_rfl) (by kernel_rfl) (by kernel_rfl) (fun _ _ _ h => h) (Or.inl ⟨by rfl, ?hyq1x10⟩) (by assumption) ?restq1x11
          case hyq1x10 => ((intro w hSw; (try dsimp only at hSw); go_simp) <;> with_reducible rfl)
          case restq1x11 =>
          try simp only [Act.put, List.getElem_toArray, List.getElem_cons_zero, List.getElem_cons_succ, List.setIfInBounds_toArray, List.set_cons_zero, List.set_cons_succ]
          refine wpAnyH_take (i := 11) (v := ?vq1x11) rfl (by kernel_rfl) (by kernel_rfl) (by kernel_rfl) (fun _ _ _ h => h) (Or.inl ⟨by rfl, ?hyq1x11⟩) (by assumption) ?restq1x12
          case hyq1x11 => ((intro w hSw; (try dsimp only at hSw); go_simp) <;> with_reducible rfl)
          case restq1x12 =>
          try simp only [Act.put, List.getElem_toArray, List.getElem_cons_zero, List.getElem_cons_succ, List.setIfInBounds_toArray, List.set_cons_zero, List.set_cons_succ]
          refine wpAnyH_take (i := 12) (v := ?vq1x12) rfl (by kernel_rfl) (by kernel_rfl) (by kernel_rfl) (fun _ _ _ h => h) (Or.inl ⟨by rfl, ?hyq1x12⟩) (by assumption) ?restq1x13
          case hyq1x12 => ((intro w hSw; (try dsimp only at hSw); go_simp) <;> with_reducible rfl)
          case restq1x13 =>
          try simp only [Act.put, List.getElem_toArray, List.getElem_cons_zero, List.getElem_cons_succ, List.setIfInBounds_toArray, List.set_cons_zero, List.set_cons_succ]
          refine wpAnyH_take (i := 13) (v := ?vq1x13) rfl (by kernel_rfl) (by kernel_rfl) (by kernel_rfl) (fun _ _ _ h => h) (Or.inl ⟨by rfl, ?hyq1x13⟩) (by assumption) ?restq1x14
          case hyq1x13 => ((intro w hSw; (try dsimp only at hSw); go_simp) <;> with_reducible rfl)
          case restq1x14 =>
          try simp only [Act.put, List.getElem_toArray, List.getElem_cons_zero, List.getElem_cons_succ, List.setIfInBounds_toArray, List.set_cons_zero, List.set_cons_succ]
          refine wpAnyH_take (i := 14) (v := undef) rfl (by kernel_rfl) (by kernel_rfl) (by kernel_rfl) (fun _ _ _ h => h) (Or.inr ⟨by kernel_rfl, rfl⟩) (by assumption) ?_
          try simp only [Act.put, List.getElem_toArray, List.getElem_cons_zero, List.getElem_cons_succ, List.setIfInBounds_toArray, List.set_cons_zero, List.set_cons_succ]
          refine wpAnyH_take (i := 15) (v := undef) rfl (by kernel_rfl) (by kernel_rfl) (by kernel_rfl) (fun _ _ _ h => h) (Or.inr ⟨by kernel_rfl, rfl⟩) (by assumption) ?_
          try simp only [Act.put, List.getElem_toArray, List.getElem_cons_zero, List.getElem_cons_succ, List.setIfInBounds_toArray, List.set_cons_zero, List.set_cons_succ]
          refine wpAnyH_take (i := 16) (v := undef) rfl (by kernel_rfl) (by kernel_rfl) (by kernel_rfl) (fun _ _ _ h => h) (Or.inr ⟨by kernel_rfl, rfl⟩) (by assumption) ?_
          try simp only [Act.put, List.getElem_toArray, List.getElem_cons_zero, List.getElem_cons_succ, List.setIfInBounds_toArray, List.set_cons_zero, List.set_cons_succ]
          refine wpAnyH_take (i := 17) (v := undef) rfl (by kernel_rfl) (by kernel_rfl) (by kernel_rfl) (fun _ _ _ h => h) (Or.inr ⟨by kernel_rfl, rfl⟩) (by assumption) ?_
          try simp only [Act.put, List.getElem_toArray, List.getElem_cons_zero, List.getElem_cons_succ, List.setIfInBounds_toArray, List.set_cons_zero, List.set_cons_succ]
          refine wpAnyH_take (i := 18) (v := undef) rfl (by kernel_rfl) (by kernel_rfl) (by kernel_rfl) (fun _ _ _ h => h) (Or.inr ⟨by kernel_rfl, rfl⟩) (by assumption) ?_
          try simp only [Act.put, List.getElem_toArray, List.getElem_cons_zero, List.getElem_cons_succ, List.setIfInBounds_toArray, List.set_cons_zero, List.set_cons_succ]
          refine wpAnyH_take (i := 19) (v := undef) rfl (by kernel_rfl) (by kernel_rfl) (by kernel_rfl) (fun _ _ _ h => h) (Or.inr ⟨by kernel_rfl, rfl⟩) (by assumption) ?_
          try simp only [Act.put, List.getElem_toArray, List.getElem_cons_zero, List.getElem_cons_succ, List.setIfInBounds_toArray, List.set_cons_zero, List.set_cons_succ]
          refine wpAnyH_take (i := 20) (v := undef) rfl (by kernel_rfl) (by kernel_rfl) (by kernel_rfl) (fun _ _ _ h => h) (Or.inr ⟨by kernel_rfl, rfl⟩) (by assumption) ?_
          try simp only [Act.put, List.getElem_toArray, List.getElem_cons_zero, List.getElem_cons_succ, List.setIfInBounds_toArray, List.set_cons_zero, List.set_cons_succ]
          refine wpAnyH_take (i := 21) (v := undef) rfl (by kernel_rfl) (by kernel_rfl) (by kernel_rfl) (fun _ _ _ h => h) (Or.inr ⟨by kernel_rfl, rfl⟩) (by assumption) ?_
          try simp only [Act.put, List.getElem_toArray, List.getElem_cons_zero, List.getElem_cons_succ, List.setIfInBounds_toArray, List.set_cons_zero, List.set_cons_succ]
          refine wpAnyH_take (i := 22) (v := undef) rfl (by kernel_rfl) (by kernel_rfl) (by kernel_rfl) (fun _ _ _ h => h) (Or.inr ⟨by kernel_rfl, rfl⟩) (by assumption) ?_
          try simp only [Act.put, List.getElem_toArray, List.getElem_cons_zero, List.getElem_cons_succ, List.setIfInBounds_toArray, List.set_cons_zero, List.set_cons_succ]
          refine wpAnyH_take (i := 23) (v := ?vq1x23) rfl (by kernel_rfl) (by kernel_rfl) (by kernel_rfl) (fun _ _ _ h => h) (Or.inl ⟨by rfl, ?hyq1x23⟩) (by assumption) ?restq1x24
          case hyq1x23 => ((intro w hSw; (try dsimp only at hSw); go_simp) <;> with_reducible rfl)
          case restq1x24 =>
          try simp only [Act.put, List.getElem_toArray, List.getElem_cons_zero, List.getElem_cons_succ, List.setIfInBounds_toArray, List.set_cons_zero, List.set_cons_succ]
          refine wpAnyH_take (i := 24) (v := ?vq1x24) rfl (by kernel_rfl) (by kernel_rfl) (by kernel_rfl) (fun _ _ _ h => h) (Or.inl ⟨by rfl, ?hyq1x24⟩) (by assumption) ?restq1x25
          case hyq1x24 => ((intro w hSw; (try dsimp only at hSw); go_simp) <;> with_reducible rfl)
          case restq1x25 =>
          try simp only [Act.put, List.getElem_toArray, List.getElem_cons_zero, List.getElem_cons_succ, List.setIfInBounds_toArray, List.set_cons_zero, List.set_cons_succ]
          refine wpAnyH_done (by kernel_rfl) ?_ _
          have HB6 : Hid (Below w3.heap.size w3 w5.drew) := lhide ((lunhide HB5).trans (hS.mono (lunhide HB5).size))
          clear d0 d1 d2 d3 d4 d5 n0 n1 n2
          obtain ⟨d0, d1, d2, d3, d4, d5⟩ := lunhide HX5 _ hS
          clear hS
          generalize w5.drew = w6 at HB6 d0 d1 d2 d3 d4 d5 ⊢
          have q1 := lunhide HQ1
          have q2 := lunhide HQ2
          clear HQ1 HQ2
          rcases q1 with ⟨rfl, t1, t2, t3⟩ | ⟨rfl, t1, t2⟩ | ⟨rfl, t1⟩ | ⟨rfl, t1, t2, t3, t4⟩ | ⟨rfl, t1⟩ | ⟨rfl, t1, t2, t3⟩
          · obtain ⟨t3, hdum⟩ : x.size ≤ 24 ∧ True := ⟨by rw [lsize] at t3; exact t3, trivial⟩
            obtain ⟨rfl, hy0, rfl⟩ := q2 (by decide)
            obtain rfl : y = ⟨#[]⟩ := bext hy0
            rw [lsize] at t1
            have hxp : 0 < x.size := by omega
            have hx0 : x[0]'hxp = ch := by rw [ch_eq _ x rfl hxp]; exact t2
            have x1 : (0 : Int) < (x.size : Int) := by omega
            have x2 : (x.size : Int) ≤ 24 := by omega
            clear t1 t2 t3 hdum hy0
            clear q2 HX5
            go_wp2_with fail
            go_roundw
            case rel => exact ⟨k + 1, by go_num, hlt, lunhide HB6⟩
            case measure => simp [intOf]; omega
          · rw [lsize] at t2
            obtain ⟨rfl, hy0, rfl⟩ := q2 (by decide)
            obtain rfl : y = ⟨#[]⟩ := bext hy0
            subst t1
            have x1 : (0 : Int) < (x.size : Int) := by omega
            clear t2 hy0
            clear q2 HX5
            go_wp2_with fail
            go_roundw
            case rel => exact ⟨k + 1, by go_num, hlt, lunhide HB6⟩
            case measure => simp [intOf]; omega
          · skip
            obtain ⟨rfl, hy0, rfl⟩ := q2 (by decide)
            obtain rfl : y = ⟨#[]⟩ := bext hy0
            subst t1
            clear hy0
            clear q2 HX5
            go_wp2_with fail
            go_roundw
            case rel => exact ⟨k + 1, by go_num, hlt, lunhide HB6⟩
            case measure => simp [intOf]; omega
          · obtain rfl : x = ⟨#[]⟩ := bext t3
            obtain rfl := t4
            have x1 : (48 : Int) ≤ (ch.toNat : Int) := by omega
            have x2 : (ch.toNat : Int) ≤ 57 := by omega
            clear t1 t2 t3
            clear q2 HX5
            go_wp2_with fail
            go_roundw
            case rel => exact ⟨k + 1, by go_num, hlt, lunhide HB6⟩
            case measure => simp [intOf]; omega
          · skip
            obtain ⟨rfl, hy0, rfl⟩ := q2 (by decide)
            obtain rfl : y = ⟨#[]⟩ := bext hy0
            subst t1
            clear hy0
            clear q2 HX5
            go_wp2_with fail
            go_roundw
            case rel => exact ⟨k + 1, by go_num, hlt, lunhide HB6⟩
            case measure => simp [intOf]; omega
          · rw [lsize] at t2
            obtain ⟨rfl, hy0, rfl⟩ := q2 (by decide)
            obtain rfl : y = ⟨#[]⟩ := bext hy0
            rw [lsize] at t1
            have hxp : 0 < x.size := by omega
            have hx0 : x[0]'hxp = ch := by rw [ch_eq _ x rfl hxp]; exact t3
            have x1 : (0 : Int) < (x.size : Int) := by omega
            have x2 : (x.size : Int) ≤ 2 := by omega
            clear t1 t2 t3 hy0
            clear q2 HX5
            go_wp2_with fail
            go_roundw
            case rel => exact ⟨k + 1, by go_num, hlt, lunhide HB6⟩
            case measure => simp [intOf]; omega
        · have n2 : decide (0 < k) = true := decide_eq_true (by omega)
          obtain ⟨j, pp, hj, hkw, v1, v2⟩ := lunhide hprev5 (by omega)
          have n3 : decide (pos ≤ pp) = false := decide_eq_false (by omega)
          have HV1 : Hid (∀ W, Below w5.heap.size w5 W → W.cell? ⟨g, j * 6 + 1, none⟩ = some (.int .i64 (pp : Int))) := lhide (fun W hW => (hW.cell (p := ⟨g, j * 6 + 1, none⟩) (World.block_lt_of_cell? _ _ v1)).trans v1)
          clear hprev5 hk0 v2 v1
          have hS : Below w5.heap.size w5 w5.drew := (Below.refl _ _).drew
          refine wp_region_held_drew (S := (fun W => W.cell? ⟨wr.heap.size, 1, none⟩ = some (.int .i64 (pos : Int)) ∧ W.cell? ⟨g, j * 6 + 1, none⟩ = some (.int .i64 (pp : Int)))) (by kernel_rfl) ?hS0q2x (fun hHeld => ?restq2x0)
          case hS0q2x => first | (dsimp only; (exact ⟨(lunhide HX5 _ hS).2.1, lunhide HV1 _ hS⟩)) | (exact ⟨(lunhide HX5 _ hS).2.1, lunhide HV1 _ hS⟩)
          case restq2x0 =>
          refine wpAnyH_take (i := 0) (v := ?vq2x0) rfl (by kernel_rfl) (by kernel_rfl) (by kernel_rfl) (fun _ _ _ h => h) (Or.inl ⟨by rfl, ?hyq2x0⟩) (by assumption) ?restq2x1
          case hyq2x0 => ((intro w hSw; (try dsimp only at hSw); go_simp) <;> with_reducible rfl)
          case restq2x1 =>
          try simp only [Act.put, List.getElem_toArray, List.getElem_cons_zero, List.getElem_cons_succ, List.setIfInBounds_toArray, List.set_cons_zero, List.set_cons_succ]
          refine wpAnyH_take (i := 1) (v := ?vq2x1) rfl (by kernel_rfl) (by kernel_rfl) (by kernel_rfl) (fun _ _ _ h => h) (Or.inl ⟨by rfl, ?hyq2x1⟩) (by assumption) ?restq2x2
          case hyq2x1 => ((intro w hSw; (try dsimp only at hSw); go_simp) <;> with_reducible rfl)
          case restq2x2 =>
          try simp only [Act.put, List.getElem_toArray, List.getElem_cons_zero, List.getElem_cons_succ, List.setIfInBounds_toArray, List.set_cons_zero, List.set_cons_succ]
          refine wpAnyH_take (i := 2) (v := ?vq2x2) rfl (by kernel_rfl) (by kernel_rfl) (by kernel_rfl) (fun _ _ _ h => h) (Or.inl ⟨by rfl, ?hyq2x2⟩) (by assumption) ?restq2x3
          case hyq2x2 => ((intro w hSw; (try dsimp only at hSw); go_simp) <;> with_reducible rfl)
          case restq2x3 =>
          try simp only [Act.put, List.getElem_toArray, List.getElem_cons_zero, List.getElem_cons_succ, List.setIfInBounds_toArray, List.set_cons_zero, List.set_cons_succ]
          refine wpAnyH_take (i := 3) (v := ?vq2x3) rfl (by kernel_rfl) (by kernel_rfl) (by kernel_rfl) (fun _ _ _ h => h) (Or.inl ⟨by rfl, ?hyq2x3⟩) (by assumption) ?restq2x4
          case hyq2x3 => ((intro w hSw; (try dsimp only at hSw); go_simp) <;> with_reducible rfl)
          case restq2x4 =>
          try simp only [Act.put, List.getElem_toArray, List.getElem_cons_zero, List.getElem_cons_succ, List.setIfInBounds_toArray, List.set_cons_zero, List.set_cons_succ]
          refine wpAnyH_take (i := 4) (v := ?vq2x4) rfl (by kernel_rfl) (by kernel_rfl) (by kernel_rfl) (fun _ _ _ h => h) (Or.inl ⟨by rfl, ?hyq2x4⟩) (by assumption) ?restq2x5
          case hyq2x4 => ((intro w hSw; (try dsimp only at hSw); go_simp) <;> with_reducible rfl)
          case restq2x5 =>
          try simp only [Act.put, List.getElem_toArray, List.getElem_cons_zero, List.getElem_cons_succ, List.setIfInBounds_toArray, List.set_cons_zero, List.set_cons_succ]
          refine wpAnyH_take (i := 5) (v := ?vq2x5) rfl (by kernel_rfl) (by kernel_rfl) (by kernel_rfl) (fun _ _ _ h => h) (Or.inl ⟨by rfl, ?hyq2x5⟩) (by assumption) ?restq2x6
          case hyq2x5 => ((intro w hSw; (try dsimp only at hSw); go_simp) <;> with_reducible rfl)
          case restq2x6 =>
          try simp only [Act.put, List.getElem_toArray, List.getElem_cons_zero, List.getElem_cons_succ, List.setIfInBounds_toArray, List.set_cons_zero, List.set_cons_succ]
          refine wpAnyH_take (i := 6) (v := ?vq2x6) rfl (by kernel_rfl) (by kernel_rfl) (by kernel_rfl) (fun _ _ _ h => h) (Or.inl ⟨by rfl, ?hyq2x6⟩) (by assumption) ?restq2x7
          case hyq2x6 => ((intro w hSw; (try dsimp only at hSw); go_simp) <;> with_reducible rfl)
          case restq2x7 =>
          try simp only [Act.put, List.getElem_toArray, List.getElem_cons_zero, List.getElem_cons_succ, List.setIfInBounds_toArray, List.set_cons_zero, List.set_cons_succ]
          refine wpAnyH_take (i := 7) (v := ?vq2x7) rfl (by kernel_rfl) (by kernel_rfl) (by kernel_rfl) (fun _ _ _ h => h) (Or.inl ⟨by rfl, ?hyq2x7⟩) (by assumption) ?restq2x8
          case hyq2x7 => ((intro w hSw; (try dsimp only at hSw); go_simp) <;> with_reducible rfl)
          case restq2x8 =>
          try simp only [Act.put, List.getElem_toArray, List.getElem_cons_zero, List.getElem_cons_succ, List.setIfInBounds_toArray, List.set_cons_zero, List.set_cons_succ]
          refine wpAnyH_take (i := 8) (v := ?vq2x8) rfl (by kernel_rfl) (by kernel_rfl) (by kernel_rfl) (fun _ _ _ h => h) (Or.inl ⟨by rfl, ?hyq2x8⟩) (by assumption) ?restq2x9
          case hyq2x8 => ((intro w hSw; (try dsimp only at hSw); go_simp) <;> with_reducible rfl)
          case restq2x9 =>
          try simp only [Act.put, List.getElem_toArray, List.getElem_cons_zero, List.getElem_cons_succ, List.setIfInBounds_toArray, List.set_cons_zero, List.set_cons_succ]
          refine wpAnyH_take (i := 9) (v := ?vq2x9) rfl (by kernel_rfl) (by kernel_rfl) (by kernel_rfl) (fun _ _ _ h => h) (Or.inl ⟨by rfl, ?hyq2x9⟩) (by assumption) ?restq2x10
          case hyq2x9 => ((intro w hSw; (try dsimp only at hSw); go_simp) <;> with_reducible rfl)
          case restq2x10 =>
          try simp only [Act.put, List.getElem_toArray, List.getElem_cons_zero, List.getElem_cons_succ, List.setIfInBounds_toArray, List.set_cons_zero, List.set_cons_succ]
          refine wpAnyH_take (i := 10) (v := ?vq2x10) rfl (by kernel_rfl) (by kernel_rfl) (by kernel_rfl) (fun _ _ _ h => h) (Or.inl ⟨by rfl, ?hyq2x10⟩) (by assumption) ?restq2x11
          case hyq2x10 => ((intro w hSw; (try dsimp only at hSw); go_simp) <;> with_reducible rfl)
          case restq2x11 =>
          try simp only [Act.put, List.getElem_toArray, List.getElem_cons_zero, List.getElem_cons_succ, List.setIfInBounds_toArray, List.set_cons_zero, List.set_cons_succ]
          refine wpAnyH_take (i := 11) (v := ?vq2x11) rfl (by kernel_rfl) (by kernel_rfl) (by kernel_rfl) (fun _ _ _ h => h) (Or.inl ⟨by rfl, ?hyq2x11⟩) (by assumption) ?restq2x12
          case hyq2x11 => ((intro w hSw; (try dsimp only at hSw); go_simp) <;> with_reducible rfl)
          case restq2x12 =>
          try simp only [Act.put, List.getElem_toArray, List.getElem_cons_zero, List.getElem_cons_succ, List.setIfInBounds_toArray, List.set_cons_zero, List.set_cons_succ]
          refine wpAnyH_take (i := 12) (v := ?vq2x12) rfl (by kernel_rfl) (by kernel_rfl) (by kernel_rfl) (fun _ _ _ h => h) (Or.inl ⟨by rfl, ?hyq2x12⟩) (by assumption) ?restq2x13
          case hyq2x12 => ((intro w hSw; (try dsimp only at hSw); go_simp) <;> with_reducible rfl)
          case restq2x13 =>
          try simp only [Act.put, List.getElem_toArray, List.getElem_cons_zero, List.getElem_cons_succ, List.setIfInBounds_toArray, List.set_cons_zero, List.set_cons_succ]
          refine wpAnyH_take (i := 13) (v := ?vq2x13) rfl (by kernel_rfl) (by kernel_rfl) (by kernel_rfl) (fun _ _ _ h => h) (Or.inl ⟨by rfl, ?hyq2x13⟩) (by assumption) ?restq2x14
          case hyq2x13 => ((intro w hSw; (try dsimp only at hSw); go_simp) <;> with_reducible rfl)
          case restq2x14 =>
          try simp only [Act.put, List.getElem_toArray, List.getElem_cons_zero, List.getElem_cons_succ, List.setIfInBounds_toArray, List.set_cons_zero, List.set_cons_succ]
          refine wpAnyH_take (i := 14) (v := ?vq2x14) rfl (by kernel_rfl) (by kernel_rfl) (by kernel_rfl) (fun _ _ _ h => h) (Or.inl ⟨by rfl, ?hyq2x14⟩) (by assumption) ?restq2x15
          case hyq2x14 => ((intro w hSw; (try dsimp only at hSw); go_simp) <;> with_reducible rfl)
          case restq2x15 =>
          try simp only [Act.put, List.getElem_toArray, List.getElem_cons_zero, List.getElem_cons_succ, List.setIfInBounds_toArray, List.set_cons_zero, List.set_cons_succ]
          refine wpAnyH_take (i := 15) (v := ?vq2x15) rfl (by kernel_rfl) (by kernel_rfl) (by kernel_rfl) (fun _ _ _ h => h) (Or.inl ⟨by rfl, ?hyq2x15⟩) (by assumption) ?restq2x16
          case hyq2x15 => ((intro w hSw; (try dsimp only at hSw); go_simp) <;> with_reducible rfl)
          case restq2x16 =>
          try simp only [Act.put, List.getElem_toArray, List.getElem_cons_zero, List.getElem_cons_succ, List.setIfInBounds_toArray, List.set_cons_zero, List.set_cons_succ]
          refine wpAnyH_take (i := 16) (v := ?vq2x16) rfl (by kernel_rfl) (by kernel_rfl) (by kernel_rfl) (fun _ _ _ h => h) (Or.inl ⟨by rfl, ?hyq2x16⟩) (by assumption) ?restq2x17
          case hyq2x16 => ((intro w hSw; (try dsimp only at hSw); go_simp) <;> with_reducible rfl)
          case restq2x17 =>
          try simp only [Act.put, List.getElem_toArray, List.getElem_cons_zero, List.getElem_cons_succ, List.setIfInBounds_toArray, List.set_cons_zero, List.set_cons_succ]
          refine wpAnyH_take (i := 17) (v := ?vq2x17) rfl (by kernel_rfl) (by kernel_rfl) (by kernel_rfl) (fun _ _ _ h => h) (Or.inl ⟨by rfl, ?hyq2x17⟩) (by assumption) ?restq2x18
          case hyq2x17 => ((intro w hSw; (try dsimp only at hSw); go_simp) <;> with_reducible rfl)
          case restq2x18 =>
          try simp only [Act.put, List.getElem_toArray, List.getElem_cons_zero, List.getElem_cons_succ, List.setIfInBounds_toArray, List.set_cons_zero, List.set_cons_succ]
          refine wpAnyH_take (i := 18) (v := ?vq2x18) rfl (by kernel_rfl) (by kernel_rfl) (by kernel_rfl) (fun _ _ _ h => h) (Or.inl ⟨by rfl, ?hyq2x18⟩) (by assumption) ?restq2x19
          case hyq2x18 => ((intro w hSw; (try dsimp only at hSw); go_simp) <;> with_reducible rfl)
          case restq2x19 =>
          try simp only [Act.put, List.getElem_toArray, List.getElem_cons_zero, List.getElem_cons_succ, List.setIfInBounds_toArray, List.set_cons_zero, List.set_cons_succ]
          refine wpAnyH_take (i := 19) (v := ?vq2x19) rfl (by kernel_rfl) (by kernel_rfl) (by kernel_rfl) (fun _ _ _ h => h) (Or.inl ⟨by rfl, ?hyq2x19⟩) (by assumption) ?restq2x20
          case hyq2x19 => ((intro w hSw; (try dsimp only at hSw); go_simp) <;> with_reducible rfl)
          case restq2x20 =>
          try simp only [Act.put, List.getElem_toArray, List.getElem_cons_zero, List.getElem_cons_succ, List.setIfInBounds_toArray, List.set_cons_zero, List.set_cons_succ]
          refine wpAnyH_take (i := 20) (v := ?vq2x20) rfl (by kernel_rfl) (by kernel_rfl) (by kernel_rfl) (fun _ _ _ h => h) (Or.inl ⟨by rfl, ?hyq2x20⟩) (by assumption) ?restq2x21
          case hyq2x20 => ((intro w hSw; (try dsimp only at hSw); go_simp) <;> with_reducible rfl)
          case restq2x21 =>
          try simp only [Act.put, List.getElem_toArray, List.getElem_cons_zero, List.getElem_cons_succ, List.setIfInBounds_toArray, List.set_cons_zero, List.set_cons_succ]
          refine wpAnyH_take (i := 21) (v := ?vq2x21) rfl (by kernel_rfl) (by kernel_rfl) (by kernel_rfl) (fun _ _ _ h => h) (Or.inl ⟨by rfl, ?hyq2x21⟩) (by assumption) ?restq2x22
          case hyq2x21 => ((intro w hSw; (try dsimp only at hSw); go_simp) <;> with_reducible rfl)
          case restq2x22 =>
          try simp only [Act.put, List.getElem_toArray, List.getElem_cons_zero, List.getElem_cons_succ, List.setIfInBounds_toArray, List.set_cons_zero, List.set_cons_succ]
          refine wpAnyH_take (i := 22) (v := ?vq2x22) rfl (by kernel_rfl) (by kernel_rfl) (by kernel_rfl) (fun _ _ _ h => h) (Or.inl ⟨by rfl, ?hyq2x22⟩) (by assumption) ?restq2x23
          case hyq2x22 => ((intro w hSw; (try dsimp only at hSw); go_simp) <;> with_reducible rfl)
          case restq2x23 =>
          try simp only [Act.put, List.getElem_toArray, List.getElem_cons_zero, List.getElem_cons_succ, List.setIfInBounds_toArray, List.set_cons_zero, List.set_cons_succ]
          refine wpAnyH_take (i := 23) (v := ?vq2x23) rfl (by kernel_rfl) (by kernel_rfl) (by kernel_rfl) (fun _ _ _ h => h) (Or.inl ⟨by rfl, ?hyq2x23⟩) (by assumption) ?restq2x24
          case hyq2x23 => ((intro w hSw; (try dsimp only at hSw); go_simp) <;> with_reducible rfl)
          case restq2x24 =>
          try simp only [Act.put, List.getElem_toArray, List.getElem_cons_zero, List.getElem_cons_succ, List.setIfInBounds_toArray, List.set_cons_zero, List.set_cons_succ]
          refine wpAnyH_take (i := 24) (v := ?vq2x24) rfl (by kernel_rfl) (by kernel_rfl) (by kernel_rfl) (fun _ _ _ h => h) (Or.inl ⟨by rfl, ?hyq2x24⟩) (by assumption) ?restq2x25
          case hyq2x24 => ((intro w hSw; (try dsimp only at hSw); go_simp) <;> with_reducible rfl)
          case restq2x25 =>
          try simp only [Act.put, List.getElem_toArray, List.getElem_cons_zero, List.getElem_cons_succ, List.setIfInBounds_toArray, List.set_cons_zero, List.set_cons_succ]
          refine wpAnyH_done (by kernel_rfl) ?_ _
          have HB6 : Hid (Below w3.heap.size w3 w5.drew) := lhide ((lunhide HB5).trans (hS.mono (lunhide HB5).size))
          clear d0 d1 d2 d3 d4 d5 n0 n1 n2 n3 hkw hj
          obtain ⟨d0, d1, d2, d3, d4, d5⟩ := lunhide HX5 _ hS
          clear hS
          generalize w5.drew = w6 at HB6 d0 d1 d2 d3 d4 d5 ⊢
          have q1 := lunhide HQ1
          have q2 := lunhide HQ2
          clear HQ1 HQ2
          rcases q1 with ⟨rfl, t1, t2, t3⟩ | ⟨rfl, t1, t2⟩ | ⟨rfl, t1⟩ | ⟨rfl, t1, t2, t3, t4⟩ | ⟨rfl, t1⟩ | ⟨rfl, t1, t2, t3⟩
          · obtain ⟨t3, hdum⟩ : x.size ≤ 24 ∧ True := ⟨by rw [lsize] at t3; exact t3, trivial⟩
            obtain ⟨rfl, hy0, rfl⟩ := q2 (by decide)
            obtain rfl : y = ⟨#[]⟩ := bext hy0
            rw [lsize] at t1
            have hxp : 0 < x.size := by omega
            have hx0 : x[0]'hxp = ch := by rw [ch_eq _ x rfl hxp]; exact t2
            have x1 : (0 : Int) < (x.size : Int) := by omega
            have x2 : (x.size : Int) ≤ 24 := by omega
            clear t1 t2 t3 hdum hy0
            clear q2 HX5
            go_wp2_with fail
            go_roundw
            case rel => exact ⟨k + 1, by go_num, hlt, lunhide HB6⟩
            case measure => simp [intOf]; omega
          · rw [lsize] at t2
            obtain ⟨rfl, hy0, rfl⟩ := q2 (by decide)
            obtain rfl : y = ⟨#[]⟩ := bext hy0
            subst t1
            have x1 : (0 : Int) < (x.size : Int) := by omega
            clear t2 hy0
            clear q2 HX5
            go_wp2_with fail
            go_roundw
            case rel => exact ⟨k + 1, by go_num, hlt, lunhide HB6⟩
            case measure => simp [intOf]; omega
          · skip
            obtain ⟨rfl, hy0, rfl⟩ := q2 (by decide)
            obtain rfl : y = ⟨#[]⟩ := bext hy0
            subst t1
            clear hy0
            clear q2 HX5
            go_wp2_with fail
            go_roundw
            case rel => exact ⟨k + 1, by go_num, hlt, lunhide HB6⟩
            case measure => simp [intOf]; omega
          · obtain rfl : x = ⟨#[]⟩ := bext t3
            obtain rfl := t4
            have x1 : (48 : Int) ≤ (ch.toNat : Int) := by omega
            have x2 : (ch.toNat : Int) ≤ 57 := by omega
            clear t1 t2 t3
            clear q2 HX5
            go_wp2_with fail
            go_roundw
            case rel => exact ⟨k + 1, by go_num, hlt, lunhide HB6⟩
            case measure => simp [intOf]; omega
          · skip
            obtain ⟨rfl, hy0, rfl⟩ := q2 (by decide)
            obtain rfl : y = ⟨#[]⟩ := bext hy0
            subst t1
            clear hy0
            clear q2 HX5
            go_wp2_with fail
            go_roundw
            case rel => exact ⟨k + 1, by go_num, hlt, lunhide HB6⟩
            case measure => simp [intOf]; omega
          · rw [lsize] at t2
            obtain ⟨rfl, hy0, rfl⟩ := q2 (by decide)
            obtain rfl : y = ⟨#[]⟩ := bext hy0
            rw [lsize] at t1
            have hxp : 0 < x.size := by omega
            have hx0 : x[0]'hxp = ch := by rw [ch_eq _ x rfl hxp]; exact t3
            have x1 : (0 : Int) < (x.size : Int) := by omega
            have x2 : (x.size : Int) ≤ 2 := by omega
            clear t1 t2 t3 hy0
            clear q2 HX5
            go_wp2_with fail
            go_roundw
            case rel => exact ⟨k + 1, by go_num, hlt, lunhide HB6⟩
            case measure => simp [intOf]; omega
      · have hki : ¬ (k : Int) < (T.length : Int) := by omega
        obtain rfl : k = T.length := by omega
        have h6 : (T.length : Int) ≤ 600 := by omega
        have HB4 := lhide ((lunhide HB3).trans (hBr.mono (lunhide HB3).size))
        clear hBr
        go_wp2_with fail
        go_ret
        exact ⟨rfl, lunhide HB4⟩
  · have hne : ((er : Int) != 0) = true := bne_iff_ne.2 (by omega)
    have hne2 : ¬ (er : Int) = 0 := by omega
    have hT0 := lunhide HE0 h0
    subst hT0
    clear HE0 HE1 h0
    go_wp2_with fail
    go_ret
    exact ⟨rfl, lunhide HB3⟩
end Go.Proofs.YtppkknmgdahniabDoor.Lex
