/- What is proved here: what Add of package dec does with decimals of unlike signs, walked; conditions: both may be. -/
import Derived.Test.YtmlmplmghlbdmaaGreatDoorWt
import Derived.Test.YtmlmplmghlbdmaaGreatDoorWv
namespace Go.Proofs.YtmlmplmghlbdmaaGreatDoor
open Go.RowKit
set_option linter.unusedVariables false
set_option linter.unusedSimpArgs false

theorem cmpN_flip {P Q : Nat} (h : 0 ≤ Dm.cmpN P Q) : Dm.cmpN Q P ≤ 0 := by
  unfold Dm.cmpN at *
  by_cases g : P < Q
  · rw [if_pos g] at h; omega
  · by_cases g2 : Q < P
    · rw [if_pos g2]; decide
    · rw [if_neg g2, if_neg g]; decide
theorem diff_sgn {x x2 : Bool} (hx : (x != x2) = true) {A B L : Nat} (h : (L : Int) = ((B : Nat) : Int) + (-1) * ((A : Nat) : Int)) : Dm.sgn x2 L = Dm.sgn x A + Dm.sgn x2 B := by
  unfold Dm.sgn
  cases x <;> cases x2 <;> simp at hx ⊢ <;> omega
theorem diff_pos {A B z z2 n : Nat} (h : Dm.cmpN (A * 10 ^ z2) (B * 10 ^ z) ≤ 0) (hz : z ≤ n) (hz2 : z2 ≤ n) : 0 ≤ ((B * 10 ^ (n - z2) : Nat) : Int) + (-1) * ((A * 10 ^ (n - z) : Nat) : Int) := by
  have h1 : A * 10 ^ z2 ≤ B * 10 ^ z := by
    apply Classical.byContradiction
    intro g
    unfold Dm.cmpN at h
    rw [if_neg (by omega), if_pos (by omega)] at h
    omega
  have h2 : A * 10 ^ (n - z) * 10 ^ (z + z2) ≤ B * 10 ^ (n - z2) * 10 ^ (z + z2) := by
    have e1 : A * 10 ^ (n - z) * 10 ^ (z + z2) = A * 10 ^ z2 * 10 ^ n := by
      rw [Nat.mul_assoc, ← Nat.pow_add, Nat.mul_assoc, ← Nat.pow_add]; congr 2; omega
    have e2 : B * 10 ^ (n - z2) * 10 ^ (z + z2) = B * 10 ^ z * 10 ^ n := by
      rw [Nat.mul_assoc, ← Nat.pow_add, Nat.mul_assoc, ← Nat.pow_add]; congr 2; omega
    rw [e1, e2]
    exact Nat.mul_le_mul_right _ h1
  have h3 := Nat.le_of_mul_le_mul_right h2 (Dm.pow_pos' (z + z2))
  omega
theorem Tri.swap {w w6 : World} {a b c x y z : Value} (ht : Tri w a b c x y z w6) (hA : Own3 w.heap.size a b c w6) (hB : Own3 (w.heap.size + 1) x y z w6) : Tri w x y z a b c (set3 (set3 w6 w.heap.size x y z) (w.heap.size + 1) a b c) := by
  have hA' := (hA.store x y z).store_other (b := w.heap.size + 1) (by omega) a b c
  have hB' := (hB.store_other (b := w.heap.size) (by omega) x y z).store a b c
  obtain ⟨⟨t1, t2, _, _⟩, t3, ⟨o0, o1, o2⟩, ⟨p0, p1, p2⟩⟩ := ht
  refine ⟨⟨set3_below (set3_below t1 (Nat.le_refl _) _ _ _) (by omega) _ _ _, by rw [set3_size, set3_size]; exact t2, hA'.1.2, hB'.1.2⟩, by rw [set3_size, set3_size]; exact t3, ⟨?_, ?_, ?_⟩, ⟨?_, ?_, ?_⟩⟩
  · rw [set3_cell _ _ _ _ _ _ _ (by omega), set3_cell _ _ _ _ _ _ _ (by omega)]; exact o0
  · rw [set3_cell _ _ _ _ _ _ _ (by omega), set3_cell _ _ _ _ _ _ _ (by omega)]; exact o1
  · rw [set3_cell _ _ _ _ _ _ _ (by omega), set3_cell _ _ _ _ _ _ _ (by omega)]; exact o2
  · unfold set3; simp only [World.frozen?_setCell]; exact p0
  · unfold set3; simp only [World.frozen?_setCell]; exact p1
  · unfold set3; simp only [World.frozen?_setCell]; exact p2

set_option maxRecDepth 100000 in
set_option maxHeartbeats 1000000 in
theorem add_diff (x : Bool) (y : List UInt8) (z : Nat) (x2 : Bool) (y2 : List UInt8) (z2 n : Nat) (w : World) (h : Dm.May ⟨x, y, z⟩) (h2 : Dm.May ⟨x2, y2, z2⟩) (hxx : (x != x2) = true) (hn : max (z : Int) (z2 : Int) = (n : Int)) :
    Calls Tryz.prog 68 #[.agg #[.bool x, .string ⟨y.toArray⟩, .int .i64 (z : Int)], .agg #[.bool x2, .string ⟨y2.toArray⟩, .int .i64 (z2 : Int)]] w fun e w' => ∃ r, e = .returned (tV r) ∧ Dm.Rep (Dm.sgn x (Dm.num y * 10 ^ (n - z)) + Dm.sgn x2 (Dm.num y2 * 10 ^ (n - z2))) n r ∧ Below w.heap.size w w' := by
  have ht := Tri.start w (.bool x) (.string ⟨y.toArray⟩) (.int .i64 (z : Int)) (.bool x2) (.string ⟨y2.toArray⟩) (.int .i64 (z2 : Int)) 23
  have hA := ((Own3.start w (.bool x) (.string ⟨y.toArray⟩) (.int .i64 (z : Int)) 23).next ((Below.refl _ _).alloc (Nat.le_refl _) (.cells #[.bool x2, .string ⟨y2.toArray⟩, .int .i64 (z2 : Int)] 23))).next ((Below.refl _ _).alloc (Nat.le_refl _) (.cells #[.bool false, .string ⟨#[]⟩, .int .i64 0] 23))
  have hB := (Own3.start (w.alloc (.cells #[.bool x, .string ⟨y.toArray⟩, .int .i64 (z : Int)] 23)) (.bool x2) (.string ⟨y2.toArray⟩) (.int .i64 (z2 : Int)) 23).next ((Below.refl _ _).alloc (Nat.le_refl _) (.cells #[.bool false, .string ⟨#[]⟩, .int .i64 0] 23))
  have hsz1 : (w.alloc (.cells #[.bool x, .string ⟨y.toArray⟩, .int .i64 (z : Int)] 23)).heap.size = w.heap.size + 1 := by simp
  rw [hsz1] at hB
  clear hsz1
  have hxe : (!x == x2) = true := by rw [← hxx]; cases x <;> cases x2 <;> rfl
  have hn' : max (z2 : Int) (z : Int) = (n : Int) := by omega
  obtain ⟨l1, l2, l3⟩ := may_len h
  obtain ⟨m1, m2, m3⟩ := may_len h2
  simp only at l1 l2 l3 m1 m2 m3
  have hsa : (⟨y.toArray⟩ : ByteArray).size ≤ maxLen := by rw [mk_size]; unfold maxLen; omega
  have hsb : (⟨y2.toArray⟩ : ByteArray).size ≤ maxLen := by rw [mk_size]; unfold maxLen; omega
  have hn60 : n ≤ 60 := by omega
  have hja : z ≤ n := by omega
  have hjb : z2 ≤ n := by omega
  have hda : Dm.allD (⟨y.toArray⟩ : ByteArray).data.toList := by rw [mk_list]; exact h.1
  have hdb : Dm.allD (⟨y2.toArray⟩ : ByteArray).data.toList := by rw [mk_list]; exact h2.1
  have ha : (⟨y.toArray⟩ : ByteArray).size ≤ 60 := by rw [mk_size]; exact l2
  have hb : (⟨y2.toArray⟩ : ByteArray).size ≤ 60 := by rw [mk_size]; exact m2
  have HMA : Hid (Dm.mayB x (⟨y.toArray⟩ : ByteArray).data.toList (z : Int) = true) := hide (dV_may h)
  have HMB : Hid (Dm.mayB x2 (⟨y2.toArray⟩ : ByteArray).data.toList (z2 : Int) = true) := hide (dV_may h2)
  obtain ⟨c, hc⟩ : ∃ c, Dm.cmpN (Dm.num y * 10 ^ z2) (Dm.num y2 * 10 ^ z) = c := ⟨_, rfl⟩
  have hr := cmpN_range _ _ c hc
  have HC := hide hc
  clear hc
  by_cases hlt : c < 0
  · have tok1 : True := trivial
    have tok2 : True := trivial
    have hneg : c = -1 := by omega
    subst hneg
    go_enter Tryz.func68, Tryz.ntmps68
    go_wp2_with (first | (go_at_call 31; have _t := tok1; refine (may_b x ⟨y.toArray⟩ z true _ hsa (unhide HMA)).mono ?_; rintro e w1 ⟨rfl, hb1⟩; have ht1 := ht.next hb1; replace hA := hA.next hb1; replace hB := hB.next hb1; clear tok1 _t ht hb1; obtain ⟨⟨c0, c1, c2⟩, ⟨d0, d1, d2⟩⟩ := ht1.cells) | (go_at_call 31; have _t := tok2; refine (may_b x2 ⟨y2.toArray⟩ z2 true _ hsb (unhide HMB)).mono ?_; rintro e w2 ⟨rfl, hb2⟩; have ht2 := ht1.next hb2; replace hA := hA.next hb2; replace hB := hB.next hb2; clear tok2 _t ht1 hb2 c0 c1 c2 d0 d1 d2; obtain ⟨⟨c0, c1, c2⟩, ⟨d0, d1, d2⟩⟩ := ht2.cells) | fail)
    go_wp2_with fail
    refine (compareSizes_any x y z x2 y2 z2 (-1) _ h h2 (unhide HC)).mono ?_
    rintro e w6 ⟨rfl, hb6⟩
    replace hA := hA.next hb6
    replace hB := hB.next hb6
    have ht3 := ht2.next hb6
    clear ht2 hb6 c0 c1 c2 d0 d1 d2
    obtain ⟨⟨_, c0, c1, c2⟩, f0, f1, f2⟩ := id hA
    obtain ⟨⟨_, d0, d1, d2⟩, g0, g1, g2⟩ := id hB
    have ht7 := ht3.swap hA hB
    go_wp2_with fail
    change Code.wp Tryz.prog _ _ _ (set3 (set3 w6 w.heap.size (.bool x2) (.string ⟨y2.toArray⟩) (.int .i64 (z2 : Int))) (w.heap.size + 1) (.bool x) (.string ⟨y.toArray⟩) (.int .i64 (z : Int)))
    generalize set3 (set3 w6 w.heap.size (.bool x2) (.string ⟨y2.toArray⟩) (.int .i64 (z2 : Int))) (w.heap.size + 1) (.bool x) (.string ⟨y.toArray⟩) (.int .i64 (z : Int)) = w7 at ht7 ⊢
    clear hA hB ht3 c0 c1 c2 d0 d1 d2 f0 f1 f2 g0 g1 g2
    obtain ⟨⟨c0, c1, c2⟩, ⟨d0, d1, d2⟩⟩ := ht7.cells
    have e0 : (-(n : Int)).toNat = 0 := by omega
    have e1 : ((n : Int)).toNat = n := by omega
    have hpos : 0 ≤ ((Dm.num (⟨y2.toArray⟩ : ByteArray).data.toList * 10 ^ (n - z2) : Nat) : Int) + (-1) * ((Dm.num (⟨y.toArray⟩ : ByteArray).data.toList * 10 ^ (n - z) : Nat) : Int) := by
      rw [mk_list, mk_list]; exact diff_pos (by rw [unhide HC]; decide) hja hjb
    have E0 := hide e0
    have E1 := hide e1
    have HPOS := hide hpos
    clear e0 e1 hpos
    go_region_held3 (fun w' => (w'.cell? ⟨w.heap.size, 0, none⟩ = some (.bool x2) ∧ w'.cell? ⟨w.heap.size, 1, none⟩ = some (.string ⟨y2.toArray⟩) ∧ w'.cell? ⟨w.heap.size, 2, none⟩ = some (.int .i64 (z2 : Int))) ∧ (w'.cell? ⟨w.heap.size + 1, 0, none⟩ = some (.bool x) ∧ w'.cell? ⟨w.heap.size + 1, 1, none⟩ = some (.string ⟨y.toArray⟩) ∧ w'.cell? ⟨w.heap.size + 1, 2, none⟩ = some (.int .i64 (z : Int)))) (first | exact (Two.store ht5.1 _ _ _).2.2 | exact ht5.cells | exact ht4.cells | exact ht7.cells | exact ht7.drew.cells) (first | (go_at_call 93; refine (combine_any x2 x ⟨y2.toArray⟩ ⟨y.toArray⟩ z2 z n (-1) _ hb ha hjb hja hn60 hdb hda (.inr rfl) (unhide HPOS)).mono ?_; rintro e w4 ⟨g, L, rfl, hL0, hL1, hLd, hrow, hnum, hbw⟩; have ht4 := Tri.next (by first | exact ht7 | exact ht7.drew) hbw; obtain ⟨⟨c0, c1, c2⟩, ⟨d0, d1, d2⟩⟩ := ht4.cells; have HN := hide hnum; clear hnum) | (go_at_call 74; refine (fit_r _ g L.length L _ _ rfl hL0 (by omega) (by omega) (by omega) hLd (by first | exact hrow | exact Row.below hrow (Below.refl _ _).drew)).mono ?_; rintro e w5 ⟨r, rfl, hrep, hb5⟩; have ht5 := Tri.next (by first | exact ht4 | exact ht4.drew) hb5; obtain ⟨⟨k0, k1, k2⟩, ⟨f0, f1, f2⟩⟩ := ht5.out; have HREP := hide hrep; clear hrep))
    all_goals go_wp2
    all_goals
      refine bodyPost_ret (v := tV r) ?_ rfl ⟨r, rfl, ?_, ht5.end _ _ _⟩
      · simp [results, Tryz.results68, go_sem, k0, k1, k2, tV]
      · have := unhide HREP
        have hnn := diff_sgn hxx (unhide HN)
        rw [unhide E0, unhide E1, Dm.p10_zero, Int.mul_one, hnn] at this
        exact this
  · have tok1 : True := trivial
    have tok2 : True := trivial
    have hge : decide (c < 0) = false := by rw [decide_eq_false_iff_not]; exact hlt
    go_enter Tryz.func68, Tryz.ntmps68
    go_wp2_with (first | (go_at_call 31; have _t := tok1; refine (may_b x ⟨y.toArray⟩ z true _ hsa (unhide HMA)).mono ?_; rintro e w1 ⟨rfl, hb1⟩; have ht1 := ht.next hb1; clear tok1 _t ht hb1; obtain ⟨⟨c0, c1, c2⟩, ⟨d0, d1, d2⟩⟩ := ht1.cells) | (go_at_call 31; have _t := tok2; refine (may_b x2 ⟨y2.toArray⟩ z2 true _ hsb (unhide HMB)).mono ?_; rintro e w2 ⟨rfl, hb2⟩; have ht2 := ht1.next hb2; clear tok2 _t ht1 hb2 c0 c1 c2 d0 d1 d2; obtain ⟨⟨c0, c1, c2⟩, ⟨d0, d1, d2⟩⟩ := ht2.cells) | fail)
    go_wp2_with fail
    refine (compareSizes_any x y z x2 y2 z2 c _ h h2 (unhide HC)).mono ?_
    rintro e w6 ⟨rfl, hb6⟩
    have ht7 := ht2.next hb6
    clear ht2 hb6 c0 c1 c2 d0 d1 d2 hA hB
    obtain ⟨⟨c0, c1, c2⟩, ⟨d0, d1, d2⟩⟩ := ht7.cells
    go_wp2_with fail
    have e0 : (-(n : Int)).toNat = 0 := by omega
    have e1 : ((n : Int)).toNat = n := by omega
    have hpos : 0 ≤ ((Dm.num (⟨y.toArray⟩ : ByteArray).data.toList * 10 ^ (n - z) : Nat) : Int) + (-1) * ((Dm.num (⟨y2.toArray⟩ : ByteArray).data.toList * 10 ^ (n - z2) : Nat) : Int) := by
      rw [mk_list, mk_list]; exact diff_pos (cmpN_flip (by rw [unhide HC]; omega)) hjb hja
    have E0 := hide e0
    have E1 := hide e1
    have HPOS := hide hpos
    clear e0 e1 hpos
    go_region_held3 (fun w' => (w'.cell? ⟨w.heap.size, 0, none⟩ = some (.bool x) ∧ w'.cell? ⟨w.heap.size, 1, none⟩ = some (.string ⟨y.toArray⟩) ∧ w'.cell? ⟨w.heap.size, 2, none⟩ = some (.int .i64 (z : Int))) ∧ (w'.cell? ⟨w.heap.size + 1, 0, none⟩ = some (.bool x2) ∧ w'.cell? ⟨w.heap.size + 1, 1, none⟩ = some (.string ⟨y2.toArray⟩) ∧ w'.cell? ⟨w.heap.size + 1, 2, none⟩ = some (.int .i64 (z2 : Int)))) (first | exact (Two.store ht5.1 _ _ _).2.2 | exact ht5.cells | exact ht4.cells | exact ht7.cells | exact ht7.drew.cells) (first | (go_at_call 93; refine (combine_any x x2 ⟨y.toArray⟩ ⟨y2.toArray⟩ z z2 n (-1) _ ha hb hja hjb hn60 hda hdb (.inr rfl) (unhide HPOS)).mono ?_; rintro e w4 ⟨g, L, rfl, hL0, hL1, hLd, hrow, hnum, hbw⟩; have ht4 := Tri.next (by first | exact ht7 | exact ht7.drew) hbw; obtain ⟨⟨c0, c1, c2⟩, ⟨d0, d1, d2⟩⟩ := ht4.cells; have HN := hide hnum; clear hnum) | (go_at_call 74; refine (fit_r _ g L.length L _ _ rfl hL0 (by omega) (by omega) (by omega) hLd (by first | exact hrow | exact Row.below hrow (Below.refl _ _).drew)).mono ?_; rintro e w5 ⟨r, rfl, hrep, hb5⟩; have ht5 := Tri.next (by first | exact ht4 | exact ht4.drew) hb5; obtain ⟨⟨k0, k1, k2⟩, ⟨f0, f1, f2⟩⟩ := ht5.out; have HREP := hide hrep; clear hrep))
    all_goals go_wp2
    all_goals
      refine bodyPost_ret (v := tV r) ?_ rfl ⟨r, rfl, ?_, ht5.end _ _ _⟩
      · simp [results, Tryz.results68, go_sem, k0, k1, k2, tV]
      · have := unhide HREP
        have hnn := diff_sgn (x := x2) (x2 := x) (by cases x <;> cases x2 <;> simp at hxx ⊢) (unhide HN)
        rw [unhide E0, unhide E1, Dm.p10_zero, Int.mul_one, hnn, Int.add_comm] at this
        exact this
end Go.Proofs.YtmlmplmghlbdmaaGreatDoor
