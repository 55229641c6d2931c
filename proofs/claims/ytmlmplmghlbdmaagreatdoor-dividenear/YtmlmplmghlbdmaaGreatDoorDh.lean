/- What is proved here: what Mod of package divide does with decimals that may be, of which the second is not 0, walked; condition: the table of powers of ten lies in the world. -/
import Derived.Test.YtmlmplmghlbdmaaGreatDoorDg
namespace Go.Proofs.YtmlmplmghlbdmaaGreatDoor
open Go.RowKit
set_option linter.unusedVariables false
set_option linter.unusedSimpArgs false

theorem digits_o (x : Bool) (l X : List UInt8) (j S k : Nat) (w : World) (hl : l.length ≤ 60) (hS : S = j + k) (hS1 : S ≤ 60) (hX : Hid (l ++ List.replicate k 48 = X)) :
    Calls Tryz.prog 44 #[.agg #[.bool x, .string ⟨l.toArray⟩, .int .i64 (j : Int)], .int .i64 (S : Int)] w fun e w' => e = .returned (.string ⟨X.toArray⟩) ∧ Below w.heap.size w w' := by
  have := digitsAt_any x l j S k w hl hS hS1
  rw [unhide hX] at this; exact this
theorem long_b (N D : List UInt8) (p n : Nat) (w : World) (hp : Hid (N.length = p)) (hp0 : 1 ≤ p) (hp1 : p ≤ 400) (hn : Hid (D.length = n)) (hn0 : 1 ≤ n) (hn1 : n ≤ 400) (dN : Dm.allD N) (dD : Dm.allD D) (hpos : 0 < Dm.num D) :
    Calls Tryz.prog 32 #[.string ⟨N.toArray⟩, .string ⟨D.toArray⟩] w fun e w' => ∃ (g1 g2 : Nat) (R : List UInt8), e = .returned (.tuple #[.slice (some ⟨g1, 0, none⟩) p p, .slice (some ⟨g2, 0, none⟩) (n + 1) (n + 1)]) ∧ R.length = n + 1 ∧ Dm.allD R ∧ Dm.num R = Dm.num N % Dm.num D ∧ Row w' g2 0 R ∧ Below w.heap.size w w' := by
  refine (longDivide_any N D p n w hp hp0 hp1 hn hn0 hn1 dN dD hpos).mono ?_
  rintro e w' ⟨g1, g2, c, Q, R, rfl, h1, h2, h3, h4, h5, h6, h7, h8, h9⟩
  exact ⟨g1, g2, R, rfl, h2, h4, h6, h8, h9⟩
theorem decimal_b (ng : Bool) (L : List UInt8) (n : Nat) (w : World) (hl : L.length ≤ 400) (h1 : n ≤ 400) (hd : Dm.allD L) (htab : Pow w) :
    Calls Tryz.prog 35 #[.bool ng, .string ⟨L.toArray⟩, .int .i64 (n : Int)] w fun e w' => ∃ r, e = .returned (.tuple #[.agg #[.bool (rx r), .string (ry r), .int .i64 (rz r)], .int .i64 (re r)]) ∧ Dm.Rep (Dm.sgn ng (Dm.num L)) n r ∧ Below w.heap.size w w' := by
  have := decimal_any ng L (n : Int) w hl (by omega) (by omega) hd htab
  rw [show (-(n : Int)).toNat = 0 from by omega, Int.toNat_natCast, Dm.p10_zero, Int.mul_one] at this
  exact this
theorem pos_num {d : Dm.D} (h : Dm.May d) (hne : d.ds ≠ [48]) : 0 < Dm.num d.ds := by
  obtain ⟨h1, h2, h3, h4⟩ := h
  rcases h4 with ⟨h, _⟩ | ⟨h, _⟩
  · exact absurd h hne
  · exact Dm.lead_pos h1 h

set_option maxRecDepth 100000 in
set_option maxHeartbeats 2000000 in
theorem mod_r (x : Bool) (y : List UInt8) (z : Nat) (x2 : Bool) (y2 : List UInt8) (z2 n : Nat) (w : World) (h : Dm.May ⟨x, y, z⟩) (h2 : Dm.May ⟨x2, y2, z2⟩) (hne : y2 ≠ [48]) (hn : max (z : Int) (z2 : Int) = (n : Int)) (htab : Pow w) :
    Calls Tryz.prog 14 #[.agg #[.bool x, .string ⟨y.toArray⟩, .int .i64 (z : Int)], .agg #[.bool x2, .string ⟨y2.toArray⟩, .int .i64 (z2 : Int)]] w fun e w' => ∃ r, e = .returned (tV r) ∧ Dm.Rep (Dm.sgn x ((Dm.num y * 10 ^ (n - z)) % (Dm.num y2 * 10 ^ (n - z2)))) n r ∧ Below w.heap.size w w' := by
  have ht := Tri.start w (.bool x) (.string ⟨y.toArray⟩) (.int .i64 (z : Int)) (.bool x2) (.string ⟨y2.toArray⟩) (.int .i64 (z2 : Int)) 23
  obtain ⟨l1, l2, l3⟩ := may_len h
  obtain ⟨m1, m2, m3⟩ := may_len h2
  have hma := dV_may h
  have hmb := dV_may h2
  have hpos := pos_num h2 hne
  simp only [] at l1 l2 l3 m1 m2 m3 hma hmb hpos
  have hsa : (⟨y.toArray⟩ : ByteArray).size ≤ maxLen := by unfold maxLen; rw [mk_size]; omega
  have hsb : (⟨y2.toArray⟩ : ByteArray).size ≤ maxLen := by unfold maxLen; rw [mk_size]; omega
  obtain ⟨X, hX⟩ : ∃ X, y ++ List.replicate (n - z) 48 = X := ⟨_, rfl⟩
  obtain ⟨Y, hY⟩ : ∃ Y, y2 ++ List.replicate (n - z2) 48 = Y := ⟨_, rfl⟩
  have hXn : Dm.num X = Dm.num y * 10 ^ (n - z) := by rw [← hX, Dm.num_append_zeros]
  have hYn : Dm.num Y = Dm.num y2 * 10 ^ (n - z2) := by rw [← hY, Dm.num_append_zeros]
  have hXl : X.length = y.length + (n - z) := by rw [← hX, List.length_append, List.length_replicate]
  have hYl : Y.length = y2.length + (n - z2) := by rw [← hY, List.length_append, List.length_replicate]
  have hXd : Dm.allD X := by rw [← hX]; exact Dm.allD_append.2 ⟨h.1, Dm.allD_zeros _⟩
  have hYd : Dm.allD Y := by rw [← hY]; exact Dm.allD_append.2 ⟨h2.1, Dm.allD_zeros _⟩
  have hYp : 0 < Dm.num Y := by rw [hYn]; exact Nat.mul_pos hpos (Nat.pow_pos (by decide))
  obtain ⟨p, hp⟩ : ∃ p, X.length = p := ⟨_, rfl⟩
  obtain ⟨q, hq⟩ : ∃ q, Y.length = q := ⟨_, rfl⟩
  have hp0 : 1 ≤ p := by omega
  have hp1 : p ≤ 120 := by omega
  have hq0 : 1 ≤ q := by omega
  have hq1 : q ≤ 120 := by omega
  have hn1 : n = z + (n - z) := by omega
  have hn2 : n = z2 + (n - z2) := by omega
  have hn60 : n ≤ 60 := by omega
  have q0 : (y2 == [48]) = false := beq_eq_false_iff_ne.2 hne
  have HX := hide hX
  have HY := hide hY
  have HXN := hide hXn
  have HYN := hide hYn
  have HP := hide hp
  have HQ := hide hq
  have HMA := hide hma
  have HMB := hide hmb
  have HN1 := hide hn1
  have HN2 := hide hn2
  clear hX hY hXn hYn hp hq hma hmb hXl hYl hn1 hn2
  have tok1 : True := trivial
  have tok2 : True := trivial
  have tok3 : True := trivial
  have tok4 : True := trivial
  go_enter Tryz.func14, Tryz.ntmps14
  go_wp2_with (first | (go_at_call 31; have _t := tok1; refine (may_b x ⟨y.toArray⟩ z true _ hsa (unhide HMA)).mono ?_; rintro e w1 ⟨rfl, hb1⟩; have ht1 := ht.next hb1; clear tok1 _t ht hb1; obtain ⟨⟨c0, c1, c2⟩, ⟨d0, d1, d2⟩⟩ := ht1.cells) | (go_at_call 31; have _t := tok2; refine (may_b x2 ⟨y2.toArray⟩ z2 true _ hsb (unhide HMB)).mono ?_; rintro e w2 ⟨rfl, hb2⟩; have ht2 := ht1.next hb2; clear tok2 _t ht1 hb2 c0 c1 c2 d0 d1 d2; obtain ⟨⟨c0, c1, c2⟩, ⟨d0, d1, d2⟩⟩ := ht2.cells))
  go_region_held3 (fun w' => (w'.cell? ⟨w.heap.size, 0, none⟩ = some (.bool x) ∧ w'.cell? ⟨w.heap.size, 1, none⟩ = some (.string ⟨y.toArray⟩) ∧ w'.cell? ⟨w.heap.size, 2, none⟩ = some (.int .i64 (z : Int))) ∧ (w'.cell? ⟨w.heap.size + 1, 0, none⟩ = some (.bool x2) ∧ w'.cell? ⟨w.heap.size + 1, 1, none⟩ = some (.string ⟨y2.toArray⟩) ∧ w'.cell? ⟨w.heap.size + 1, 2, none⟩ = some (.int .i64 (z2 : Int)))) (first | exact ht5.cells | exact ht4.cells | exact ht3.cells | exact ht2.cells | exact ht2.drew.cells | exact ht5.drew.cells) (first | (go_at_call 44; have _t := tok3; refine (digits_o x y X z n (n - z) _ l2 (unhide HN1) hn60 HX).mono ?_; rintro e w3 ⟨rfl, hb3⟩; have ht3 := Tri.next (by first | exact ht2 | exact ht2.drew) hb3; clear tok3 _t hb3; clear c0 c1 c2 d0 d1 d2; obtain ⟨⟨c0, c1, c2⟩, ⟨d0, d1, d2⟩⟩ := ht3.cells) | (go_at_call 44; have _t := tok4; refine (digits_o x2 y2 Y z2 n (n - z2) _ m2 (unhide HN2) hn60 HY).mono ?_; rintro e w4 ⟨rfl, hb4⟩; have ht4 := Tri.next (by first | exact ht3 | exact ht3.drew) hb4; clear tok4 _t hb4; clear c0 c1 c2 d0 d1 d2; obtain ⟨⟨c0, c1, c2⟩, ⟨d0, d1, d2⟩⟩ := ht4.cells) | (go_at_call 32; refine (long_b X Y p q _ HP hp0 (by omega) HQ hq0 (by omega) hXd hYd hYp).mono ?_; rintro e w5 ⟨g1, g2, R, rfl, hRl, hRd, hRn, hrow, hb5⟩; have ht5 := Tri.next (by first | exact ht4 | exact ht4.drew) hb5; have hpow5 := htab.next ht5.1.1; have cv := conv_row g2 0 (q + 1) (q + 1) R w5 hRl hrow; have hRl4 : R.length ≤ 400 := (by omega); have HRN := hide hRn; have HRL := hide hRl; clear hRn hRl hb5; clear c0 c1 c2 d0 d1 d2; obtain ⟨⟨c0, c1, c2⟩, ⟨d0, d1, d2⟩⟩ := ht5.cells))
  go_wp2_with (go_at_call 35; refine (decimal_b x R n _ hRl4 (by omega) hRd hpow5).mono ?_; rintro e w6 ⟨r, rfl, hrep, hb6⟩; have ht6 := ht5.next hb6; obtain ⟨⟨k0, k1, k2⟩, ⟨f0, f1, f2⟩⟩ := ht6.out; have HREP := hide hrep; clear hrep hb6)
  refine bodyPost_ret (v := tV r) ?_ rfl ⟨r, rfl, ?_, ht6.end _ _ _⟩
  · simp [results, Tryz.results14, go_sem, k0, k1, k2, tV]
  · have := unhide HREP
    rw [unhide HRN, unhide HXN, unhide HYN] at this
    exact this
end Go.Proofs.YtmlmplmghlbdmaaGreatDoor
