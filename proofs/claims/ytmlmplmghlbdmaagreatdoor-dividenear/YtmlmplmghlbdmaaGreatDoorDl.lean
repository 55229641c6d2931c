/- What is proved here: what Div of package divide does with decimals that may be, of which the second is not 0, walked; condition: the table of powers of ten lies in the world. -/
import Derived.Test.YtmlmplmghlbdmaaGreatDoorDk
import Derived.Test.YtmlmplmghlbdmaaGreatDoorMt
namespace Go.Proofs.YtmlmplmghlbdmaaGreatDoor
open Go.RowKit
set_option linter.unusedVariables false
set_option linter.unusedSimpArgs false

theorem long_c (y zs D X : List UInt8) (p n : Nat) (w : World) (hX : Hid (y ++ zs = X)) (hp : Hid (X.length = p)) (hp0 : 1 ≤ p) (hp1 : p ≤ 400) (hn : Hid (D.length = n)) (hn0 : 1 ≤ n) (hn1 : n ≤ 400) (dN : Dm.allD X) (dD : Dm.allD D) (hpos : 0 < Dm.num D) :
    Calls Tryz.prog 32 #[.string (⟨y.toArray⟩ ++ ⟨zs.toArray⟩), .string ⟨D.toArray⟩] w fun e w' => ∃ (g1 g2 : Nat) (Q R : List UInt8), e = .returned (.tuple #[.slice (some ⟨g1, 0, none⟩) p p, .slice (some ⟨g2, 0, none⟩) (n + 1) (n + 1)]) ∧ Hid (Q.length = p ∧ R.length = n + 1 ∧ Dm.allD Q ∧ Dm.allD R ∧ Dm.num Q = Dm.num X / Dm.num D ∧ Dm.num R = Dm.num X % Dm.num D) ∧ Row w' g1 0 Q ∧ Row w' g2 0 R ∧ Below w.heap.size w w' := by
  rw [mk_join y zs, unhide hX]
  refine (longDivide_any X D p n w (unhide hp) hp0 hp1 (unhide hn) hn0 hn1 dN dD hpos).mono ?_
  rintro e w' ⟨g1, g2, c, Q, R, rfl, h1, h2, h3, h4, h5, h6, h7, h8, h9⟩
  exact ⟨g1, g2, Q, R, rfl, hide ⟨h1, h2, h3, h4, h5, h6⟩, h7, h8, h9⟩

set_option maxRecDepth 100000 in
set_option maxHeartbeats 2000000 in
theorem div_r (x : Bool) (y : List UInt8) (z : Nat) (x2 : Bool) (y2 : List UInt8) (z2 n : Nat) (w : World) (h : Dm.May ⟨x, y, z⟩) (h2 : Dm.May ⟨x2, y2, z2⟩) (hne : y2 ≠ [48]) (hn : max 0 (35 + (y2.length : Int) - (y.length : Int)) = (n : Int)) (htab : Pow w) :
    Calls Tryz.prog 12 #[.agg #[.bool x, .string ⟨y.toArray⟩, .int .i64 (z : Int)], .agg #[.bool x2, .string ⟨y2.toArray⟩, .int .i64 (z2 : Int)]] w fun e w' => ∃ r, e = .returned (tV r) ∧ Dm.DivRep (x != x2) y z y2 z2 r ∧ Below w.heap.size w w' := by
  have ht := Tri.start w (.bool x) (.string ⟨y.toArray⟩) (.int .i64 (z : Int)) (.bool x2) (.string ⟨y2.toArray⟩) (.int .i64 (z2 : Int)) 23
  obtain ⟨l1, l2, l3⟩ := may_len h
  obtain ⟨m1, m2, m3⟩ := may_len h2
  have hma := dV_may h
  have hmb := dV_may h2
  have hpos := pos_num h2 hne
  simp only [] at l1 l2 l3 m1 m2 m3 hma hmb hpos
  have hsa : (⟨y.toArray⟩ : ByteArray).size ≤ maxLen := by unfold maxLen; rw [mk_size]; omega
  have hsb : (⟨y2.toArray⟩ : ByteArray).size ≤ maxLen := by unfold maxLen; rw [mk_size]; omega
  have hn95 : n ≤ 95 := by omega
  obtain ⟨zs, hz⟩ : ∃ zs : List UInt8, zs = List.replicate n 48 := ⟨_, rfl⟩
  have hzl : zs.length = n := by rw [hz, List.length_replicate]
  obtain ⟨X, hX⟩ : ∃ X, y ++ zs = X := ⟨_, rfl⟩
  have hXn : Dm.num X = Dm.num y * 10 ^ n := by rw [← hX, hz, Dm.num_append_zeros]
  have hXl : X.length = y.length + n := by rw [← hX, List.length_append, hzl]
  have hXd : Dm.allD X := by rw [← hX, hz]; exact Dm.allD_append.2 ⟨h.1, Dm.allD_zeros _⟩
  have hbig : Dm.num X / Dm.num y2 = 0 ∨ 10 ^ 34 ≤ Dm.num X / Dm.num y2 := by
    by_cases e : y = [48]
    · left
      have h0 : Dm.num y = 0 := by rw [e]; rfl
      rw [hXn, h0, Nat.zero_mul, Nat.zero_div]
    · right
      rw [hXn]
      exact Dm.big_quot h.1 (Dm.lead_of h e).1 h2.1 (by omega) hpos
  have hRlt : Dm.num X % Dm.num y2 < 10 ^ y2.length := Nat.lt_trans (Nat.mod_lt _ hpos) (Dm.num_lt h2.1)
  obtain ⟨p, hp⟩ : ∃ p, X.length = p := ⟨_, rfl⟩
  obtain ⟨q, hq⟩ : ∃ q, y2.length = q := ⟨_, rfl⟩
  have hp0 : 1 ≤ p := by omega
  have hp1 : p ≤ 155 := by omega
  have hq0 : 1 ≤ q := by omega
  have hq1 : q ≤ 60 := by omega
  have hzl9 : zs.length ≤ 95 := by omega
  have hd2 : Dm.allD y2 := h2.1
  have q0 : (y2 == [48]) = false := beq_eq_false_iff_ne.2 hne
  have hcat : ¬ (9223372036854775807 < y.length + zs.length) := by omega
  have hcat2 : ¬ (9223372036854775807 < (⟨y.toArray⟩ : ByteArray).size + (⟨zs.toArray⟩ : ByteArray).size) := by rw [mk_size, mk_size]; omega
  have HX := hide hX
  have HZ := hide hz
  have HXN := hide hXn
  have HP := hide hp
  have HQ := hide hq
  have HMA := hide hma
  have HMB := hide hmb
  have HN := hide hn
  have HBIG := hide hbig
  have HRLT := hide hRlt
  clear hX hz hXn hp hq hma hmb hXl hn hbig hRlt hzl
  have tok1 : True := trivial
  have tok2 : True := trivial
  go_enter Tryz.func12, Tryz.ntmps12
  go_upto_region 6 with (first | (go_at_call 31; have _t := tok1; refine (may_b x ⟨y.toArray⟩ z true _ hsa (unhide HMA)).mono ?_; rintro e w1 ⟨rfl, hb1⟩; have ht1 := ht.next hb1; clear tok1 _t ht hb1; obtain ⟨⟨c0, c1, c2⟩, ⟨d0, d1, d2⟩⟩ := ht1.cells) | (go_at_call 31; have _t := tok2; refine (may_b x2 ⟨y2.toArray⟩ z2 true _ hsb (unhide HMB)).mono ?_; rintro e w2 ⟨rfl, hb2⟩; have ht2 := ht1.next hb2; clear tok2 _t ht1 hb2 c0 c1 c2 d0 d1 d2; obtain ⟨⟨c0, c1, c2⟩, ⟨d0, d1, d2⟩⟩ := ht2.cells))
  simp only [unhide HN]
  go_region_held3 (fun w' => (w'.cell? ⟨w.heap.size, 0, none⟩ = some (.bool x) ∧ w'.cell? ⟨w.heap.size, 1, none⟩ = some (.string ⟨y.toArray⟩) ∧ w'.cell? ⟨w.heap.size, 2, none⟩ = some (.int .i64 (z : Int))) ∧ (w'.cell? ⟨w.heap.size + 1, 0, none⟩ = some (.bool x2) ∧ w'.cell? ⟨w.heap.size + 1, 1, none⟩ = some (.string ⟨y2.toArray⟩) ∧ w'.cell? ⟨w.heap.size + 1, 2, none⟩ = some (.int .i64 (z2 : Int)))) (first | exact ht4.cells | exact ht3.cells | exact ht2.cells | exact ht2.drew.cells | exact ht3.drew.cells | exact ht4.drew.cells) (first | (go_at_call 33; refine (repeat_o (n : Int) n zs _ rfl (by omega) (unhide HZ)).mono ?_; rintro e w3 ⟨rfl, hb3⟩; have ht3 := Tri.next (by first | exact ht2 | exact ht2.drew) hb3; clear hb3; clear c0 c1 c2 d0 d1 d2; obtain ⟨⟨c0, c1, c2⟩, ⟨d0, d1, d2⟩⟩ := ht3.cells) | (go_at_call 32; refine (long_c y zs y2 X p q _ HX HP hp0 (by omega) HQ hq0 (by omega) hXd hd2 hpos).mono ?_; rintro e w4 ⟨g1, g2, Q, R, rfl, HQR, row1, row2, hb4⟩; have ht4 := Tri.next (by first | exact ht3 | exact ht3.drew) hb4; have hpow4 := htab.next ht4.1.1; clear hb4; clear c0 c1 c2 d0 d1 d2; obtain ⟨⟨c0, c1, c2⟩, ⟨d0, d1, d2⟩⟩ := ht4.cells))
  have hQR := unhide HQR
  obtain ⟨hQl, hRl, hQd, hRd, hQn, hRn⟩ := hQR
  have hbig := unhide HBIG
  have hrlt := unhide HRLT
  rw [← hQn] at hbig
  rw [← hRn, unhide HQ] at hrlt
  have HQR2 := hide (And.intro hQl (And.intro hQn hRn))
  go_upto_region 8 with (go_at_call 34; refine (nearest_any g1 g2 p q Q R _ hQl (by omega) (by omega) hRl (by omega) hQd hRd hbig hrlt row1 row2 hpow4).mono ?_; rintro e w5 ⟨G, t, rfl, htp, HDT, hGd, hGl, HGN, hb5⟩)
  have ht5 := ht4.next hb5
  have hpow5 := htab.next ht5.1.1
  clear row1 row2 hbig hrlt hQl hRl hQn hRn hb5 HQR c0 c1 c2 d0 d1 d2 ht4 hpow4
  obtain ⟨⟨c0, c1, c2⟩, ⟨d0, d1, d2⟩⟩ := ht5.cells
  go_wp2_with (go_at_call 35; refine (decimal_any (!(x == x2)) G ((z : Int) + n - z2 - t) _ (by omega) (by omega) (by omega) hGd hpow5).mono ?_; rintro e w6 ⟨r, rfl, hrep, hb6⟩; have ht6 := ht5.next hb6; obtain ⟨⟨k0, k1, k2⟩, ⟨f0, f1, f2⟩⟩ := ht6.out; have HREP := hide hrep; clear hrep hb6)
  refine bodyPost_ret (v := tV r) ?_ rfl ⟨r, rfl, ⟨n, t, (unhide HN).symm, ?_, ?_⟩, ht6.end _ _ _⟩
  · simp [results, Tryz.results12, go_sem, k0, k1, k2, tV]
  · obtain ⟨a1, a2, a3⟩ := unhide HQR2
    have := unhide HDT
    rw [a2, unhide HXN] at this
    exact this
  · obtain ⟨a1, a2, a3⟩ := unhide HQR2
    have := unhide HREP
    rw [unhide HGN, a2, a3, unhide HXN, ← unhide HQ] at this
    exact this
end Go.Proofs.YtmlmplmghlbdmaaGreatDoor
