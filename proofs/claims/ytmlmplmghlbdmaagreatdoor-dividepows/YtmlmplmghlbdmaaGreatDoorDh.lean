/- What is proved here: what decimal of package divide does, walked; conditions: digits, not too many, and the table of powers of ten lies in the world. What is proved here: what digitsAt and Mod of package divide do, walked; conditions: decimals that may be, the second is not 0, and the table of powers of ten lies in the world. What is proved here: what Mod of package divide does with decimals that may be, of which the second is not 0, walked; condition: the table of powers of ten lies in the world. -/
import Derived.Test.YtmlmplmghlbdmaaGreatDoorMt
import Derived.Test.YtmlmplmghlbdmaaGreatDoorTi
import Derived.Test.YtmlmplmghlbdmaaGreatDoorWt
import Derived.Test.YtmlmplmghlbdmaaGreatDoorUa
import Derived.Deep.CutRange
import Derived.Test.YtmlmplmghlbdmaaGreatDoorDe
import Derived.Deep.RegionHeld3
namespace Go.Proofs.YtmlmplmghlbdmaaGreatDoor
open Go.RowKit
set_option linter.unusedVariables false
set_option linter.unusedSimpArgs false

theorem repeat_b (c : Int) (k : Nat) (w : World) (h0 : c = (k : Int)) (h1 : k ≤ 1000) :
    Calls Tryz.prog 33 #[.string ⟨#[48]⟩, .int .i64 c] w fun e w' => e = .returned (.string ⟨(List.replicate k (48 : UInt8)).toArray⟩) ∧ Below w.heap.size w w' := by
  have := repeat_any c w (by omega) (by omega)
  rw [h0, Int.toNat_natCast] at this
  rw [h0]; exact this
theorem int_zero (w : World) (h : Pow w) : Calls Tryz.prog 51 #[.int .i64 0] w fun e w' => e = .returned (.agg #[.bool false, .string ⟨#[48]⟩, .int .i64 0]) ∧ Below w.heap.size w w' := int_v 0 false [48] w (by decide) (by decide) h ofInt_0

set_option maxRecDepth 100000 in
set_option maxHeartbeats 2000000 in
theorem decimal_any (ng : Bool) (L : List UInt8) (sc : Int) (w : World) (hl : L.length ≤ 400) (h0 : -400 ≤ sc) (h1 : sc ≤ 400) (hd : Dm.allD L) (htab : Pow w) :
    Calls Tryz.prog 35 #[.bool ng, .string ⟨L.toArray⟩, .int .i64 sc] w fun e w' => ∃ r, e = .returned (.tuple #[.agg #[.bool (rx r), .string (ry r), .int .i64 (rz r)], .int .i64 (re r)]) ∧ Dm.Rep (Dm.sgn ng (Dm.num L) * Dm.p10 (-sc).toNat) sc.toNat r ∧ Below w.heap.size w w' := by
  have hO := Own.start w
  obtain ⟨T, hT⟩ : ∃ T, Dm.tl L = T := ⟨_, rfl⟩
  have hdT : Dm.allD T := by rw [← hT]; exact Dm.tl_allD hd
  have hnT : Dm.num T = Dm.num L := by rw [← hT]; exact Dm.tl_num L
  have hlT : T.length ≤ 400 := by
    obtain ⟨j, hj⟩ := Dm.tl_spec L
    have := congrArg List.length hj
    rw [List.length_append, hT] at this
    omega
  have HT := hide hT
  have HNT := hide hnT
  by_cases hne : T = []
  · have hz : Dm.num L = 0 := by rw [← hnT, hne]; rfl
    have HZ := hide hz
    subst hne
    clear hT hnT hz
    go_enter Tryz.func35, Tryz.ntmps35
    go_wp2_with fail
    refine (trimLeft_b ⟨L.toArray⟩ ⟨#[]⟩ _ (unhide HT)).mono ?_
    rintro e w1 ⟨rfl, rfl⟩
    go_wp2_with fail
    refine (int_zero _ (htab.next hO.1)).mono ?_
    rintro e w2 ⟨rfl, hb2⟩
    have hO2 := hO.step hb2
    clear hb2 hO
    obtain ⟨o1, o2, o3, o4, o5, o6⟩ := hO2.facts
    go_wp2
    refine bodyPost_ret (v := tV (some ⟨false, [48], 0⟩)) (by simp [results, Tryz.results35, go_sem, tV, rx, ry, rz, re, o1, o2, o3]) rfl ⟨some ⟨false, [48], 0⟩, rfl, ?_, hO2.end _ _ _⟩
    rw [unhide HZ, Dm.sgn_zero, Int.zero_mul]
    exact Dm.zero_rep _
  · have hlead : Dm.noLead T := by rw [← hT]; exact Dm.tl_lead L (by rw [hT]; exact hne)
    obtain ⟨r, hp, hrep⟩ := Dm.text_parse ng (sc := sc) hdT hlead
    rw [hnT] at hrep
    obtain ⟨b1, b2, b3⟩ := Dm.ptD_bd T sc hne
    have hpl := Dm.padD_len T sc
    have hTe : (⟨T.toArray⟩ : ByteArray).toList.isEmpty = false := by
      rw [toList_eq, mk_list]
      cases T with
      | nil => exact absurd rfl hne
      | cons => rfl
    have HP := hide hp
    have HREP := hide hrep
    have HB3 := hide b3
    have HPL := hide hpl
    have q1 : T.isEmpty = false := by
      cases T with
      | nil => exact absurd rfl hne
      | cons => rfl
    have q2 : (T == []) = false := beq_eq_false_iff_ne.2 hne
    clear hT hnT hp hrep b3 hpl
    go_enter Tryz.func35, Tryz.ntmps35
    go_wp2_with fail
    refine (trimLeft_b ⟨L.toArray⟩ ⟨T.toArray⟩ _ (unhide HT)).mono ?_
    rintro e w1 ⟨rfl, rfl⟩
    go_wp2_with fail
    refine (repeat_b (max 0 (sc + 1 - (T.length : Int))) (sc + 1 - (T.length : Int)).toNat _ (by omega) (by omega)).mono ?_
    rintro e w2 ⟨rfl, hb2⟩
    have hO2 := hO.step hb2
    clear hb2 hO
    go_wp2_with fail
    refine (repeat_b (max 0 (-sc)) (-sc).toNat _ (by omega) (by omega)).mono ?_
    rintro e w3 ⟨rfl, hb3⟩
    have hO3 := hO2.step hb3
    clear hb3 hO2
    obtain ⟨G, hG⟩ : ∃ G, Dm.padD T sc = G := ⟨_, rfl⟩
    obtain ⟨pt, hpt⟩ : ∃ pt, Dm.ptD T sc = pt := ⟨_, rfl⟩
    rw [hpt] at b1 b2
    rw [hG] at b2
    have hGl : G.length ≤ 1300 := by rw [← hG, unhide HPL]; omega
    have eG : (⟨Array.replicate ((sc + 1).toNat - T.length) 48⟩ ++ ⟨T.toArray⟩ ++ ⟨Array.replicate (-sc).toNat 48⟩ : ByteArray) = ⟨G.toArray⟩ := by
      rw [← hG]
      unfold Dm.padD
      rw [show ((sc + 1).toNat - T.length) = (sc + 1 - (T.length : Int)).toNat from by omega, show (⟨Array.replicate (sc + 1 - (T.length : Int)).toNat 48⟩ : ByteArray) = ⟨(List.replicate (sc + 1 - (T.length : Int)).toNat (48 : UInt8)).toArray⟩ from by rw [List.toArray_replicate], mk_join (List.replicate (sc + 1 - (T.length : Int)).toNat 48) T, str_join]
    have eP : ((((sc + 1).toNat - T.length : Nat) : Int) + (T.length : Int) + max (-sc) 0 - max 0 sc) = ((pt : Nat) : Int) := by
      have h3 := unhide HB3
      have h4 := unhide HPL
      rw [hG] at h3 h4
      rw [hpt] at h3
      omega
    have hb2 : (pt : Int) ≤ (G.length : Int) := by omega
    have HEG := hide eG
    have HEP := hide eP
    have HG := hide hG
    have HPT := hide hpt
    clear eG eP hG hpt
    go_upto_region 6 with fail
    simp only [unhide HEG, unhide HEP]
    clear HEG HEP
    go_quiet (fail)
    have hO4 := hO3.step (Go.Joins.below_draws _ _ nq)
    clear hO3
    generalize w3.drewN nq = w4 at hO4 ⊢
    have eT : (⟨G.toArray⟩ : ByteArray).extract 0 pt ++ ⟨#[46]⟩ ++ (⟨G.toArray⟩ : ByteArray).extract pt G.length ++ ⟨#[48]⟩ = ⟨(G.take pt ++ 46 :: (G.drop pt ++ [48])).toArray⟩ := by
      have e1 : (⟨G.toArray⟩ : ByteArray).extract 0 pt = ⟨(G.take pt).toArray⟩ := by
        apply str_ext
        rw [Go.Lib.extract_data, mk_list, List.drop_zero, Nat.sub_zero]
      have e2 : (⟨G.toArray⟩ : ByteArray).extract pt G.length = ⟨(G.drop pt).toArray⟩ := by
        apply str_ext
        rw [Go.Lib.extract_data, mk_list, List.take_of_length_le (by rw [List.length_drop]; omega)]
      rw [e1, e2, show (⟨#[46]⟩ : ByteArray) = ⟨[46].toArray⟩ from rfl, show (⟨#[48]⟩ : ByteArray) = ⟨[48].toArray⟩ from rfl, mk_join, mk_join, mk_join]
      simp
    obtain ⟨U, hU⟩ : ∃ U, G.take pt ++ 46 :: (G.drop pt ++ [48]) = U := ⟨_, rfl⟩
    rw [hU] at eT
    have hUl : U.length ≤ 1400 := by rw [← hU]; simp; omega
    have hpU : Dm.parseL ((if ng then [45] else []) ++ U) = some r := by
      have := unhide HP
      unfold Dm.textD at this
      rw [unhide HPT, unhide HG, hU] at this
      exact this
    have HET := hide eT
    have HPU := hide hpU
    clear eT hpU hU
    simp only [unhide HET]
    clear HET
    cases ng with
    | true =>
      go_wp2_with fail
      have eU : (⟨#[45]⟩ ++ ⟨U.toArray⟩ : ByteArray) = ⟨(45 :: U).toArray⟩ := mk_join [45] U
      have HEU := hide eU
      clear eU
      simp only [unhide HEU]
      refine (parse_r ⟨(45 :: U).toArray⟩ r _ (by rw [mk_size]; simp; omega) (by rw [mk_list]; exact unhide HPU)).mono ?_
      rintro e w5 ⟨rfl, hb5⟩
      have hO5 := hO4.step hb5
      clear hb5 hO4
      obtain ⟨o1, o2, o3, o4, o5, o6⟩ := hO5.facts
      go_wp2
      refine bodyPost_ret (v := tV r) (by simp [results, Tryz.results35, go_sem, tV, o1, o2, o3]) rfl ⟨r, rfl, unhide HREP, hO5.end _ _ _⟩
    | false =>
      go_wp2_with fail
      refine (parse_r ⟨U.toArray⟩ r _ (by rw [mk_size]; omega) (by rw [mk_list]; exact unhide HPU)).mono ?_
      rintro e w5 ⟨rfl, hb5⟩
      have hO5 := hO4.step hb5
      clear hb5 hO4
      obtain ⟨o1, o2, o3, o4, o5, o6⟩ := hO5.facts
      go_wp2
      refine bodyPost_ret (v := tV r) (by simp [results, Tryz.results35, go_sem, tV, o1, o2, o3]) rfl ⟨r, rfl, unhide HREP, hO5.end _ _ _⟩
end Go.Proofs.YtmlmplmghlbdmaaGreatDoor

namespace Go.Proofs.YtmlmplmghlbdmaaGreatDoor
open Go.RowKit
set_option linter.unusedVariables false
set_option linter.unusedSimpArgs false

theorem Box3.cells {w0 w : World} {x y z : Value} (h : Box3 w0 x y z w) : w.cell? ⟨w0.heap.size, 0, none⟩ = some x ∧ w.cell? ⟨w0.heap.size, 1, none⟩ = some y ∧ w.cell? ⟨w0.heap.size, 2, none⟩ = some z := h.2.2
theorem Box3.cells_d {w0 w : World} {x y z : Value} (h : Box3 w0 x y z w) : w.drew.cell? ⟨w0.heap.size, 0, none⟩ = some x ∧ w.drew.cell? ⟨w0.heap.size, 1, none⟩ = some y ∧ w.drew.cell? ⟨w0.heap.size, 2, none⟩ = some z := h.drew.2.2

theorem repeat_o (c : Int) (k : Nat) (zs : List UInt8) (w : World) (h0 : c = (k : Int)) (h1 : k ≤ 1000) (hz : zs = List.replicate k 48) :
    Calls Tryz.prog 33 #[.string ⟨#[48]⟩, .int .i64 c] w fun e w' => e = .returned (.string ⟨zs.toArray⟩) ∧ Below w.heap.size w w' := by
  rw [hz]; exact repeat_b c k w h0 h1

set_option maxRecDepth 100000 in
set_option maxHeartbeats 2000000 in
theorem digitsAt_any (x : Bool) (l : List UInt8) (j S k : Nat) (w : World) (hl : l.length ≤ 60) (hS : S = j + k) (hS1 : S ≤ 60) :
    Calls Tryz.prog 44 #[.agg #[.bool x, .string ⟨l.toArray⟩, .int .i64 (j : Int)], .int .i64 (S : Int)] w fun e w' => e = .returned (.string ⟨(l ++ List.replicate k 48).toArray⟩) ∧ Below w.heap.size w w' := by
  have hB := Box3.start w (.bool x) (.string ⟨l.toArray⟩) (.int .i64 (j : Int)) 23
  have hw : IntKind.i64.wrap ((S : Int) - (j : Int)) = (S : Int) - (j : Int) := wrap_id (by omega) (by omega)
  have hsk : (S : Int) - (j : Int) = (k : Int) := by omega
  have hk60 : k ≤ 60 := by omega
  have HSK := hide hsk
  clear hsk hS
  obtain ⟨zs, hz⟩ : ∃ zs : List UInt8, zs = List.replicate k 48 := ⟨_, rfl⟩
  have hzl : zs.length ≤ 60 := by rw [hz, List.length_replicate]; omega
  rw [← hz]
  have HZ := hide hz
  clear hz
  obtain ⟨_, _, a0, a1, a2⟩ := id hB
  go_enter Tryz.func44, Tryz.ntmps44
  go_wp2_with fail
  obtain ⟨b0, b1, b2⟩ := Box3.cells_d hB
  obtain ⟨b3, b4, b5⟩ := Box3.cells_d hB.drew
  go_region_with (first | (go_at_call 33; refine (repeat_o ((S : Int) - (j : Int)) k zs _ (unhide HSK) (by omega) (unhide HZ)).mono ?_; rintro e w' ⟨rfl, hbw⟩; replace hB := Box3.next (by first | exact hB | exact hB.drew | exact hB.drew.drew) hbw; clear hbw; obtain ⟨cd0, cd1, cd2⟩ := Box3.cells hB; obtain ⟨ce0, ce1, ce2⟩ := Box3.cells_d hB))
  all_goals
    go_wp2
    go_ret
    exact ⟨ret_s (by first | exact str_join_o l zs | exact mk_join l zs), hB.1⟩
end Go.Proofs.YtmlmplmghlbdmaaGreatDoor

namespace Go.Proofs.YtmlmplmghlbdmaaGreatDoor
open Go.RowKit
set_option linter.unusedVariables false
set_option linter.unusedSimpArgs false

theorem digits_o (x : Bool) (l X : List UInt8) (j S k : Nat) (w : World) (hl : l.length ≤ 60) (hS : S = j + k) (hS1 : S ≤ 60) (hX : Hid (l ++ List.replicate k 48 = X)) :
    Calls Tryz.prog 44 #[.agg #[.bool x, .string ⟨l.toArray⟩, .int .i64 (j : Int)], .int .i64 (S : Int)] w fun e w' => e = .returned (.string ⟨X.toArray⟩) ∧ Below w.heap.size w w' := by
  have := digitsAt_any x l j S k w hl hS hS1
  rw [unhide hX] at this; exact this
theorem long_b (N D : List UInt8) (p n : Nat) (w : World) (hp : Hid (N.length = p)) (hp0 : 1 ≤ p) (hp1 : p ≤ 400) (hn : Hid (D.length = n)) (hn0 : 1 ≤ n) (hn1 : n ≤ 400) (dN : Dm.allD N) (dD : Dm.allD D) (hpos : 0 < Dm.num D) :
    Calls Tryz.prog 32 #[.string ⟨N.toArray⟩, .string ⟨D.toArray⟩] w fun e w' => ∃ (g1 g2 : Nat) (R : List UInt8), e = .returned (.tuple #[.slice (some ⟨g1, 0, none⟩) p p, .slice (some ⟨g2, 0, none⟩) (n + 1) (n + 1)]) ∧ R.length = n + 1 ∧ Dm.allD R ∧ Dm.num R = Dm.num N % Dm.num D ∧ Row w' g2 0 R ∧ Below w.heap.size w w' := by
  refine (longDivide_any N D p n w hp hp0 hp1 hn hn0 hn1 dN dD hpos).mono ?_
  rintro e w' ⟨g1, g2, c, Q, R, rfl, h1, h2, h3, h4, h5, h6, h7, h8, h9⟩
  exact ⟨g1, g2, R, rfl, h2, h4, h6, h8, h9⟩
theorem decimal_b (ng : Bool) (L : List UInt8) (n : Nat) (w : World) (hl : L.length ≤ 400) (h1 : n ≤ 400) (hd : Dm.allD L) (htab : Pow w) :
    Calls Tryz.prog 35 #[.bool ng, .string ⟨L.toArray⟩, .int .i64 (n : Int)] w fun e w' => ∃ r, e = .returned (.tuple #[.agg #[.bool (rx r), .string (ry r), .int .i64 (rz r)], .int .i64 (re r)]) ∧ Dm.Rep (Dm.sgn ng (Dm.num L)) n r ∧ Below w.heap.size w w' := by
  have := decimal_any ng L (n : Int) w hl (by omega) (by omega) hd htab
  rw [show (-(n : Int)).toNat = 0 from by omega, Int.toNat_natCast, Dm.p10_zero, Int.mul_one] at this
  exact this
theorem pos_num {d : Dm.D} (h : Dm.May d) (hne : d.ds ≠ [48]) : 0 < Dm.num d.ds := by
  obtain ⟨h1, h2, h3, h4⟩ := h
  rcases h4 with ⟨h, _⟩ | ⟨h, _⟩
  · exact absurd h hne
  · exact Dm.lead_pos h1 h

set_option maxRecDepth 100000 in
set_option maxHeartbeats 2000000 in
theorem mod_r (x : Bool) (y : List UInt8) (z : Nat) (x2 : Bool) (y2 : List UInt8) (z2 n : Nat) (w : World) (h : Dm.May ⟨x, y, z⟩) (h2 : Dm.May ⟨x2, y2, z2⟩) (hne : y2 ≠ [48]) (hn : max (z : Int) (z2 : Int) = (n : Int)) (htab : Pow w) :
    Calls Tryz.prog 14 #[.agg #[.bool x, .string ⟨y.toArray⟩, .int .i64 (z : Int)], .agg #[.bool x2, .string ⟨y2.toArray⟩, .int .i64 (z2 : Int)]] w fun e w' => ∃ r, e = .returned (tV r) ∧ Dm.Rep (Dm.sgn x ((Dm.num y * 10 ^ (n - z)) % (Dm.num y2 * 10 ^ (n - z2)))) n r ∧ Below w.heap.size w w' := by
  have ht := Tri.start w (.bool x) (.string ⟨y.toArray⟩) (.int .i64 (z : Int)) (.bool x2) (.string ⟨y2.toArray⟩) (.int .i64 (z2 : Int)) 23
  obtain ⟨l1, l2, l3⟩ := may_len h
  obtain ⟨m1, m2, m3⟩ := may_len h2
  have hma := dV_may h
  have hmb := dV_may h2
  have hpos := pos_num h2 hne
  simp only [] at l1 l2 l3 m1 m2 m3 hma hmb hpos
  have hsa : (⟨y.toArray⟩ : ByteArray).size ≤ maxLen := by unfold maxLen; rw [mk_size]; omega
  have hsb : (⟨y2.toArray⟩ : ByteArray).size ≤ maxLen := by unfold maxLen; rw [mk_size]; omega
  obtain ⟨X, hX⟩ : ∃ X, y ++ List.replicate (n - z) 48 = X := ⟨_, rfl⟩
  obtain ⟨Y, hY⟩ : ∃ Y, y2 ++ List.replicate (n - z2) 48 = Y := ⟨_, rfl⟩
  have hXn : Dm.num X = Dm.num y * 10 ^ (n - z) := by rw [← hX, Dm.num_append_zeros]
  have hYn : Dm.num Y = Dm.num y2 * 10 ^ (n - z2) := by rw [← hY, Dm.num_append_zeros]
  have hXl : X.length = y.length + (n - z) := by rw [← hX, List.length_append, List.length_replicate]
  have hYl : Y.length = y2.length + (n - z2) := by rw [← hY, List.length_append, List.length_replicate]
  have hXd : Dm.allD X := by rw [← hX]; exact Dm.allD_append.2 ⟨h.1, Dm.allD_zeros _⟩
  have hYd : Dm.allD Y := by rw [← hY]; exact Dm.allD_append.2 ⟨h2.1, Dm.allD_zeros _⟩
  have hYp : 0 < Dm.num Y := by rw [hYn]; exact Nat.mul_pos hpos (Nat.pow_pos (by decide))
  obtain ⟨p, hp⟩ : ∃ p, X.length = p := ⟨_, rfl⟩
  obtain ⟨q, hq⟩ : ∃ q, Y.length = q := ⟨_, rfl⟩
  have hp0 : 1 ≤ p := by omega
  have hp1 : p ≤ 120 := by omega
  have hq0 : 1 ≤ q := by omega
  have hq1 : q ≤ 120 := by omega
  have hn1 : n = z + (n - z) := by omega
  have hn2 : n = z2 + (n - z2) := by omega
  have hn60 : n ≤ 60 := by omega
  have q0 : (y2 == [48]) = false := beq_eq_false_iff_ne.2 hne
  have HX := hide hX
  have HY := hide hY
  have HXN := hide hXn
  have HYN := hide hYn
  have HP := hide hp
  have HQ := hide hq
  have HMA := hide hma
  have HMB := hide hmb
  have HN1 := hide hn1
  have HN2 := hide hn2
  clear hX hY hXn hYn hp hq hma hmb hXl hYl hn1 hn2
  have tok1 : True := trivial
  have tok2 : True := trivial
  have tok3 : True := trivial
  have tok4 : True := trivial
  go_enter Tryz.func14, Tryz.ntmps14
  go_wp2_with (first | (go_at_call 31; have _t := tok1; refine (may_b x ⟨y.toArray⟩ z true _ hsa (unhide HMA)).mono ?_; rintro e w1 ⟨rfl, hb1⟩; have ht1 := ht.next hb1; clear tok1 _t ht hb1; obtain ⟨⟨c0, c1, c2⟩, ⟨d0, d1, d2⟩⟩ := ht1.cells) | (go_at_call 31; have _t := tok2; refine (may_b x2 ⟨y2.toArray⟩ z2 true _ hsb (unhide HMB)).mono ?_; rintro e w2 ⟨rfl, hb2⟩; have ht2 := ht1.next hb2; clear tok2 _t ht1 hb2 c0 c1 c2 d0 d1 d2; obtain ⟨⟨c0, c1, c2⟩, ⟨d0, d1, d2⟩⟩ := ht2.cells))
  go_region_held3 (fun w' => (w'.cell? ⟨w.heap.size, 0, none⟩ = some (.bool x) ∧ w'.cell? ⟨w.heap.size, 1, none⟩ = some (.string ⟨y.toArray⟩) ∧ w'.cell? ⟨w.heap.size, 2, none⟩ = some (.int .i64 (z : Int))) ∧ (w'.cell? ⟨w.heap.size + 1, 0, none⟩ = some (.bool x2) ∧ w'.cell? ⟨w.heap.size + 1, 1, none⟩ = some (.string ⟨y2.toArray⟩) ∧ w'.cell? ⟨w.heap.size + 1, 2, none⟩ = some (.int .i64 (z2 : Int)))) (first | exact ht5.cells | exact ht4.cells | exact ht3.cells | exact ht2.cells | exact ht2.drew.cells | exact ht5.drew.cells) (first | (go_at_call 44; have _t := tok3; refine (digits_o x y X z n (n - z) _ l2 (unhide HN1) hn60 HX).mono ?_; rintro e w3 ⟨rfl, hb3⟩; have ht3 := Tri.next (by first | exact ht2 | exact ht2.drew) hb3; clear tok3 _t hb3; clear c0 c1 c2 d0 d1 d2; obtain ⟨⟨c0, c1, c2⟩, ⟨d0, d1, d2⟩⟩ := ht3.cells) | (go_at_call 44; have _t := tok4; refine (digits_o x2 y2 Y z2 n (n - z2) _ m2 (unhide HN2) hn60 HY).mono ?_; rintro e w4 ⟨rfl, hb4⟩; have ht4 := Tri.next (by first | exact ht3 | exact ht3.drew) hb4; clear tok4 _t hb4; clear c0 c1 c2 d0 d1 d2; obtain ⟨⟨c0, c1, c2⟩, ⟨d0, d1, d2⟩⟩ := ht4.cells) | (go_at_call 32; refine (long_b X Y p q _ HP hp0 (by omega) HQ hq0 (by omega) hXd hYd hYp).mono ?_; rintro e w5 ⟨g1, g2, R, rfl, hRl, hRd, hRn, hrow, hb5⟩; have ht5 := Tri.next (by first | exact ht4 | exact ht4.drew) hb5; have hpow5 := htab.next ht5.1.1; have cv := conv_row g2 0 (q + 1) (q + 1) R w5 hRl hrow; have hRl4 : R.length ≤ 400 := (by omega); have HRN := hide hRn; have HRL := hide hRl; clear hRn hRl hb5; clear c0 c1 c2 d0 d1 d2; obtain ⟨⟨c0, c1, c2⟩, ⟨d0, d1, d2⟩⟩ := ht5.cells))
  go_wp2_with (go_at_call 35; refine (decimal_b x R n _ hRl4 (by omega) hRd hpow5).mono ?_; rintro e w6 ⟨r, rfl, hrep, hb6⟩; have ht6 := ht5.next hb6; obtain ⟨⟨k0, k1, k2⟩, ⟨f0, f1, f2⟩⟩ := ht6.out; have HREP := hide hrep; clear hrep hb6)
  refine bodyPost_ret (v := tV r) ?_ rfl ⟨r, rfl, ?_, ht6.end _ _ _⟩
  · simp [results, Tryz.results14, go_sem, k0, k1, k2, tV]
  · have := unhide HREP
    rw [unhide HRN, unhide HXN, unhide HYN] at this
    exact this
end Go.Proofs.YtmlmplmghlbdmaaGreatDoor
