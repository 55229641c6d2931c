/- What is proved here: what decimal of package divide does, walked; conditions: digits, not too many, and the table of powers of ten lies in the world. -/
import Derived.Test.YtmlmplmghlbdmaaGreatDoorMp
import Derived.Test.YtmlmplmghlbdmaaGreatDoorTi
import Derived.Test.YtmlmplmghlbdmaaGreatDoorWt
import Derived.Test.YtmlmplmghlbdmaaGreatDoorUa
import Derived.Deep.CutRange
namespace Go.Proofs.YtmlmplmghlbdmaaGreatDoor
open Go.RowKit
set_option linter.unusedVariables false
set_option linter.unusedSimpArgs false

theorem repeat_b (c : Int) (k : Nat) (w : World) (h0 : c = (k : Int)) (h1 : k ≤ 1000) :
    Calls Tryz.prog 33 #[.string ⟨#[48]⟩, .int .i64 c] w fun e w' => e = .returned (.string ⟨(List.replicate k (48 : UInt8)).toArray⟩) ∧ Below w.heap.size w w' := by
  have := repeat_any c w (by omega) (by omega)
  rw [h0, Int.toNat_natCast] at this
  rw [h0]; exact this
theorem int_zero (w : World) (h : Pow w) : Calls Tryz.prog 51 #[.int .i64 0] w fun e w' => e = .returned (.agg #[.bool false, .string ⟨#[48]⟩, .int .i64 0]) ∧ Below w.heap.size w w' := int_v 0 false [48] w (by decide) (by decide) h ofInt_0

set_option maxRecDepth 100000 in
set_option maxHeartbeats 2000000 in
theorem decimal_any (ng : Bool) (L : List UInt8) (sc : Int) (w : World) (hl : L.length ≤ 400) (h0 : -400 ≤ sc) (h1 : sc ≤ 400) (hd : Dm.allD L) (htab : Pow w) :
    Calls Tryz.prog 35 #[.bool ng, .string ⟨L.toArray⟩, .int .i64 sc] w fun e w' => ∃ r, e = .returned (.tuple #[.agg #[.bool (rx r), .string (ry r), .int .i64 (rz r)], .int .i64 (re r)]) ∧ Dm.Rep (Dm.sgn ng (Dm.num L) * Dm.p10 (-sc).toNat) sc.toNat r ∧ Below w.heap.size w w' := by
  have hO := Own.start w
  obtain ⟨T, hT⟩ : ∃ T, Dm.tl L = T := ⟨_, rfl⟩
  have hdT : Dm.allD T := by rw [← hT]; exact Dm.tl_allD hd
  have hnT : Dm.num T = Dm.num L := by rw [← hT]; exact Dm.tl_num L
  have hlT : T.length ≤ 400 := by
    obtain ⟨j, hj⟩ := Dm.tl_spec L
    have := congrArg List.length hj
    rw [List.length_append, hT] at this
    omega
  have HT := hide hT
  have HNT := hide hnT
  by_cases hne : T = []
  · have hz : Dm.num L = 0 := by rw [← hnT, hne]; rfl
    have HZ := hide hz
    subst hne
    clear hT hnT hz
    go_enter Tryz.func35, Tryz.ntmps35
    go_wp2_with fail
    refine (trimLeft_b ⟨L.toArray⟩ ⟨#[]⟩ _ (unhide HT)).mono ?_
    rintro e w1 ⟨rfl, rfl⟩
    go_wp2_with fail
    refine (int_zero _ (htab.next hO.1)).mono ?_
    rintro e w2 ⟨rfl, hb2⟩
    have hO2 := hO.step hb2
    clear hb2 hO
    obtain ⟨o1, o2, o3, o4, o5, o6⟩ := hO2.facts
    go_wp2
    refine bodyPost_ret (v := tV (some ⟨false, [48], 0⟩)) (by simp [results, Tryz.results35, go_sem, tV, rx, ry, rz, re, o1, o2, o3]) rfl ⟨some ⟨false, [48], 0⟩, rfl, ?_, hO2.end _ _ _⟩
    rw [unhide HZ, Dm.sgn_zero, Int.zero_mul]
    exact Dm.zero_rep _
  · have hlead : Dm.noLead T := by rw [← hT]; exact Dm.tl_lead L (by rw [hT]; exact hne)
    obtain ⟨r, hp, hrep⟩ := Dm.text_parse ng (sc := sc) hdT hlead
    rw [hnT] at hrep
    obtain ⟨b1, b2, b3⟩ := Dm.ptD_bd T sc hne
    have hpl := Dm.padD_len T sc
    have hTe : (⟨T.toArray⟩ : ByteArray).toList.isEmpty = false := by
      rw [toList_eq, mk_list]
      cases T with
      | nil => exact absurd rfl hne
      | cons => rfl
    have HP := hide hp
    have HREP := hide hrep
    have HB3 := hide b3
    have HPL := hide hpl
    have q1 : T.isEmpty = false := by
      cases T with
      | nil => exact absurd rfl hne
      | cons => rfl
    have q2 : (T == []) = false := beq_eq_false_iff_ne.2 hne
    clear hT hnT hp hrep b3 hpl
    go_enter Tryz.func35, Tryz.ntmps35
    go_wp2_with fail
    refine (trimLeft_b ⟨L.toArray⟩ ⟨T.toArray⟩ _ (unhide HT)).mono ?_
    rintro e w1 ⟨rfl, rfl⟩
    go_wp2_with fail
    refine (repeat_b (max 0 (sc + 1 - (T.length : Int))) (sc + 1 - (T.length : Int)).toNat _ (by omega) (by omega)).mono ?_
    rintro e w2 ⟨rfl, hb2⟩
    have hO2 := hO.step hb2
    clear hb2 hO
    go_wp2_with fail
    refine (repeat_b (max 0 (-sc)) (-sc).toNat _ (by omega) (by omega)).mono ?_
    rintro e w3 ⟨rfl, hb3⟩
    have hO3 := hO2.step hb3
    clear hb3 hO2
    obtain ⟨G, hG⟩ : ∃ G, Dm.padD T sc = G := ⟨_, rfl⟩
    obtain ⟨pt, hpt⟩ : ∃ pt, Dm.ptD T sc = pt := ⟨_, rfl⟩
    rw [hpt] at b1 b2
    rw [hG] at b2
    have hGl : G.length ≤ 1300 := by rw [← hG, unhide HPL]; omega
    have eG : (⟨Array.replicate ((sc + 1).toNat - T.length) 48⟩ ++ ⟨T.toArray⟩ ++ ⟨Array.replicate (-sc).toNat 48⟩ : ByteArray) = ⟨G.toArray⟩ := by
      rw [← hG]
      unfold Dm.padD
      rw [show ((sc + 1).toNat - T.length) = (sc + 1 - (T.length : Int)).toNat from by omega, show (⟨Array.replicate (sc + 1 - (T.length : Int)).toNat 48⟩ : ByteArray) = ⟨(List.replicate (sc + 1 - (T.length : Int)).toNat (48 : UInt8)).toArray⟩ from by rw [List.toArray_replicate], mk_join (List.replicate (sc + 1 - (T.length : Int)).toNat 48) T, str_join]
    have eP : ((((sc + 1).toNat - T.length : Nat) : Int) + (T.length : Int) + max (-sc) 0 - max 0 sc) = ((pt : Nat) : Int) := by
      have h3 := unhide HB3
      have h4 := unhide HPL
      rw [hG] at h3 h4
      rw [hpt] at h3
      omega
    have hb2 : (pt : Int) ≤ (G.length : Int) := by omega
    have HEG := hide eG
    have HEP := hide eP
    have HG := hide hG
    have HPT := hide hpt
    clear eG eP hG hpt
    go_upto_region 6 with fail
    simp only [unhide HEG, unhide HEP]
    clear HEG HEP
    go_quiet (fail)
    have hO4 := hO3.step (Go.Joins.below_draws _ _ nq)
    clear hO3
    generalize w3.drewN nq = w4 at hO4 ⊢
    have eT : (⟨G.toArray⟩ : ByteArray).extract 0 pt ++ ⟨#[46]⟩ ++ (⟨G.toArray⟩ : ByteArray).extract pt G.length ++ ⟨#[48]⟩ = ⟨(G.take pt ++ 46 :: (G.drop pt ++ [48])).toArray⟩ := by
      have e1 : (⟨G.toArray⟩ : ByteArray).extract 0 pt = ⟨(G.take pt).toArray⟩ := by
        apply str_ext
        rw [Go.Lib.extract_data, mk_list, List.drop_zero, Nat.sub_zero]
      have e2 : (⟨G.toArray⟩ : ByteArray).extract pt G.length = ⟨(G.drop pt).toArray⟩ := by
        apply str_ext
        rw [Go.Lib.extract_data, mk_list, List.take_of_length_le (by rw [List.length_drop]; omega)]
      rw [e1, e2, show (⟨#[46]⟩ : ByteArray) = ⟨[46].toArray⟩ from rfl, show (⟨#[48]⟩ : ByteArray) = ⟨[48].toArray⟩ from rfl, mk_join, mk_join, mk_join]
      simp
    obtain ⟨U, hU⟩ : ∃ U, G.take pt ++ 46 :: (G.drop pt ++ [48]) = U := ⟨_, rfl⟩
    rw [hU] at eT
    have hUl : U.length ≤ 1400 := by rw [← hU]; simp; omega
    have hpU : Dm.parseL ((if ng then [45] else []) ++ U) = some r := by
      have := unhide HP
      unfold Dm.textD at this
      rw [unhide HPT, unhide HG, hU] at this
      exact this
    have HET := hide eT
    have HPU := hide hpU
    clear eT hpU hU
    simp only [unhide HET]
    clear HET
    cases ng with
    | true =>
      go_wp2_with fail
      have eU : (⟨#[45]⟩ ++ ⟨U.toArray⟩ : ByteArray) = ⟨(45 :: U).toArray⟩ := mk_join [45] U
      have HEU := hide eU
      clear eU
      simp only [unhide HEU]
      refine (parse_r ⟨(45 :: U).toArray⟩ r _ (by rw [mk_size]; simp; omega) (by rw [mk_list]; exact unhide HPU)).mono ?_
      rintro e w5 ⟨rfl, hb5⟩
      have hO5 := hO4.step hb5
      clear hb5 hO4
      obtain ⟨o1, o2, o3, o4, o5, o6⟩ := hO5.facts
      go_wp2
      refine bodyPost_ret (v := tV r) (by simp [results, Tryz.results35, go_sem, tV, o1, o2, o3]) rfl ⟨r, rfl, unhide HREP, hO5.end _ _ _⟩
    | false =>
      go_wp2_with fail
      refine (parse_r ⟨U.toArray⟩ r _ (by rw [mk_size]; omega) (by rw [mk_list]; exact unhide HPU)).mono ?_
      rintro e w5 ⟨rfl, hb5⟩
      have hO5 := hO4.step hb5
      clear hb5 hO4
      obtain ⟨o1, o2, o3, o4, o5, o6⟩ := hO5.facts
      go_wp2
      refine bodyPost_ret (v := tV r) (by simp [results, Tryz.results35, go_sem, tV, o1, o2, o3]) rfl ⟨r, rfl, unhide HREP, hO5.end _ _ _⟩
end Go.Proofs.YtmlmplmghlbdmaaGreatDoor
