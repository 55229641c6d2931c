/- What is proved here: what nearest of package divide does with any digits that are none but noughts, or 35 or more, in the words of numbers; conditions: the table of powers of ten lies in the world. -/
import Derived.Test.YtmlmplmghlbdmaaGreatDoorDj
namespace Go.Proofs.YtmlmplmghlbdmaaGreatDoor
open Go.RowKit
set_option linter.unusedVariables false
set_option linter.unusedSimpArgs false

theorem trimL_n (g1 p : Nat) (Q : List UInt8) (w : World) (hp : Hid (Q.length = p)) (hT : Hid (Dm.tl Q = [])) (h0 : 0 < p) (hp1 : p ≤ 400) (r1 : Hid (Row w g1 0 Q)) :
    Calls Tryz.prog 65 #[.slice (some ⟨g1, 0, none⟩) p p, .string ⟨#[48]⟩] w fun e w' => e = .returned (.slice none 0 0) ∧ w' = w :=
  trimL_none g1 0 p p Q w (unhide hp) h0 (Nat.le_refl _) (by omega) (unhide r1) (unhide hT)
theorem trimR_1 (R K : List UInt8) (w : World) (hK : Hid (Dm.tr R = K)) (hl : R.length ≤ 1000) :
    Calls Tryz.prog 66 #[.string (⟨#[]⟩ ++ ⟨R.toArray⟩), .string ⟨#[48]⟩] w fun e w' => e = .returned (.string ⟨K.toArray⟩) ∧ w' = w := by
  rw [show (⟨#[]⟩ : ByteArray) = ⟨([] : List UInt8).toArray⟩ from rfl, mk_join [] R]
  exact trimRight_b _ _ _ (by rw [mk_size]; simp; omega) (by rw [mk_list, mk_list]; exact unhide hK)
set_option maxRecDepth 100000 in
set_option maxHeartbeats 2000000 in
theorem nearest_z (g1 g2 p q : Nat) (Q R K : List UInt8) (w : World) (hp : Q.length = p) (hT : Dm.tl Q = []) (h0 : 0 < p) (hp1 : p ≤ 400) (hq : R.length = q) (hq1 : q ≤ 400) (r1 : Row w g1 0 Q) (r2 : Row w g2 0 R)
    (hK : Dm.tr R = K) (hb : Op.bytesLess K [53] = true) (hk : (K == [53]) = false) :
    Calls Tryz.prog 34 #[.slice (some ⟨g1, 0, none⟩) p p, .slice (some ⟨g2, 0, none⟩) q q] w fun e w' => e = .returned (.tuple #[.string ⟨#[]⟩, .int .i64 0]) ∧ Below w.heap.size w w' := by
  have cR : ∀ W, Below w.heap.size w W → (convert 38 9 (.slice (some ⟨g2, 0, none⟩) q q)).run Tryz.prog W = .ok (.string ⟨R.toArray⟩) W := fun W hB => conv_row g2 0 q q R W hq (r2.below hB)
  have HP := hide hp
  have HT := hide hT
  have HR1 := hide r1
  have CR := hide cR
  have HK := hide hK
  have hR4 : R.length ≤ 400 := by omega
  have hR5 : R.length ≤ 1000 := by omega
  clear hp r1 cR r2 hT hq hK
  have hmin : min (0 : Int) 34 = 0 := by decide
  have cN : ∀ W, (convert 38 9 (.slice none 0 0)).run Tryz.prog W = .ok (.string ⟨#[]⟩) W := fun W => by
    have := run_convert_bytes_nil (P := Tryz.prog) W 38 5 Tryz.underlying38 Tryz.underlying5 0 0 9 Tryz.underlying9
    exact this
  go_enter Tryz.func34, Tryz.ntmps34
  go_upto_region 4 with (go_at_call 65; refine (trimL_n g1 p Q _ HP HT h0 hp1 HR1).mono ?_; rintro e w' ⟨rfl, rfl⟩)
  have e0 := unhide CR _ (Below.refl _ w')
  have e1 := unhide CR _ (Below.refl _ w').drew
  have e2 := unhide CR _ (Below.refl _ w').drew.drew
  go_cut [7] from 23 to 30 (fun s7 wx => s7 = .string ⟨K.toArray⟩ ∧ Below w'.heap.size w' wx)
  case first =>
    go_region_with (go_at_call 66; refine (trimR_1 R K _ HK hR5).mono ?_; rintro e w4 ⟨rfl, rfl⟩)
    all_goals go_wp2_with fail
    all_goals go_meet
    all_goals exact ⟨rfl, by first | exact Below.refl _ _ | exact (Below.refl _ _).drew | exact (Below.refl _ _).drew.drew | exact (Below.refl _ _).drew.drew.drew⟩
  case rest =>
  obtain ⟨rfl, hB⟩ := hcut
  clear e0 e1 e2
  go_wp2_with fail
  exact bodyPost_ret (v := .tuple #[.string ⟨#[]⟩, .int .i64 0]) (by simp [results, Tryz.results34, go_sem]) rfl ⟨rfl, hB⟩

theorem tl_nil_of {Q : List UInt8} (hd : Dm.allD Q) (h : Dm.num Q = 0) : Dm.tl Q = [] := by
  by_cases e : Dm.tl Q = []
  · exact e
  · have := Dm.lead_pos (Dm.tl_allD hd) (Dm.tl_lead Q e)
    rw [Dm.tl_num] at this
    omega
theorem nearest_any (g1 g2 p q : Nat) (Q R : List UInt8) (w : World) (hp : Q.length = p) (h0 : 0 < p) (hp1 : p ≤ 400) (hq : R.length = q + 1) (hq1 : q < 400) (dQ : Dm.allD Q) (dR : Dm.allD R) (hbig : Dm.num Q = 0 ∨ 10 ^ 34 ≤ Dm.num Q) (hR : Dm.num R < 10 ^ q) (r1 : Row w g1 0 Q) (r2 : Row w g2 0 R) (htab : Pow w) :
    Calls Tryz.prog 34 #[.slice (some ⟨g1, 0, none⟩) p p, .slice (some ⟨g2, 0, none⟩) (q + 1) (q + 1)] w fun e w' => ∃ (G : List UInt8) (t : Nat), e = .returned (.tuple #[.string ⟨G.toArray⟩, .int .i64 (t : Int)]) ∧ t ≤ p ∧ Hid (Dm.DropT (Dm.num Q) t) ∧ Dm.allD G ∧ G.length ≤ 60 ∧ Hid (Dm.num G = Dm.nearN t (q + 1) (Dm.num Q) (Dm.num R)) ∧ Below w.heap.size w w' := by
  have hRl := Dm.lead0 dR hq hR
  rcases hbig with hz | hbig
  · obtain ⟨R', eR⟩ := hRl
    obtain ⟨k1, k2⟩ := Dm.lead0_tr (R := R')
    rw [← eR] at k1 k2
    have hb : Op.bytesLess (Dm.tr R) [53] = true := by
      have := gt_five (Dm.tr R)
      rw [k1, k2, Bool.or_false] at this
      cases h : Op.bytesLess (Dm.tr R) [53] with
      | true => rfl
      | false => rw [h] at this; cases this
    refine (nearest_z g1 g2 p (q + 1) Q R (Dm.tr R) w hp (tl_nil_of dQ hz) h0 hp1 hq (by omega) r1 r2 rfl hb k2).mono ?_
    rintro e w' ⟨rfl, hB⟩
    refine ⟨[], 0, rfl, by omega, hide (.inl ⟨hz, rfl⟩), Dm.allD_nil, by simp, hide ?_, hB⟩
    rw [hz]
    unfold Dm.nearN Dm.upN
    have hp := Dm.pow_pos' q
    have hpp : 10 ^ (0 - 1 + (q + 1)) = 10 ^ q * 10 := by rw [Nat.zero_sub, Nat.zero_add, Nat.pow_succ]
    rw [Nat.pow_zero, Nat.mod_one, Nat.zero_mul, Nat.zero_add, hpp]
    have a1 : decide (5 * (10 ^ q * 10) < Dm.num R) = false := by rw [decide_eq_false_iff_not]; omega
    have a2 : decide (Dm.num R = 5 * (10 ^ q * 10)) = false := by rw [decide_eq_false_iff_not]; omega
    rw [Nat.zero_add, a1, a2]
    rfl
  · obtain ⟨T, hT⟩ : ∃ T, Dm.tl Q = T := ⟨_, rfl⟩
    have hTn : Dm.num T = Dm.num Q := by rw [← hT]; exact Dm.tl_num Q
    have hTd : Dm.allD T := by rw [← hT]; exact Dm.tl_allD dQ
    have hTl : 35 ≤ T.length := by
      have h1 := Dm.num_lt hTd
      rw [hTn] at h1
      rcases Nat.lt_or_ge T.length 35 with g | g
      · have := Nat.pow_le_pow_right (n := 10) (by omega) (show T.length ≤ 34 from by omega)
        omega
      · exact g
    have hne : T ≠ [] := by intro e; rw [e] at hTl; simp at hTl
    have hlead : Dm.noLead T := by rw [← hT]; exact Dm.tl_lead Q (by rw [hT]; exact hne)
    obtain ⟨j, hj⟩ := Dm.tl_spec Q
    rw [hT] at hj
    have hjl : p = j + T.length := by
      have := congrArg List.length hj
      simp only [List.length_append, List.length_replicate] at this
      omega
    obtain ⟨t, ht⟩ : ∃ t, T.length = 34 + t := ⟨T.length - 34, by omega⟩
    obtain ⟨s1, s2⟩ := Dm.split_num hTd 34 (by omega)
    have hHd : Dm.allD (T.take 34) := fun x hx => hTd x (List.mem_of_mem_take hx)
    have hHl : (T.take 34).length = 34 := by rw [List.length_take]; omega
    have hHn : Dm.num (T.take 34) + 1 < 10 ^ 60 := by
      have h1 := Dm.num_lt hHd
      rw [hHl] at h1
      have h2 : (10 : Nat) ^ 34 + 1 < 10 ^ 60 := by decide
      omega
    have hM : Dm.May ⟨false, T.take 34, 0⟩ := by
      refine ⟨hHd, by simp only; omega, by simp, .inr ⟨?_, .inl rfl⟩⟩
      obtain ⟨c, u, e, hc⟩ := hlead
      rw [e]
      exact ⟨c, u.take 33, rfl, hc⟩
    have ho : decide (((T.take 34).getD 33 0).toNat % 2 = 1) = decide (Dm.num (T.take 34) % 2 = 1) := by
      have h33 : 33 < (T.take 34).length := by omega
      have e : T.take 34 = (T.take 34).take 33 ++ [(T.take 34).getD 33 0] := by
        have := (List.take_append_drop 33 (T.take 34)).symm
        have hd : (T.take 34).drop 33 = [(T.take 34).getD 33 0] := by
          rw [List.drop_eq_getElem_cons h33]
          have : (T.take 34).drop (33 + 1) = [] := List.drop_eq_nil_of_le (by omega)
          rw [this]
          simp only [List.getD, List.getElem?_eq_getElem h33, Option.getD_some]
        rw [hd] at this
        exact this
      exact (Dm.last_odd hHd e).symm
    refine (nearest_t g1 g2 j T.length t p (q + 1) Q T R (T.take 34) (T.drop 34) (Dm.tr (T.drop 34 ++ R)) w hp hT rfl hjl ht (by omega) hp1 hq (by omega) r1 r2 rfl rfl rfl hM hHn htab _ _ _ ho rfl rfl _ (hide rfl)).mono ?_
    rintro e w' ⟨G, rfl, h1, h2, h3, hB⟩
    refine ⟨G, t, rfl, by omega, hide (.inr ⟨by omega, ?_, ?_⟩), h1, h2, hide ?_, hB⟩
    · obtain ⟨c, u, e, hc⟩ := hlead
      have h4 : 10 ^ u.length ≤ Dm.num T := by
        have hTd' := hTd
        rw [e] at hTd' ⊢
        exact Dm.num_ge (Dm.allD_cons.1 hTd').1 hc
      have h5 : u.length = t + 33 := by
        have := congrArg List.length e
        simp only [List.length_cons] at this
        omega
      rw [h5, hTn] at h4
      exact h4
    · have := Dm.num_lt hTd
      rw [hTn, ht, Nat.add_comm] at this
      exact this
    · have hu := Dm.up_spec hTd dR 34 (by omega)
      rw [gt_five, h3, hu] at *
      rw [hq, hTn, show T.length - 34 = t from by omega] at *
      rw [s1]
      unfold Dm.nearN
      cases Dm.upN t (q + 1) (Dm.num Q) (Dm.num R) <;> rfl
end Go.Proofs.YtmlmplmghlbdmaaGreatDoor
