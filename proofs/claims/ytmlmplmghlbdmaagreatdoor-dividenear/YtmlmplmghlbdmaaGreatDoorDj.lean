/- What is proved here: what nearest of package divide does, walked; conditions: digits, 35 or more without noughts ahead or none but noughts, and the table of powers of ten lies in the world. -/
import Derived.Test.YtmlmplmghlbdmaaGreatDoorDi
namespace Go.Proofs.YtmlmplmghlbdmaaGreatDoor
open Go.RowKit
set_option linter.unusedVariables false
set_option linter.unusedSimpArgs false

theorem int_one (w : World) (h : Pow w) : Calls Tryz.prog 51 #[.int .i64 1] w fun e w' => e = .returned (.agg #[.bool false, .string ⟨#[49]⟩, .int .i64 0]) ∧ Below w.heap.size w w' := int_v 1 false [49] w (by decide) (by decide) h ofInt_1
theorem unit_may (x : Bool) : Dm.May ⟨x, [49], 0⟩ := ⟨by intro c h; simp at h; rw [h]; rfl, by simp, by simp, .inr ⟨⟨49, [], rfl, by decide⟩, .inl rfl⟩⟩
theorem unit_sg (x : Bool) : Dm.sg ⟨x, [49], 0⟩ = Dm.sgn x 1 := by cases x <;> rfl
theorem add_one (H : List UInt8) (n : Nat) (w : World) (hm : Dm.May ⟨false, H, 0⟩) (hn : Dm.num H = n) (hlt : n + 1 < 10 ^ 60) :
    Calls Tryz.prog 68 #[.agg #[.bool false, .string ⟨H.toArray⟩, .int .i64 0], .agg #[.bool false, .string ⟨#[49]⟩, .int .i64 0]] w fun e w' => ∃ ds : List UInt8, e = .returned (.tuple #[.agg #[.bool false, .string ⟨ds.toArray⟩, .int .i64 0], .int .i64 0]) ∧ Hid (Dm.allD ds ∧ ds.length ≤ 60 ∧ Dm.num ds = n + 1) ∧ Below w.heap.size w w' := by
  refine (add_r false H 0 false [49] 0 w hm (unit_may false)).mono ?_
  rintro e w' ⟨r, rfl, hr, hB⟩
  have e1 : Dm.sg ⟨false, H, 0⟩ * Dm.p10 0 + Dm.sg ⟨false, [49], 0⟩ * Dm.p10 0 = Dm.sgn false (n + 1) := by
    rw [unit_sg, Dm.p10_zero, Int.mul_one, Int.mul_one, ← hn]
    simp [Dm.sg, Dm.sgn]
  rw [e1] at hr
  obtain ⟨ds, rfl, h2, h3, _⟩ := Dm.rep_nat hr hlt (by omega)
  exact ⟨ds, rfl, hide ⟨h2.1, h2.2.1, h3⟩, hB⟩

theorem trimL_p (g1 j m p : Nat) (Q T : List UInt8) (w : World) (hp : Hid (Q.length = p)) (hT : Hid (Dm.tl Q = T)) (hm : Hid (T.length = m)) (hj : Hid (p = j + m)) (h0 : 0 < m) (hp1 : p ≤ 400) (r1 : Hid (Row w g1 0 Q)) :
    Calls Tryz.prog 65 #[.slice (some ⟨g1, 0, none⟩) p p, .string ⟨#[48]⟩] w fun e w' => e = .returned (.slice (some ⟨g1, j, none⟩) m m) ∧ w' = w := by
  refine (trimL_some g1 0 j m p p Q _ (unhide hp) (unhide hj) (by rw [unhide hT]; exact unhide hm) h0 (Nat.le_refl _) (by omega) (unhide r1)).mono ?_
  rintro e w' ⟨rfl, rfl⟩
  have := unhide hj
  rw [Nat.zero_add, show p - j = m from by omega]
  exact ⟨rfl, rfl⟩
theorem trimR_j (D R K : List UInt8) (w : World) (hK : Hid (Dm.tr (D ++ R) = K)) (hl : (D ++ R).length ≤ 1000) :
    Calls Tryz.prog 66 #[.string (⟨D.toArray⟩ ++ ⟨R.toArray⟩), .string ⟨#[48]⟩] w fun e w' => e = .returned (.string ⟨K.toArray⟩) ∧ w' = w := by
  rw [mk_join D R]
  exact trimRight_b _ _ _ (by rw [mk_size]; omega) (by rw [mk_list, mk_list]; exact unhide hK)

set_option maxRecDepth 100000 in
set_option maxHeartbeats 2000000 in
theorem nearest_t (g1 g2 j m t p q : Nat) (Q T R H D K : List UInt8) (w : World) (hp : Q.length = p) (hT : Dm.tl Q = T) (hm : T.length = m) (hj : p = j + m) (hmt : m = 34 + t) (ht : 1 ≤ t) (hp1 : p ≤ 400) (hq : R.length = q) (hq1 : q ≤ 400) (r1 : Row w g1 0 Q) (r2 : Row w g2 0 R)
    (hH : T.take 34 = H) (hD : T.drop 34 = D) (hK : Dm.tr (D ++ R) = K) (hM : Dm.May ⟨false, H, 0⟩) (hHn : Dm.num H + 1 < 10 ^ 60) (htab : Pow w) (o b k : Bool) (ho : decide ((H.getD 33 0).toNat % 2 = 1) = o) (hb : Op.bytesLess K [53] = b) (hk : (K == [53]) = k) (u : Nat) (hu : Hid (u = (!(b || k) || (k && o)).toNat)) :
    Calls Tryz.prog 34 #[.slice (some ⟨g1, 0, none⟩) p p, .slice (some ⟨g2, 0, none⟩) q q] w fun e w' => ∃ G : List UInt8, e = .returned (.tuple #[.string ⟨G.toArray⟩, .int .i64 (t : Int)]) ∧ Dm.allD G ∧ G.length ≤ 60 ∧ Dm.num G = Dm.num H + u ∧ Below w.heap.size w w' := by
  have rT : Row w g1 j T := by
    obtain ⟨j', hj'⟩ := Dm.tl_spec Q
    have e : j' = j := by
      have := congrArg List.length hj'
      simp only [List.length_append, List.length_replicate] at this
      rw [hT] at this
      omega
    subst e
    have := r1.drop j'
    rw [hj', hT] at this
    simpa using this
  have rH : Row w g1 j H := by rw [← hH]; exact rT.take 34
  have rD : Row w g1 (j + 34) D := by rw [← hD]; exact rT.drop 34
  have hHl : H.length = 34 := by rw [← hH, List.length_take]; omega
  have hDl : D.length = t := by rw [← hD, List.length_drop]; omega
  have cH : (convert 38 9 (.slice (some ⟨g1, j, none⟩) 34 m)).run Tryz.prog w = .ok (.string ⟨H.toArray⟩) w := conv_row g1 j 34 m H w hHl rH
  have cD : ∀ W, Below w.heap.size w W → (convert 38 9 (.slice (some ⟨g1, j + 34, none⟩) (m - 34) (m - 34))).run Tryz.prog W = .ok (.string ⟨D.toArray⟩) W := fun W hB => conv_row g1 (j + 34) (m - 34) (m - 34) D W (by omega) (rD.below hB)
  have cR : ∀ W, Below w.heap.size w W → (convert 38 9 (.slice (some ⟨g2, 0, none⟩) q q)).run Tryz.prog W = .ok (.string ⟨R.toArray⟩) W := fun W hB => conv_row g2 0 q q R W hq (r2.below hB)
  have hmin : min (m : Int) 34 = 34 := by omega
  have h34 : (34 : Int) ≤ (m : Int) := by omega
  have h34n : 34 ≤ m := by omega
  have hne : m ≠ 34 := by omega
  have hsub : (m : Int) - 34 = (t : Int) := by omega
  have hm4 : m ≤ 400 := by omega
  have HP := hide hp
  have HJ := hide hj
  have HT := hide hT
  have HM := hide hm
  have HR1 := hide r1
  have h0 : 0 < m := by omega
  have CD := hide cD
  have CR := hide cR
  have HDL := hide hDl
  have HQ := hide hq
  have HK := hide hK
  have HO := hide ho
  have hDR : (D ++ R).length ≤ 1000 := by rw [List.length_append]; omega
  have hD4 : D.length ≤ 400 := by omega
  have hR4 : R.length ≤ 400 := by omega
  clear hp hj r1 cD cR rT rH rD r2 hT hH hD hmt hm hDl hq hK ho
  go_enter Tryz.func34, Tryz.ntmps34
  go_upto_region 4 with (go_at_call 65; refine (trimL_p g1 j m p Q T _ HP HT HM HJ h0 hp1 HR1).mono ?_; rintro e w' ⟨rfl, rfl⟩)
  have d0 := unhide CD _ (Below.refl _ w')
  have d1 := unhide CD _ (Below.refl _ w').drew
  have d2 := unhide CD _ (Below.refl _ w').drew.drew
  have e0 := unhide CR _ (Below.refl _ w')
  have e1 := unhide CR _ (Below.refl _ w').drew
  have e2 := unhide CR _ (Below.refl _ w').drew.drew
  go_cut [7] from 23 to 30 (fun s7 wx => s7 = .string ⟨K.toArray⟩ ∧ Below w'.heap.size w' wx)
  case first =>
    go_region_with (go_at_call 66; refine (trimR_j D R K _ HK hDR).mono ?_; rintro e w4 ⟨rfl, rfl⟩)
    all_goals go_wp2_with fail
    all_goals go_meet
    all_goals exact ⟨rfl, by first | exact Below.refl _ _ | exact (Below.refl _ _).drew | exact (Below.refl _ _).drew.drew | exact (Below.refl _ _).drew.drew.drew⟩
  case rest =>
  obtain ⟨rfl, hB⟩ := hcut
  clear d0 d1 d2 e0 e1 e2 cH
  have hO := fun W => isOdd_b H 33 o W hHl (by decide) (unhide HO)
  have HOO := hide hO
  clear hO
  have p2 := htab.next hB
  have ADD := hide (fun W => add_one H (Dm.num H) W hM rfl hHn)
  have fin : ∀ (e : Ending) (W : World) (ds : List UInt8), Hid (Dm.allD ds ∧ ds.length ≤ 60 ∧ Dm.num ds = Dm.num H + 1) → u = 1 → Below w'.heap.size w' W → e = .returned (.tuple #[.string ⟨ds.toArray⟩, .int .i64 (t : Int)]) → ∃ G : List UInt8, e = .returned (.tuple #[.string ⟨G.toArray⟩, .int .i64 (t : Int)]) ∧ Dm.allD G ∧ G.length ≤ 60 ∧ Dm.num G = Dm.num H + u ∧ Below w'.heap.size w' W :=
    fun e W ds h hc hB he => ⟨_, he, (unhide h).1, (unhide h).2.1, by rw [(unhide h).2.2, hc], hB⟩
  have fin0 : ∀ (e : Ending) (W : World), u = 0 → Below w'.heap.size w' W → e = .returned (.tuple #[.string ⟨H.toArray⟩, .int .i64 (t : Int)]) → ∃ G : List UInt8, e = .returned (.tuple #[.string ⟨G.toArray⟩, .int .i64 (t : Int)]) ∧ Dm.allD G ∧ G.length ≤ 60 ∧ Dm.num G = Dm.num H + u ∧ Below w'.heap.size w' W :=
    fun e W hc hB he => ⟨_, he, hM.1, hM.2.1, by rw [hc]; rfl, hB⟩
  have FIN := hide fin
  have FIN0 := hide fin0
  clear fin fin0
  cases k with
  | false =>
    cases b with
    | true =>
      go_wp2_with fail
      exact bodyPost_ret (v := .tuple #[.string ⟨H.toArray⟩, .int .i64 (t : Int)]) (by simp [results, Tryz.results34, go_sem]) rfl (unhide FIN0 _ _ (unhide hu) hB rfl)
    | false =>
      go_wp2_with (first | (go_at_call 51; refine (int_one _ p2).mono ?_; rintro e w5 ⟨rfl, hb5⟩) | (go_at_call 68; refine (unhide ADD _).mono ?_; rintro e w6 ⟨ds, rfl, HDS, hb6⟩))
      exact bodyPost_ret (v := .tuple #[.string ⟨ds.toArray⟩, .int .i64 (t : Int)]) (by simp [results, Tryz.results34, go_sem]) rfl (unhide FIN _ _ _ HDS (unhide hu) ((hB.trans ((hb5.trans (hb6.mono hb5.size)).mono hB.size)).alloc (by have := hB.size; have := hb5.size; have := hb6.size; omega) _) rfl)
  | true =>
    have hbk : (!(b || true)) = false := by cases b <;> rfl
    cases o with
    | false =>
      go_wp2_with (first | (go_at_call 67; refine (unhide HOO _).mono ?_; rintro e w4 ⟨rfl, hb4⟩))
      exact bodyPost_ret (v := .tuple #[.string ⟨H.toArray⟩, .int .i64 (t : Int)]) (by simp [results, Tryz.results34, go_sem]) rfl (unhide FIN0 _ _ (by rw [unhide hu]; cases b <;> rfl) (hB.trans (hb4.mono hB.size)) rfl)
    | true =>
      go_wp2_with (first | (go_at_call 67; refine (unhide HOO _).mono ?_; rintro e w4 ⟨rfl, hb4⟩) | (first | (go_at_call 51; refine (int_one _ (p2.next hb4)).mono ?_; rintro e w5 ⟨rfl, hb5⟩) | (go_at_call 68; refine (unhide ADD _).mono ?_; rintro e w6 ⟨ds, rfl, HDS, hb6⟩)))
      exact bodyPost_ret (v := .tuple #[.string ⟨ds.toArray⟩, .int .i64 (t : Int)]) (by simp [results, Tryz.results34, go_sem]) rfl (unhide FIN _ _ _ HDS (by rw [unhide hu]; cases b <;> rfl) ((hB.trans ((hb4.trans ((hb5.trans (hb6.mono hb5.size)).mono hb4.size)).mono hB.size)).alloc (by have := hB.size; have := hb4.size; have := hb5.size; have := hb6.size; omega) _) rfl)
end Go.Proofs.YtmlmplmghlbdmaaGreatDoor
