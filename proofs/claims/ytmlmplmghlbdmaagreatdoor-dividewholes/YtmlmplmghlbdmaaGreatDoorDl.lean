/- What is proved here: what isOdd of package divide does, walked, and how texts of digits stand to "5"; conditions: as each theorem states. What is proved here: what nearest of package divide does, walked; conditions: digits, 35 or more without noughts ahead or none but noughts, and the table of powers of ten lies in the world. What is proved here: what nearest of package divide does with any digits that are none but noughts, or 35 or more, in the words of numbers; conditions: the table of powers of ten lies in the world. What is proved here: what Div of package divide does with decimals that may be, of which the second is not 0, walked; condition: the table of powers of ten lies in the world. -/
import Derived.Test.YtmlmplmghlbdmaaGreatDoorDh
import Derived.Test.YtmlmplmghlbdmaaGreatDoorMt
namespace Go.Proofs.YtmlmplmghlbdmaaGreatDoor
open Go.RowKit
set_option linter.unusedVariables false
set_option linter.unusedSimpArgs false

theorem gt_five (K : List UInt8) : (!(Op.bytesLess K [53] || K == [53])) = Dm.gt5 K := by
  cases K with
  | nil => rfl
  | cons a x =>
    have e1 : Op.bytesLess (a :: x) [53] = decide (a.toNat < 53) := by
      unfold Op.bytesLess
      cases x with
      | nil => simp [Op.bytesLess, UInt8.lt_iff_toNat_lt]
      | cons => simp [Op.bytesLess, UInt8.lt_iff_toNat_lt]
    rw [e1]
    by_cases h : a = 53
    · subst h
      cases x <;> simp [Dm.gt5]
    · have h2 : a.toNat ≠ 53 := fun e => h (UInt8.toNat_inj.1 (by simpa using e))
      have h3 : (a :: x == [53]) = false := beq_eq_false_iff_ne.2 (by intro e; injection e with e _; exact h e)
      rw [h3, Bool.or_false]
      simp only [Dm.gt5]
      rw [decide_eq_false h2, Bool.false_and, Bool.or_false]
      by_cases g : a.toNat < 53
      · rw [decide_eq_true g, decide_eq_false (by omega)]; rfl
      · rw [decide_eq_false g, decide_eq_true (by omega)]; rfl
theorem last_of {l a : List UInt8} {c : UInt8} (h : l = a ++ [c]) (k : Nat) (hk : k + 1 = l.length) (h2 : k < l.length) : l[k]'h2 = c := by
  subst h
  simp at hk
  subst hk
  simp
set_option maxRecDepth 100000 in
set_option maxHeartbeats 1000000 in
theorem isOdd_b (l : List UInt8) (n : Nat) (o : Bool) (w : World) (hl : l.length = n + 1) (hn : n ≤ 100) (ho : decide ((l.getD n 0).toNat % 2 = 1) = o) :
    Calls Tryz.prog 67 #[.string ⟨l.toArray⟩] w fun e w' => e = .returned (.bool o) ∧ Below w.heap.size w w' := by
  have h2 : n < l.length := by omega
  have e : l.getD n 0 = l[n]'h2 := by simp [List.getD, h2]
  rw [e] at ho
  go_enter Tryz.func67, Tryz.ntmps67
  go_wp2
  go_ret
  refine ⟨?_, Below.refl _ _⟩
  rw [← ho]
  have e3 : ∀ c : UInt8, ((c.toNat : Int) % 2 == 1) = decide (c.toNat % 2 = 1) := by
    intro c
    by_cases h : c.toNat % 2 = 1
    · rw [decide_eq_true h]
      have : (c.toNat : Int) % 2 = 1 := by omega
      rw [this]; rfl
    · rw [decide_eq_false h]
      exact beq_eq_false_iff_ne.2 (by omega)
  rw [← e3]
  rfl
end Go.Proofs.YtmlmplmghlbdmaaGreatDoor

namespace Go.Proofs.YtmlmplmghlbdmaaGreatDoor
open Go.RowKit
set_option linter.unusedVariables false
set_option linter.unusedSimpArgs false

theorem int_one (w : World) (h : Pow w) : Calls Tryz.prog 51 #[.int .i64 1] w fun e w' => e = .returned (.agg #[.bool false, .string ⟨#[49]⟩, .int .i64 0]) ∧ Below w.heap.size w w' := int_v 1 false [49] w (by decide) (by decide) h ofInt_1
theorem unit_may (x : Bool) : Dm.May ⟨x, [49], 0⟩ := ⟨by intro c h; simp at h; rw [h]; rfl, by simp, by simp, .inr ⟨⟨49, [], rfl, by decide⟩, .inl rfl⟩⟩
theorem unit_sg (x : Bool) : Dm.sg ⟨x, [49], 0⟩ = Dm.sgn x 1 := by cases x <;> rfl
theorem add_one (H : List UInt8) (n : Nat) (w : World) (hm : Dm.May ⟨false, H, 0⟩) (hn : Dm.num H = n) (hlt : n + 1 < 10 ^ 60) :
    Calls Tryz.prog 68 #[.agg #[.bool false, .string ⟨H.toArray⟩, .int .i64 0], .agg #[.bool false, .string ⟨#[49]⟩, .int .i64 0]] w fun e w' => ∃ ds : List UInt8, e = .returned (.tuple #[.agg #[.bool false, .string ⟨ds.toArray⟩, .int .i64 0], .int .i64 0]) ∧ Hid (Dm.allD ds ∧ ds.length ≤ 60 ∧ Dm.num ds = n + 1) ∧ Below w.heap.size w w' := by
  refine (add_r false H 0 false [49] 0 w hm (unit_may false)).mono ?_
  rintro e w' ⟨r, rfl, hr, hB⟩
  have e1 : Dm.sg ⟨false, H, 0⟩ * Dm.p10 0 + Dm.sg ⟨false, [49], 0⟩ * Dm.p10 0 = Dm.sgn false (n + 1) := by
    rw [unit_sg, Dm.p10_zero, Int.mul_one, Int.mul_one, ← hn]
    simp [Dm.sg, Dm.sgn]
  rw [e1] at hr
  obtain ⟨ds, rfl, h2, h3, _⟩ := Dm.rep_nat hr hlt (by omega)
  exact ⟨ds, rfl, hide ⟨h2.1, h2.2.1, h3⟩, hB⟩

theorem trimL_p (g1 j m p : Nat) (Q T : List UInt8) (w : World) (hp : Hid (Q.length = p)) (hT : Hid (Dm.tl Q = T)) (hm : Hid (T.length = m)) (hj : Hid (p = j + m)) (h0 : 0 < m) (hp1 : p ≤ 400) (r1 : Hid (Row w g1 0 Q)) :
    Calls Tryz.prog 65 #[.slice (some ⟨g1, 0, none⟩) p p, .string ⟨#[48]⟩] w fun e w' => e = .returned (.slice (some ⟨g1, j, none⟩) m m) ∧ w' = w := by
  refine (trimL_some g1 0 j m p p Q _ (unhide hp) (unhide hj) (by rw [unhide hT]; exact unhide hm) h0 (Nat.le_refl _) (by omega) (unhide r1)).mono ?_
  rintro e w' ⟨rfl, rfl⟩
  have := unhide hj
  rw [Nat.zero_add, show p - j = m from by omega]
  exact ⟨rfl, rfl⟩
theorem trimR_j (D R K : List UInt8) (w : World) (hK : Hid (Dm.tr (D ++ R) = K)) (hl : (D ++ R).length ≤ 1000) :
    Calls Tryz.prog 66 #[.string (⟨D.toArray⟩ ++ ⟨R.toArray⟩), .string ⟨#[48]⟩] w fun e w' => e = .returned (.string ⟨K.toArray⟩) ∧ w' = w := by
  rw [mk_join D R]
  exact trimRight_b _ _ _ (by rw [mk_size]; omega) (by rw [mk_list, mk_list]; exact unhide hK)

set_option maxRecDepth 100000 in
set_option maxHeartbeats 2000000 in
theorem nearest_t (g1 g2 j m t p q : Nat) (Q T R H D K : List UInt8) (w : World) (hp : Q.length = p) (hT : Dm.tl Q = T) (hm : T.length = m) (hj : p = j + m) (hmt : m = 34 + t) (ht : 1 ≤ t) (hp1 : p ≤ 400) (hq : R.length = q) (hq1 : q ≤ 400) (r1 : Row w g1 0 Q) (r2 : Row w g2 0 R)
    (hH : T.take 34 = H) (hD : T.drop 34 = D) (hK : Dm.tr (D ++ R) = K) (hM : Dm.May ⟨false, H, 0⟩) (hHn : Dm.num H + 1 < 10 ^ 60) (htab : Pow w) (o b k : Bool) (ho : decide ((H.getD 33 0).toNat % 2 = 1) = o) (hb : Op.bytesLess K [53] = b) (hk : (K == [53]) = k) (u : Nat) (hu : Hid (u = (!(b || k) || (k && o)).toNat)) :
    Calls Tryz.prog 34 #[.slice (some ⟨g1, 0, none⟩) p p, .slice (some ⟨g2, 0, none⟩) q q] w fun e w' => ∃ G : List UInt8, e = .returned (.tuple #[.string ⟨G.toArray⟩, .int .i64 (t : Int)]) ∧ Dm.allD G ∧ G.length ≤ 60 ∧ Dm.num G = Dm.num H + u ∧ Below w.heap.size w w' := by
  have rT : Row w g1 j T := by
    obtain ⟨j', hj'⟩ := Dm.tl_spec Q
    have e : j' = j := by
      have := congrArg List.length hj'
      simp only [List.length_append, List.length_replicate] at this
      rw [hT] at this
      omega
    subst e
    have := r1.drop j'
    rw [hj', hT] at this
    simpa using this
  have rH : Row w g1 j H := by rw [← hH]; exact rT.take 34
  have rD : Row w g1 (j + 34) D := by rw [← hD]; exact rT.drop 34
  have hHl : H.length = 34 := by rw [← hH, List.length_take]; omega
  have hDl : D.length = t := by rw [← hD, List.length_drop]; omega
  have cH : (convert 38 9 (.slice (some ⟨g1, j, none⟩) 34 m)).run Tryz.prog w = .ok (.string ⟨H.toArray⟩) w := conv_row g1 j 34 m H w hHl rH
  have cD : ∀ W, Below w.heap.size w W → (convert 38 9 (.slice (some ⟨g1, j + 34, none⟩) (m - 34) (m - 34))).run Tryz.prog W = .ok (.string ⟨D.toArray⟩) W := fun W hB => conv_row g1 (j + 34) (m - 34) (m - 34) D W (by omega) (rD.below hB)
  have cR : ∀ W, Below w.heap.size w W → (convert 38 9 (.slice (some ⟨g2, 0, none⟩) q q)).run Tryz.prog W = .ok (.string ⟨R.toArray⟩) W := fun W hB => conv_row g2 0 q q R W hq (r2.below hB)
  have hmin : min (m : Int) 34 = 34 := by omega
  have h34 : (34 : Int) ≤ (m : Int) := by omega
  have h34n : 34 ≤ m := by omega
  have hne : m ≠ 34 := by omega
  have hsub : (m : Int) - 34 = (t : Int) := by omega
  have hm4 : m ≤ 400 := by omega
  have HP := hide hp
  have HJ := hide hj
  have HT := hide hT
  have HM := hide hm
  have HR1 := hide r1
  have h0 : 0 < m := by omega
  have CD := hide cD
  have CR := hide cR
  have HDL := hide hDl
  have HQ := hide hq
  have HK := hide hK
  have HO := hide ho
  have hDR : (D ++ R).length ≤ 1000 := by rw [List.length_append]; omega
  have hD4 : D.length ≤ 400 := by omega
  have hR4 : R.length ≤ 400 := by omega
  clear hp hj r1 cD cR rT rH rD r2 hT hH hD hmt hm hDl hq hK ho
  go_enter Tryz.func34, Tryz.ntmps34
  go_upto_region 4 with (go_at_call 65; refine (trimL_p g1 j m p Q T _ HP HT HM HJ h0 hp1 HR1).mono ?_; rintro e w' ⟨rfl, rfl⟩)
  have d0 := unhide CD _ (Below.refl _ w')
  have d1 := unhide CD _ (Below.refl _ w').drew
  have d2 := unhide CD _ (Below.refl _ w').drew.drew
  have e0 := unhide CR _ (Below.refl _ w')
  have e1 := unhide CR _ (Below.refl _ w').drew
  have e2 := unhide CR _ (Below.refl _ w').drew.drew
  go_cut [7] from 23 to 30 (fun s7 wx => s7 = .string ⟨K.toArray⟩ ∧ Below w'.heap.size w' wx)
  case first =>
    go_region_with (go_at_call 66; refine (trimR_j D R K _ HK hDR).mono ?_; rintro e w4 ⟨rfl, rfl⟩)
    all_goals go_wp2_with fail
    all_goals go_meet
    all_goals exact ⟨rfl, by first | exact Below.refl _ _ | exact (Below.refl _ _).drew | exact (Below.refl _ _).drew.drew | exact (Below.refl _ _).drew.drew.drew⟩
  case rest =>
  obtain ⟨rfl, hB⟩ := hcut
  clear d0 d1 d2 e0 e1 e2 cH
  have hO := fun W => isOdd_b H 33 o W hHl (by decide) (unhide HO)
  have HOO := hide hO
  clear hO
  have p2 := htab.next hB
  have ADD := hide (fun W => add_one H (Dm.num H) W hM rfl hHn)
  have fin : ∀ (e : Ending) (W : World) (ds : List UInt8), Hid (Dm.allD ds ∧ ds.length ≤ 60 ∧ Dm.num ds = Dm.num H + 1) → u = 1 → Below w'.heap.size w' W → e = .returned (.tuple #[.string ⟨ds.toArray⟩, .int .i64 (t : Int)]) → ∃ G : List UInt8, e = .returned (.tuple #[.string ⟨G.toArray⟩, .int .i64 (t : Int)]) ∧ Dm.allD G ∧ G.length ≤ 60 ∧ Dm.num G = Dm.num H + u ∧ Below w'.heap.size w' W :=
    fun e W ds h hc hB he => ⟨_, he, (unhide h).1, (unhide h).2.1, by rw [(unhide h).2.2, hc], hB⟩
  have fin0 : ∀ (e : Ending) (W : World), u = 0 → Below w'.heap.size w' W → e = .returned (.tuple #[.string ⟨H.toArray⟩, .int .i64 (t : Int)]) → ∃ G : List UInt8, e = .returned (.tuple #[.string ⟨G.toArray⟩, .int .i64 (t : Int)]) ∧ Dm.allD G ∧ G.length ≤ 60 ∧ Dm.num G = Dm.num H + u ∧ Below w'.heap.size w' W :=
    fun e W hc hB he => ⟨_, he, hM.1, hM.2.1, by rw [hc]; rfl, hB⟩
  have FIN := hide fin
  have FIN0 := hide fin0
  clear fin fin0
  cases k with
  | false =>
    cases b with
    | true =>
      go_wp2_with fail
      exact bodyPost_ret (v := .tuple #[.string ⟨H.toArray⟩, .int .i64 (t : Int)]) (by simp [results, Tryz.results34, go_sem]) rfl (unhide FIN0 _ _ (unhide hu) hB rfl)
    | false =>
      go_wp2_with (first | (go_at_call 51; refine (int_one _ p2).mono ?_; rintro e w5 ⟨rfl, hb5⟩) | (go_at_call 68; refine (unhide ADD _).mono ?_; rintro e w6 ⟨ds, rfl, HDS, hb6⟩))
      exact bodyPost_ret (v := .tuple #[.string ⟨ds.toArray⟩, .int .i64 (t : Int)]) (by simp [results, Tryz.results34, go_sem]) rfl (unhide FIN _ _ _ HDS (unhide hu) ((hB.trans ((hb5.trans (hb6.mono hb5.size)).mono hB.size)).alloc (by have := hB.size; have := hb5.size; have := hb6.size; omega) _) rfl)
  | true =>
    have hbk : (!(b || true)) = false := by cases b <;> rfl
    cases o with
    | false =>
      go_wp2_with (first | (go_at_call 67; refine (unhide HOO _).mono ?_; rintro e w4 ⟨rfl, hb4⟩))
      exact bodyPost_ret (v := .tuple #[.string ⟨H.toArray⟩, .int .i64 (t : Int)]) (by simp [results, Tryz.results34, go_sem]) rfl (unhide FIN0 _ _ (by rw [unhide hu]; cases b <;> rfl) (hB.trans (hb4.mono hB.size)) rfl)
    | true =>
      go_wp2_with (first | (go_at_call 67; refine (unhide HOO _).mono ?_; rintro e w4 ⟨rfl, hb4⟩) | (first | (go_at_call 51; refine (int_one _ (p2.next hb4)).mono ?_; rintro e w5 ⟨rfl, hb5⟩) | (go_at_call 68; refine (unhide ADD _).mono ?_; rintro e w6 ⟨ds, rfl, HDS, hb6⟩)))
      exact bodyPost_ret (v := .tuple #[.string ⟨ds.toArray⟩, .int .i64 (t : Int)]) (by simp [results, Tryz.results34, go_sem]) rfl (unhide FIN _ _ _ HDS (by rw [unhide hu]; cases b <;> rfl) ((hB.trans ((hb4.trans ((hb5.trans (hb6.mono hb5.size)).mono hb4.size)).mono hB.size)).alloc (by have := hB.size; have := hb4.size; have := hb5.size; have := hb6.size; omega) _) rfl)
end Go.Proofs.YtmlmplmghlbdmaaGreatDoor

namespace Go.Proofs.YtmlmplmghlbdmaaGreatDoor
open Go.RowKit
set_option linter.unusedVariables false
set_option linter.unusedSimpArgs false

theorem trimL_n (g1 p : Nat) (Q : List UInt8) (w : World) (hp : Hid (Q.length = p)) (hT : Hid (Dm.tl Q = [])) (h0 : 0 < p) (hp1 : p ≤ 400) (r1 : Hid (Row w g1 0 Q)) :
    Calls Tryz.prog 65 #[.slice (some ⟨g1, 0, none⟩) p p, .string ⟨#[48]⟩] w fun e w' => e = .returned (.slice none 0 0) ∧ w' = w :=
  trimL_none g1 0 p p Q w (unhide hp) h0 (Nat.le_refl _) (by omega) (unhide r1) (unhide hT)
theorem trimR_1 (R K : List UInt8) (w : World) (hK : Hid (Dm.tr R = K)) (hl : R.length ≤ 1000) :
    Calls Tryz.prog 66 #[.string (⟨#[]⟩ ++ ⟨R.toArray⟩), .string ⟨#[48]⟩] w fun e w' => e = .returned (.string ⟨K.toArray⟩) ∧ w' = w := by
  rw [show (⟨#[]⟩ : ByteArray) = ⟨([] : List UInt8).toArray⟩ from rfl, mk_join [] R]
  exact trimRight_b _ _ _ (by rw [mk_size]; simp; omega) (by rw [mk_list, mk_list]; exact unhide hK)
set_option maxRecDepth 100000 in
set_option maxHeartbeats 2000000 in
theorem nearest_z (g1 g2 p q : Nat) (Q R K : List UInt8) (w : World) (hp : Q.length = p) (hT : Dm.tl Q = []) (h0 : 0 < p) (hp1 : p ≤ 400) (hq : R.length = q) (hq1 : q ≤ 400) (r1 : Row w g1 0 Q) (r2 : Row w g2 0 R)
    (hK : Dm.tr R = K) (hb : Op.bytesLess K [53] = true) (hk : (K == [53]) = false) :
    Calls Tryz.prog 34 #[.slice (some ⟨g1, 0, none⟩) p p, .slice (some ⟨g2, 0, none⟩) q q] w fun e w' => e = .returned (.tuple #[.string ⟨#[]⟩, .int .i64 0]) ∧ Below w.heap.size w w' := by
  have cR : ∀ W, Below w.heap.size w W → (convert 38 9 (.slice (some ⟨g2, 0, none⟩) q q)).run Tryz.prog W = .ok (.string ⟨R.toArray⟩) W := fun W hB => conv_row g2 0 q q R W hq (r2.below hB)
  have HP := hide hp
  have HT := hide hT
  have HR1 := hide r1
  have CR := hide cR
  have HK := hide hK
  have hR4 : R.length ≤ 400 := by omega
  have hR5 : R.length ≤ 1000 := by omega
  clear hp r1 cR r2 hT hq hK
  have hmin : min (0 : Int) 34 = 0 := by decide
  have cN : ∀ W, (convert 38 9 (.slice none 0 0)).run Tryz.prog W = .ok (.string ⟨#[]⟩) W := fun W => by
    have := run_convert_bytes_nil (P := Tryz.prog) W 38 5 Tryz.underlying38 Tryz.underlying5 0 0 9 Tryz.underlying9
    exact this
  go_enter Tryz.func34, Tryz.ntmps34
  go_upto_region 4 with (go_at_call 65; refine (trimL_n g1 p Q _ HP HT h0 hp1 HR1).mono ?_; rintro e w' ⟨rfl, rfl⟩)
  have e0 := unhide CR _ (Below.refl _ w')
  have e1 := unhide CR _ (Below.refl _ w').drew
  have e2 := unhide CR _ (Below.refl _ w').drew.drew
  go_cut [7] from 23 to 30 (fun s7 wx => s7 = .string ⟨K.toArray⟩ ∧ Below w'.heap.size w' wx)
  case first =>
    go_region_with (go_at_call 66; refine (trimR_1 R K _ HK hR5).mono ?_; rintro e w4 ⟨rfl, rfl⟩)
    all_goals go_wp2_with fail
    all_goals go_meet
    all_goals exact ⟨rfl, by first | exact Below.refl _ _ | exact (Below.refl _ _).drew | exact (Below.refl _ _).drew.drew | exact (Below.refl _ _).drew.drew.drew⟩
  case rest =>
  obtain ⟨rfl, hB⟩ := hcut
  clear e0 e1 e2
  go_wp2_with fail
  exact bodyPost_ret (v := .tuple #[.string ⟨#[]⟩, .int .i64 0]) (by simp [results, Tryz.results34, go_sem]) rfl ⟨rfl, hB⟩

theorem tl_nil_of {Q : List UInt8} (hd : Dm.allD Q) (h : Dm.num Q = 0) : Dm.tl Q = [] := by
  by_cases e : Dm.tl Q = []
  · exact e
  · have := Dm.lead_pos (Dm.tl_allD hd) (Dm.tl_lead Q e)
    rw [Dm.tl_num] at this
    omega
theorem nearest_any (g1 g2 p q : Nat) (Q R : List UInt8) (w : World) (hp : Q.length = p) (h0 : 0 < p) (hp1 : p ≤ 400) (hq : R.length = q + 1) (hq1 : q < 400) (dQ : Dm.allD Q) (dR : Dm.allD R) (hbig : Dm.num Q = 0 ∨ 10 ^ 34 ≤ Dm.num Q) (hR : Dm.num R < 10 ^ q) (r1 : Row w g1 0 Q) (r2 : Row w g2 0 R) (htab : Pow w) :
    Calls Tryz.prog 34 #[.slice (some ⟨g1, 0, none⟩) p p, .slice (some ⟨g2, 0, none⟩) (q + 1) (q + 1)] w fun e w' => ∃ (G : List UInt8) (t : Nat), e = .returned (.tuple #[.string ⟨G.toArray⟩, .int .i64 (t : Int)]) ∧ t ≤ p ∧ Hid (Dm.DropT (Dm.num Q) t) ∧ Dm.allD G ∧ G.length ≤ 60 ∧ Hid (Dm.num G = Dm.nearN t (q + 1) (Dm.num Q) (Dm.num R)) ∧ Below w.heap.size w w' := by
  have hRl := Dm.lead0 dR hq hR
  rcases hbig with hz | hbig
  · obtain ⟨R', eR⟩ := hRl
    obtain ⟨k1, k2⟩ := Dm.lead0_tr (R := R')
    rw [← eR] at k1 k2
    have hb : Op.bytesLess (Dm.tr R) [53] = true := by
      have := gt_five (Dm.tr R)
      rw [k1, k2, Bool.or_false] at this
      cases h : Op.bytesLess (Dm.tr R) [53] with
      | true => rfl
      | false => rw [h] at this; cases this
    refine (nearest_z g1 g2 p (q + 1) Q R (Dm.tr R) w hp (tl_nil_of dQ hz) h0 hp1 hq (by omega) r1 r2 rfl hb k2).mono ?_
    rintro e w' ⟨rfl, hB⟩
    refine ⟨[], 0, rfl, by omega, hide (.inl ⟨hz, rfl⟩), Dm.allD_nil, by simp, hide ?_, hB⟩
    rw [hz]
    unfold Dm.nearN Dm.upN
    have hp := Dm.pow_pos' q
    have hpp : 10 ^ (0 - 1 + (q + 1)) = 10 ^ q * 10 := by rw [Nat.zero_sub, Nat.zero_add, Nat.pow_succ]
    rw [Nat.pow_zero, Nat.mod_one, Nat.zero_mul, Nat.zero_add, hpp]
    have a1 : decide (5 * (10 ^ q * 10) < Dm.num R) = false := by rw [decide_eq_false_iff_not]; omega
    have a2 : decide (Dm.num R = 5 * (10 ^ q * 10)) = false := by rw [decide_eq_false_iff_not]; omega
    rw [Nat.zero_add, a1, a2]
    rfl
  · obtain ⟨T, hT⟩ : ∃ T, Dm.tl Q = T := ⟨_, rfl⟩
    have hTn : Dm.num T = Dm.num Q := by rw [← hT]; exact Dm.tl_num Q
    have hTd : Dm.allD T := by rw [← hT]; exact Dm.tl_allD dQ
    have hTl : 35 ≤ T.length := by
      have h1 := Dm.num_lt hTd
      rw [hTn] at h1
      rcases Nat.lt_or_ge T.length 35 with g | g
      · have := Nat.pow_le_pow_right (n := 10) (by omega) (show T.length ≤ 34 from by omega)
        omega
      · exact g
    have hne : T ≠ [] := by intro e; rw [e] at hTl; simp at hTl
    have hlead : Dm.noLead T := by rw [← hT]; exact Dm.tl_lead Q (by rw [hT]; exact hne)
    obtain ⟨j, hj⟩ := Dm.tl_spec Q
    rw [hT] at hj
    have hjl : p = j + T.length := by
      have := congrArg List.length hj
      simp only [List.length_append, List.length_replicate] at this
      omega
    obtain ⟨t, ht⟩ : ∃ t, T.length = 34 + t := ⟨T.length - 34, by omega⟩
    obtain ⟨s1, s2⟩ := Dm.split_num hTd 34 (by omega)
    have hHd : Dm.allD (T.take 34) := fun x hx => hTd x (List.mem_of_mem_take hx)
    have hHl : (T.take 34).length = 34 := by rw [List.length_take]; omega
    have hHn : Dm.num (T.take 34) + 1 < 10 ^ 60 := by
      have h1 := Dm.num_lt hHd
      rw [hHl] at h1
      have h2 : (10 : Nat) ^ 34 + 1 < 10 ^ 60 := by decide
      omega
    have hM : Dm.May ⟨false, T.take 34, 0⟩ := by
      refine ⟨hHd, by simp only; omega, by simp, .inr ⟨?_, .inl rfl⟩⟩
      obtain ⟨c, u, e, hc⟩ := hlead
      rw [e]
      exact ⟨c, u.take 33, rfl, hc⟩
    have ho : decide (((T.take 34).getD 33 0).toNat % 2 = 1) = decide (Dm.num (T.take 34) % 2 = 1) := by
      have h33 : 33 < (T.take 34).length := by omega
      have e : T.take 34 = (T.take 34).take 33 ++ [(T.take 34).getD 33 0] := by
        have := (List.take_append_drop 33 (T.take 34)).symm
        have hd : (T.take 34).drop 33 = [(T.take 34).getD 33 0] := by
          rw [List.drop_eq_getElem_cons h33]
          have : (T.take 34).drop (33 + 1) = [] := List.drop_eq_nil_of_le (by omega)
          rw [this]
          simp only [List.getD, List.getElem?_eq_getElem h33, Option.getD_some]
        rw [hd] at this
        exact this
      exact (Dm.last_odd hHd e).symm
    refine (nearest_t g1 g2 j T.length t p (q + 1) Q T R (T.take 34) (T.drop 34) (Dm.tr (T.drop 34 ++ R)) w hp hT rfl hjl ht (by omega) hp1 hq (by omega) r1 r2 rfl rfl rfl hM hHn htab _ _ _ ho rfl rfl _ (hide rfl)).mono ?_
    rintro e w' ⟨G, rfl, h1, h2, h3, hB⟩
    refine ⟨G, t, rfl, by omega, hide (.inr ⟨by omega, ?_, ?_⟩), h1, h2, hide ?_, hB⟩
    · obtain ⟨c, u, e, hc⟩ := hlead
      have h4 : 10 ^ u.length ≤ Dm.num T := by
        have hTd' := hTd
        rw [e] at hTd' ⊢
        exact Dm.num_ge (Dm.allD_cons.1 hTd').1 hc
      have h5 : u.length = t + 33 := by
        have := congrArg List.length e
        simp only [List.length_cons] at this
        omega
      rw [h5, hTn] at h4
      exact h4
    · have := Dm.num_lt hTd
      rw [hTn, ht, Nat.add_comm] at this
      exact this
    · have hu := Dm.up_spec hTd dR 34 (by omega)
      rw [gt_five, h3, hu] at *
      rw [hq, hTn, show T.length - 34 = t from by omega] at *
      rw [s1]
      unfold Dm.nearN
      cases Dm.upN t (q + 1) (Dm.num Q) (Dm.num R) <;> rfl
end Go.Proofs.YtmlmplmghlbdmaaGreatDoor

namespace Go.Proofs.YtmlmplmghlbdmaaGreatDoor
open Go.RowKit
set_option linter.unusedVariables false
set_option linter.unusedSimpArgs false

theorem long_c (y zs D X : List UInt8) (p n : Nat) (w : World) (hX : Hid (y ++ zs = X)) (hp : Hid (X.length = p)) (hp0 : 1 ≤ p) (hp1 : p ≤ 400) (hn : Hid (D.length = n)) (hn0 : 1 ≤ n) (hn1 : n ≤ 400) (dN : Dm.allD X) (dD : Dm.allD D) (hpos : 0 < Dm.num D) :
    Calls Tryz.prog 32 #[.string (⟨y.toArray⟩ ++ ⟨zs.toArray⟩), .string ⟨D.toArray⟩] w fun e w' => ∃ (g1 g2 : Nat) (Q R : List UInt8), e = .returned (.tuple #[.slice (some ⟨g1, 0, none⟩) p p, .slice (some ⟨g2, 0, none⟩) (n + 1) (n + 1)]) ∧ Hid (Q.length = p ∧ R.length = n + 1 ∧ Dm.allD Q ∧ Dm.allD R ∧ Dm.num Q = Dm.num X / Dm.num D ∧ Dm.num R = Dm.num X % Dm.num D) ∧ Row w' g1 0 Q ∧ Row w' g2 0 R ∧ Below w.heap.size w w' := by
  rw [mk_join y zs, unhide hX]
  refine (longDivide_any X D p n w (unhide hp) hp0 hp1 (unhide hn) hn0 hn1 dN dD hpos).mono ?_
  rintro e w' ⟨g1, g2, c, Q, R, rfl, h1, h2, h3, h4, h5, h6, h7, h8, h9⟩
  exact ⟨g1, g2, Q, R, rfl, hide ⟨h1, h2, h3, h4, h5, h6⟩, h7, h8, h9⟩

set_option maxRecDepth 100000 in
set_option maxHeartbeats 2000000 in
theorem div_r (x : Bool) (y : List UInt8) (z : Nat) (x2 : Bool) (y2 : List UInt8) (z2 n : Nat) (w : World) (h : Dm.May ⟨x, y, z⟩) (h2 : Dm.May ⟨x2, y2, z2⟩) (hne : y2 ≠ [48]) (hn : max 0 (35 + (y2.length : Int) - (y.length : Int)) = (n : Int)) (htab : Pow w) :
    Calls Tryz.prog 12 #[.agg #[.bool x, .string ⟨y.toArray⟩, .int .i64 (z : Int)], .agg #[.bool x2, .string ⟨y2.toArray⟩, .int .i64 (z2 : Int)]] w fun e w' => ∃ r, e = .returned (tV r) ∧ Dm.DivRep (x != x2) y z y2 z2 r ∧ Below w.heap.size w w' := by
  have ht := Tri.start w (.bool x) (.string ⟨y.toArray⟩) (.int .i64 (z : Int)) (.bool x2) (.string ⟨y2.toArray⟩) (.int .i64 (z2 : Int)) 23
  obtain ⟨l1, l2, l3⟩ := may_len h
  obtain ⟨m1, m2, m3⟩ := may_len h2
  have hma := dV_may h
  have hmb := dV_may h2
  have hpos := pos_num h2 hne
  simp only [] at l1 l2 l3 m1 m2 m3 hma hmb hpos
  have hsa : (⟨y.toArray⟩ : ByteArray).size ≤ maxLen := by unfold maxLen; rw [mk_size]; omega
  have hsb : (⟨y2.toArray⟩ : ByteArray).size ≤ maxLen := by unfold maxLen; rw [mk_size]; omega
  have hn95 : n ≤ 95 := by omega
  obtain ⟨zs, hz⟩ : ∃ zs : List UInt8, zs = List.replicate n 48 := ⟨_, rfl⟩
  have hzl : zs.length = n := by rw [hz, List.length_replicate]
  obtain ⟨X, hX⟩ : ∃ X, y ++ zs = X := ⟨_, rfl⟩
  have hXn : Dm.num X = Dm.num y * 10 ^ n := by rw [← hX, hz, Dm.num_append_zeros]
  have hXl : X.length = y.length + n := by rw [← hX, List.length_append, hzl]
  have hXd : Dm.allD X := by rw [← hX, hz]; exact Dm.allD_append.2 ⟨h.1, Dm.allD_zeros _⟩
  have hbig : Dm.num X / Dm.num y2 = 0 ∨ 10 ^ 34 ≤ Dm.num X / Dm.num y2 := by
    by_cases e : y = [48]
    · left
      have h0 : Dm.num y = 0 := by rw [e]; rfl
      rw [hXn, h0, Nat.zero_mul, Nat.zero_div]
    · right
      rw [hXn]
      exact Dm.big_quot h.1 (Dm.lead_of h e).1 h2.1 (by omega) hpos
  have hRlt : Dm.num X % Dm.num y2 < 10 ^ y2.length := Nat.lt_trans (Nat.mod_lt _ hpos) (Dm.num_lt h2.1)
  obtain ⟨p, hp⟩ : ∃ p, X.length = p := ⟨_, rfl⟩
  obtain ⟨q, hq⟩ : ∃ q, y2.length = q := ⟨_, rfl⟩
  have hp0 : 1 ≤ p := by omega
  have hp1 : p ≤ 155 := by omega
  have hq0 : 1 ≤ q := by omega
  have hq1 : q ≤ 60 := by omega
  have hzl9 : zs.length ≤ 95 := by omega
  have hd2 : Dm.allD y2 := h2.1
  have q0 : (y2 == [48]) = false := beq_eq_false_iff_ne.2 hne
  have hcat : ¬ (9223372036854775807 < y.length + zs.length) := by omega
  have hcat2 : ¬ (9223372036854775807 < (⟨y.toArray⟩ : ByteArray).size + (⟨zs.toArray⟩ : ByteArray).size) := by rw [mk_size, mk_size]; omega
  have HX := hide hX
  have HZ := hide hz
  have HXN := hide hXn
  have HP := hide hp
  have HQ := hide hq
  have HMA := hide hma
  have HMB := hide hmb
  have HN := hide hn
  have HBIG := hide hbig
  have HRLT := hide hRlt
  clear hX hz hXn hp hq hma hmb hXl hn hbig hRlt hzl
  have tok1 : True := trivial
  have tok2 : True := trivial
  go_enter Tryz.func12, Tryz.ntmps12
  go_upto_region 6 with (first | (go_at_call 31; have _t := tok1; refine (may_b x ⟨y.toArray⟩ z true _ hsa (unhide HMA)).mono ?_; rintro e w1 ⟨rfl, hb1⟩; have ht1 := ht.next hb1; clear tok1 _t ht hb1; obtain ⟨⟨c0, c1, c2⟩, ⟨d0, d1, d2⟩⟩ := ht1.cells) | (go_at_call 31; have _t := tok2; refine (may_b x2 ⟨y2.toArray⟩ z2 true _ hsb (unhide HMB)).mono ?_; rintro e w2 ⟨rfl, hb2⟩; have ht2 := ht1.next hb2; clear tok2 _t ht1 hb2 c0 c1 c2 d0 d1 d2; obtain ⟨⟨c0, c1, c2⟩, ⟨d0, d1, d2⟩⟩ := ht2.cells))
  simp only [unhide HN]
  go_region_held3 (fun w' => (w'.cell? ⟨w.heap.size, 0, none⟩ = some (.bool x) ∧ w'.cell? ⟨w.heap.size, 1, none⟩ = some (.string ⟨y.toArray⟩) ∧ w'.cell? ⟨w.heap.size, 2, none⟩ = some (.int .i64 (z : Int))) ∧ (w'.cell? ⟨w.heap.size + 1, 0, none⟩ = some (.bool x2) ∧ w'.cell? ⟨w.heap.size + 1, 1, none⟩ = some (.string ⟨y2.toArray⟩) ∧ w'.cell? ⟨w.heap.size + 1, 2, none⟩ = some (.int .i64 (z2 : Int)))) (first | exact ht4.cells | exact ht3.cells | exact ht2.cells | exact ht2.drew.cells | exact ht3.drew.cells | exact ht4.drew.cells) (first | (go_at_call 33; refine (repeat_o (n : Int) n zs _ rfl (by omega) (unhide HZ)).mono ?_; rintro e w3 ⟨rfl, hb3⟩; have ht3 := Tri.next (by first | exact ht2 | exact ht2.drew) hb3; clear hb3; clear c0 c1 c2 d0 d1 d2; obtain ⟨⟨c0, c1, c2⟩, ⟨d0, d1, d2⟩⟩ := ht3.cells) | (go_at_call 32; refine (long_c y zs y2 X p q _ HX HP hp0 (by omega) HQ hq0 (by omega) hXd hd2 hpos).mono ?_; rintro e w4 ⟨g1, g2, Q, R, rfl, HQR, row1, row2, hb4⟩; have ht4 := Tri.next (by first | exact ht3 | exact ht3.drew) hb4; have hpow4 := htab.next ht4.1.1; clear hb4; clear c0 c1 c2 d0 d1 d2; obtain ⟨⟨c0, c1, c2⟩, ⟨d0, d1, d2⟩⟩ := ht4.cells))
  have hQR := unhide HQR
  obtain ⟨hQl, hRl, hQd, hRd, hQn, hRn⟩ := hQR
  have hbig := unhide HBIG
  have hrlt := unhide HRLT
  rw [← hQn] at hbig
  rw [← hRn, unhide HQ] at hrlt
  have HQR2 := hide (And.intro hQl (And.intro hQn hRn))
  go_upto_region 8 with (go_at_call 34; refine (nearest_any g1 g2 p q Q R _ hQl (by omega) (by omega) hRl (by omega) hQd hRd hbig hrlt row1 row2 hpow4).mono ?_; rintro e w5 ⟨G, t, rfl, htp, HDT, hGd, hGl, HGN, hb5⟩)
  have ht5 := ht4.next hb5
  have hpow5 := htab.next ht5.1.1
  clear row1 row2 hbig hrlt hQl hRl hQn hRn hb5 HQR c0 c1 c2 d0 d1 d2 ht4 hpow4
  obtain ⟨⟨c0, c1, c2⟩, ⟨d0, d1, d2⟩⟩ := ht5.cells
  go_wp2_with (go_at_call 35; refine (decimal_any (!(x == x2)) G ((z : Int) + n - z2 - t) _ (by omega) (by omega) (by omega) hGd hpow5).mono ?_; rintro e w6 ⟨r, rfl, hrep, hb6⟩; have ht6 := ht5.next hb6; obtain ⟨⟨k0, k1, k2⟩, ⟨f0, f1, f2⟩⟩ := ht6.out; have HREP := hide hrep; clear hrep hb6)
  refine bodyPost_ret (v := tV r) ?_ rfl ⟨r, rfl, ⟨n, t, (unhide HN).symm, ?_, ?_⟩, ht6.end _ _ _⟩
  · simp [results, Tryz.results12, go_sem, k0, k1, k2, tV]
  · obtain ⟨a1, a2, a3⟩ := unhide HQR2
    have := unhide HDT
    rw [a2, unhide HXN] at this
    exact this
  · obtain ⟨a1, a2, a3⟩ := unhide HQR2
    have := unhide HREP
    rw [unhide HGN, a2, a3, unhide HXN, ← unhide HQ] at this
    exact this
end Go.Proofs.YtmlmplmghlbdmaaGreatDoor
