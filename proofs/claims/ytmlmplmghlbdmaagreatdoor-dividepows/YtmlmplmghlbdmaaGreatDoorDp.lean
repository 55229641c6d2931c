/- What is proved here: what isOdd of package divide does, walked, and how texts of digits stand to "5"; conditions: as each theorem states. What is proved here: what nearest of package divide does, walked; conditions: digits, 35 or more without noughts ahead or none but noughts, and the table of powers of ten lies in the world. What is proved here: what nearest of package divide does with any digits that are none but noughts, or 35 or more, in the words of numbers; conditions: the table of powers of ten lies in the world. What is proved here: what Div of package divide does with decimals that may be, of which the second is not 0, walked; condition: the table of powers of ten lies in the world. What is proved here: the whole numbers below, above and near a decimal, in the words of numbers; conditions: as each theorem states. What is proved here: what isHalfOrMore and whole of package divide do with a decimal that may be, walked; condition: the table of powers of ten lies in the world. What is proved here: what whole of package divide does with a decimal that may be, walked; condition: the table of powers of ten lies in the world. What is proved here: what Floor, Ceil and Round of package divide do with a decimal that may be, walked; condition: the table of powers of ten lies in the world. -/
import Derived.Test.YtmlmplmghlbdmaaGreatDoorDh
import Derived.Test.YtmlmplmghlbdmaaGreatDoorMt
import Derived.Test.YtmlmplmghlbdmaaGreatDoorRt
import Derived.Deep.CutRange
import Derived.Deep.RegionHeld3
namespace Go.Proofs.YtmlmplmghlbdmaaGreatDoor
open Go.RowKit
set_option linter.unusedVariables false
set_option linter.unusedSimpArgs false

theorem gt_five (K : List UInt8) : (!(Op.bytesLess K [53] || K == [53])) = Dm.gt5 K := by
  cases K with
  | nil => rfl
  | cons a x =>
    have e1 : Op.bytesLess (a :: x) [53] = decide (a.toNat < 53) := by
      unfold Op.bytesLess
      cases x with
      | nil => simp [Op.bytesLess, UInt8.lt_iff_toNat_lt]
      | cons => simp [Op.bytesLess, UInt8.lt_iff_toNat_lt]
    rw [e1]
    by_cases h : a = 53
    · subst h
      cases x <;> simp [Dm.gt5]
    · have h2 : a.toNat ≠ 53 := fun e => h (UInt8.toNat_inj.1 (by simpa using e))
      have h3 : (a :: x == [53]) = false := beq_eq_false_iff_ne.2 (by intro e; injection e with e _; exact h e)
      rw [h3, Bool.or_false]
      simp only [Dm.gt5]
      rw [decide_eq_false h2, Bool.false_and, Bool.or_false]
      by_cases g : a.toNat < 53
      · rw [decide_eq_true g, decide_eq_false (by omega)]; rfl
      · rw [decide_eq_false g, decide_eq_true (by omega)]; rfl
theorem last_of {l a : List UInt8} {c : UInt8} (h : l = a ++ [c]) (k : Nat) (hk : k + 1 = l.length) (h2 : k < l.length) : l[k]'h2 = c := by
  subst h
  simp at hk
  subst hk
  simp
set_option maxRecDepth 100000 in
set_option maxHeartbeats 1000000 in
theorem isOdd_b (l : List UInt8) (n : Nat) (o : Bool) (w : World) (hl : l.length = n + 1) (hn : n ≤ 100) (ho : decide ((l.getD n 0).toNat % 2 = 1) = o) :
    Calls Tryz.prog 67 #[.string ⟨l.toArray⟩] w fun e w' => e = .returned (.bool o) ∧ Below w.heap.size w w' := by
  have h2 : n < l.length := by omega
  have e : l.getD n 0 = l[n]'h2 := by simp [List.getD, h2]
  rw [e] at ho
  go_enter Tryz.func67, Tryz.ntmps67
  go_wp2
  go_ret
  refine ⟨?_, Below.refl _ _⟩
  rw [← ho]
  have e3 : ∀ c : UInt8, ((c.toNat : Int) % 2 == 1) = decide (c.toNat % 2 = 1) := by
    intro c
    by_cases h : c.toNat % 2 = 1
    · rw [decide_eq_true h]
      have : (c.toNat : Int) % 2 = 1 := by omega
      rw [this]; rfl
    · rw [decide_eq_false h]
      exact beq_eq_false_iff_ne.2 (by omega)
  rw [← e3]
  rfl
end Go.Proofs.YtmlmplmghlbdmaaGreatDoor

namespace Go.Proofs.YtmlmplmghlbdmaaGreatDoor
open Go.RowKit
set_option linter.unusedVariables false
set_option linter.unusedSimpArgs false

theorem int_one (w : World) (h : Pow w) : Calls Tryz.prog 51 #[.int .i64 1] w fun e w' => e = .returned (.agg #[.bool false, .string ⟨#[49]⟩, .int .i64 0]) ∧ Below w.heap.size w w' := int_v 1 false [49] w (by decide) (by decide) h ofInt_1
theorem unit_may (x : Bool) : Dm.May ⟨x, [49], 0⟩ := ⟨by intro c h; simp at h; rw [h]; rfl, by simp, by simp, .inr ⟨⟨49, [], rfl, by decide⟩, .inl rfl⟩⟩
theorem unit_sg (x : Bool) : Dm.sg ⟨x, [49], 0⟩ = Dm.sgn x 1 := by cases x <;> rfl
theorem add_one (H : List UInt8) (n : Nat) (w : World) (hm : Dm.May ⟨false, H, 0⟩) (hn : Dm.num H = n) (hlt : n + 1 < 10 ^ 60) :
    Calls Tryz.prog 68 #[.agg #[.bool false, .string ⟨H.toArray⟩, .int .i64 0], .agg #[.bool false, .string ⟨#[49]⟩, .int .i64 0]] w fun e w' => ∃ ds : List UInt8, e = .returned (.tuple #[.agg #[.bool false, .string ⟨ds.toArray⟩, .int .i64 0], .int .i64 0]) ∧ Hid (Dm.allD ds ∧ ds.length ≤ 60 ∧ Dm.num ds = n + 1) ∧ Below w.heap.size w w' := by
  refine (add_r false H 0 false [49] 0 w hm (unit_may false)).mono ?_
  rintro e w' ⟨r, rfl, hr, hB⟩
  have e1 : Dm.sg ⟨false, H, 0⟩ * Dm.p10 0 + Dm.sg ⟨false, [49], 0⟩ * Dm.p10 0 = Dm.sgn false (n + 1) := by
    rw [unit_sg, Dm.p10_zero, Int.mul_one, Int.mul_one, ← hn]
    simp [Dm.sg, Dm.sgn]
  rw [e1] at hr
  obtain ⟨ds, rfl, h2, h3, _⟩ := Dm.rep_nat hr hlt (by omega)
  exact ⟨ds, rfl, hide ⟨h2.1, h2.2.1, h3⟩, hB⟩

theorem trimL_p (g1 j m p : Nat) (Q T : List UInt8) (w : World) (hp : Hid (Q.length = p)) (hT : Hid (Dm.tl Q = T)) (hm : Hid (T.length = m)) (hj : Hid (p = j + m)) (h0 : 0 < m) (hp1 : p ≤ 400) (r1 : Hid (Row w g1 0 Q)) :
    Calls Tryz.prog 65 #[.slice (some ⟨g1, 0, none⟩) p p, .string ⟨#[48]⟩] w fun e w' => e = .returned (.slice (some ⟨g1, j, none⟩) m m) ∧ w' = w := by
  refine (trimL_some g1 0 j m p p Q _ (unhide hp) (unhide hj) (by rw [unhide hT]; exact unhide hm) h0 (Nat.le_refl _) (by omega) (unhide r1)).mono ?_
  rintro e w' ⟨rfl, rfl⟩
  have := unhide hj
  rw [Nat.zero_add, show p - j = m from by omega]
  exact ⟨rfl, rfl⟩
theorem trimR_j (D R K : List UInt8) (w : World) (hK : Hid (Dm.tr (D ++ R) = K)) (hl : (D ++ R).length ≤ 1000) :
    Calls Tryz.prog 66 #[.string (⟨D.toArray⟩ ++ ⟨R.toArray⟩), .string ⟨#[48]⟩] w fun e w' => e = .returned (.string ⟨K.toArray⟩) ∧ w' = w := by
  rw [mk_join D R]
  exact trimRight_b _ _ _ (by rw [mk_size]; omega) (by rw [mk_list, mk_list]; exact unhide hK)

set_option maxRecDepth 100000 in
set_option maxHeartbeats 2000000 in
theorem nearest_t (g1 g2 j m t p q : Nat) (Q T R H D K : List UInt8) (w : World) (hp : Q.length = p) (hT : Dm.tl Q = T) (hm : T.length = m) (hj : p = j + m) (hmt : m = 34 + t) (ht : 1 ≤ t) (hp1 : p ≤ 400) (hq : R.length = q) (hq1 : q ≤ 400) (r1 : Row w g1 0 Q) (r2 : Row w g2 0 R)
    (hH : T.take 34 = H) (hD : T.drop 34 = D) (hK : Dm.tr (D ++ R) = K) (hM : Dm.May ⟨false, H, 0⟩) (hHn : Dm.num H + 1 < 10 ^ 60) (htab : Pow w) (o b k : Bool) (ho : decide ((H.getD 33 0).toNat % 2 = 1) = o) (hb : Op.bytesLess K [53] = b) (hk : (K == [53]) = k) (u : Nat) (hu : Hid (u = (!(b || k) || (k && o)).toNat)) :
    Calls Tryz.prog 34 #[.slice (some ⟨g1, 0, none⟩) p p, .slice (some ⟨g2, 0, none⟩) q q] w fun e w' => ∃ G : List UInt8, e = .returned (.tuple #[.string ⟨G.toArray⟩, .int .i64 (t : Int)]) ∧ Dm.allD G ∧ G.length ≤ 60 ∧ Dm.num G = Dm.num H + u ∧ Below w.heap.size w w' := by
  have rT : Row w g1 j T := by
    obtain ⟨j', hj'⟩ := Dm.tl_spec Q
    have e : j' = j := by
      have := congrArg List.length hj'
      simp only [List.length_append, List.length_replicate] at this
      rw [hT] at this
      omega
    subst e
    have := r1.drop j'
    rw [hj', hT] at this
    simpa using this
  have rH : Row w g1 j H := by rw [← hH]; exact rT.take 34
  have rD : Row w g1 (j + 34) D := by rw [← hD]; exact rT.drop 34
  have hHl : H.length = 34 := by rw [← hH, List.length_take]; omega
  have hDl : D.length = t := by rw [← hD, List.length_drop]; omega
  have cH : (convert 38 9 (.slice (some ⟨g1, j, none⟩) 34 m)).run Tryz.prog w = .ok (.string ⟨H.toArray⟩) w := conv_row g1 j 34 m H w hHl rH
  have cD : ∀ W, Below w.heap.size w W → (convert 38 9 (.slice (some ⟨g1, j + 34, none⟩) (m - 34) (m - 34))).run Tryz.prog W = .ok (.string ⟨D.toArray⟩) W := fun W hB => conv_row g1 (j + 34) (m - 34) (m - 34) D W (by omega) (rD.below hB)
  have cR : ∀ W, Below w.heap.size w W → (convert 38 9 (.slice (some ⟨g2, 0, none⟩) q q)).run Tryz.prog W = .ok (.string ⟨R.toArray⟩) W := fun W hB => conv_row g2 0 q q R W hq (r2.below hB)
  have hmin : min (m : Int) 34 = 34 := by omega
  have h34 : (34 : Int) ≤ (m : Int) := by omega
  have h34n : 34 ≤ m := by omega
  have hne : m ≠ 34 := by omega
  have hsub : (m : Int) - 34 = (t : Int) := by omega
  have hm4 : m ≤ 400 := by omega
  have HP := hide hp
  have HJ := hide hj
  have HT := hide hT
  have HM := hide hm
  have HR1 := hide r1
  have h0 : 0 < m := by omega
  have CD := hide cD
  have CR := hide cR
  have HDL := hide hDl
  have HQ := hide hq
  have HK := hide hK
  have HO := hide ho
  have hDR : (D ++ R).length ≤ 1000 := by rw [List.length_append]; omega
  have hD4 : D.length ≤ 400 := by omega
  have hR4 : R.length ≤ 400 := by omega
  clear hp hj r1 cD cR rT rH rD r2 hT hH hD hmt hm hDl hq hK ho
  go_enter Tryz.func34, Tryz.ntmps34
  go_upto_region 4 with (go_at_call 65; refine (trimL_p g1 j m p Q T _ HP HT HM HJ h0 hp1 HR1).mono ?_; rintro e w' ⟨rfl, rfl⟩)
  have d0 := unhide CD _ (Below.refl _ w')
  have d1 := unhide CD _ (Below.refl _ w').drew
  have d2 := unhide CD _ (Below.refl _ w').drew.drew
  have e0 := unhide CR _ (Below.refl _ w')
  have e1 := unhide CR _ (Below.refl _ w').drew
  have e2 := unhide CR _ (Below.refl _ w').drew.drew
  go_cut [7] from 23 to 30 (fun s7 wx => s7 = .string ⟨K.toArray⟩ ∧ Below w'.heap.size w' wx)
  case first =>
    go_region_with (go_at_call 66; refine (trimR_j D R K _ HK hDR).mono ?_; rintro e w4 ⟨rfl, rfl⟩)
    all_goals go_wp2_with fail
    all_goals go_meet
    all_goals exact ⟨rfl, by first | exact Below.refl _ _ | exact (Below.refl _ _).drew | exact (Below.refl _ _).drew.drew | exact (Below.refl _ _).drew.drew.drew⟩
  case rest =>
  obtain ⟨rfl, hB⟩ := hcut
  clear d0 d1 d2 e0 e1 e2 cH
  have hO := fun W => isOdd_b H 33 o W hHl (by decide) (unhide HO)
  have HOO := hide hO
  clear hO
  have p2 := htab.next hB
  have ADD := hide (fun W => add_one H (Dm.num H) W hM rfl hHn)
  have fin : ∀ (e : Ending) (W : World) (ds : List UInt8), Hid (Dm.allD ds ∧ ds.length ≤ 60 ∧ Dm.num ds = Dm.num H + 1) → u = 1 → Below w'.heap.size w' W → e = .returned (.tuple #[.string ⟨ds.toArray⟩, .int .i64 (t : Int)]) → ∃ G : List UInt8, e = .returned (.tuple #[.string ⟨G.toArray⟩, .int .i64 (t : Int)]) ∧ Dm.allD G ∧ G.length ≤ 60 ∧ Dm.num G = Dm.num H + u ∧ Below w'.heap.size w' W :=
    fun e W ds h hc hB he => ⟨_, he, (unhide h).1, (unhide h).2.1, by rw [(unhide h).2.2, hc], hB⟩
  have fin0 : ∀ (e : Ending) (W : World), u = 0 → Below w'.heap.size w' W → e = .returned (.tuple #[.string ⟨H.toArray⟩, .int .i64 (t : Int)]) → ∃ G : List UInt8, e = .returned (.tuple #[.string ⟨G.toArray⟩, .int .i64 (t : Int)]) ∧ Dm.allD G ∧ G.length ≤ 60 ∧ Dm.num G = Dm.num H + u ∧ Below w'.heap.size w' W :=
    fun e W hc hB he => ⟨_, he, hM.1, hM.2.1, by rw [hc]; rfl, hB⟩
  have FIN := hide fin
  have FIN0 := hide fin0
  clear fin fin0
  cases k with
  | false =>
    cases b with
    | true =>
      go_wp2_with fail
      exact bodyPost_ret (v := .tuple #[.string ⟨H.toArray⟩, .int .i64 (t : Int)]) (by simp [results, Tryz.results34, go_sem]) rfl (unhide FIN0 _ _ (unhide hu) hB rfl)
    | false =>
      go_wp2_with (first | (go_at_call 51; refine (int_one _ p2).mono ?_; rintro e w5 ⟨rfl, hb5⟩) | (go_at_call 68; refine (unhide ADD _).mono ?_; rintro e w6 ⟨ds, rfl, HDS, hb6⟩))
      exact bodyPost_ret (v := .tuple #[.string ⟨ds.toArray⟩, .int .i64 (t : Int)]) (by simp [results, Tryz.results34, go_sem]) rfl (unhide FIN _ _ _ HDS (unhide hu) ((hB.trans ((hb5.trans (hb6.mono hb5.size)).mono hB.size)).alloc (by have := hB.size; have := hb5.size; have := hb6.size; omega) _) rfl)
  | true =>
    have hbk : (!(b || true)) = false := by cases b <;> rfl
    cases o with
    | false =>
      go_wp2_with (first | (go_at_call 67; refine (unhide HOO _).mono ?_; rintro e w4 ⟨rfl, hb4⟩))
      exact bodyPost_ret (v := .tuple #[.string ⟨H.toArray⟩, .int .i64 (t : Int)]) (by simp [results, Tryz.results34, go_sem]) rfl (unhide FIN0 _ _ (by rw [unhide hu]; cases b <;> rfl) (hB.trans (hb4.mono hB.size)) rfl)
    | true =>
      go_wp2_with (first | (go_at_call 67; refine (unhide HOO _).mono ?_; rintro e w4 ⟨rfl, hb4⟩) | (first | (go_at_call 51; refine (int_one _ (p2.next hb4)).mono ?_; rintro e w5 ⟨rfl, hb5⟩) | (go_at_call 68; refine (unhide ADD _).mono ?_; rintro e w6 ⟨ds, rfl, HDS, hb6⟩)))
      exact bodyPost_ret (v := .tuple #[.string ⟨ds.toArray⟩, .int .i64 (t : Int)]) (by simp [results, Tryz.results34, go_sem]) rfl (unhide FIN _ _ _ HDS (by rw [unhide hu]; cases b <;> rfl) ((hB.trans ((hb4.trans ((hb5.trans (hb6.mono hb5.size)).mono hb4.size)).mono hB.size)).alloc (by have := hB.size; have := hb4.size; have := hb5.size; have := hb6.size; omega) _) rfl)
end Go.Proofs.YtmlmplmghlbdmaaGreatDoor

namespace Go.Proofs.YtmlmplmghlbdmaaGreatDoor
open Go.RowKit
set_option linter.unusedVariables false
set_option linter.unusedSimpArgs false

theorem trimL_n (g1 p : Nat) (Q : List UInt8) (w : World) (hp : Hid (Q.length = p)) (hT : Hid (Dm.tl Q = [])) (h0 : 0 < p) (hp1 : p ≤ 400) (r1 : Hid (Row w g1 0 Q)) :
    Calls Tryz.prog 65 #[.slice (some ⟨g1, 0, none⟩) p p, .string ⟨#[48]⟩] w fun e w' => e = .returned (.slice none 0 0) ∧ w' = w :=
  trimL_none g1 0 p p Q w (unhide hp) h0 (Nat.le_refl _) (by omega) (unhide r1) (unhide hT)
theorem trimR_1 (R K : List UInt8) (w : World) (hK : Hid (Dm.tr R = K)) (hl : R.length ≤ 1000) :
    Calls Tryz.prog 66 #[.string (⟨#[]⟩ ++ ⟨R.toArray⟩), .string ⟨#[48]⟩] w fun e w' => e = .returned (.string ⟨K.toArray⟩) ∧ w' = w := by
  rw [show (⟨#[]⟩ : ByteArray) = ⟨([] : List UInt8).toArray⟩ from rfl, mk_join [] R]
  exact trimRight_b _ _ _ (by rw [mk_size]; simp; omega) (by rw [mk_list, mk_list]; exact unhide hK)
set_option maxRecDepth 100000 in
set_option maxHeartbeats 2000000 in
theorem nearest_z (g1 g2 p q : Nat) (Q R K : List UInt8) (w : World) (hp : Q.length = p) (hT : Dm.tl Q = []) (h0 : 0 < p) (hp1 : p ≤ 400) (hq : R.length = q) (hq1 : q ≤ 400) (r1 : Row w g1 0 Q) (r2 : Row w g2 0 R)
    (hK : Dm.tr R = K) (hb : Op.bytesLess K [53] = true) (hk : (K == [53]) = false) :
    Calls Tryz.prog 34 #[.slice (some ⟨g1, 0, none⟩) p p, .slice (some ⟨g2, 0, none⟩) q q] w fun e w' => e = .returned (.tuple #[.string ⟨#[]⟩, .int .i64 0]) ∧ Below w.heap.size w w' := by
  have cR : ∀ W, Below w.heap.size w W → (convert 38 9 (.slice (some ⟨g2, 0, none⟩) q q)).run Tryz.prog W = .ok (.string ⟨R.toArray⟩) W := fun W hB => conv_row g2 0 q q R W hq (r2.below hB)
  have HP := hide hp
  have HT := hide hT
  have HR1 := hide r1
  have CR := hide cR
  have HK := hide hK
  have hR4 : R.length ≤ 400 := by omega
  have hR5 : R.length ≤ 1000 := by omega
  clear hp r1 cR r2 hT hq hK
  have hmin : min (0 : Int) 34 = 0 := by decide
  have cN : ∀ W, (convert 38 9 (.slice none 0 0)).run Tryz.prog W = .ok (.string ⟨#[]⟩) W := fun W => by
    have := run_convert_bytes_nil (P := Tryz.prog) W 38 5 Tryz.underlying38 Tryz.underlying5 0 0 9 Tryz.underlying9
    exact this
  go_enter Tryz.func34, Tryz.ntmps34
  go_upto_region 4 with (go_at_call 65; refine (trimL_n g1 p Q _ HP HT h0 hp1 HR1).mono ?_; rintro e w' ⟨rfl, rfl⟩)
  have e0 := unhide CR _ (Below.refl _ w')
  have e1 := unhide CR _ (Below.refl _ w').drew
  have e2 := unhide CR _ (Below.refl _ w').drew.drew
  go_cut [7] from 23 to 30 (fun s7 wx => s7 = .string ⟨K.toArray⟩ ∧ Below w'.heap.size w' wx)
  case first =>
    go_region_with (go_at_call 66; refine (trimR_1 R K _ HK hR5).mono ?_; rintro e w4 ⟨rfl, rfl⟩)
    all_goals go_wp2_with fail
    all_goals go_meet
    all_goals exact ⟨rfl, by first | exact Below.refl _ _ | exact (Below.refl _ _).drew | exact (Below.refl _ _).drew.drew | exact (Below.refl _ _).drew.drew.drew⟩
  case rest =>
  obtain ⟨rfl, hB⟩ := hcut
  clear e0 e1 e2
  go_wp2_with fail
  exact bodyPost_ret (v := .tuple #[.string ⟨#[]⟩, .int .i64 0]) (by simp [results, Tryz.results34, go_sem]) rfl ⟨rfl, hB⟩

theorem tl_nil_of {Q : List UInt8} (hd : Dm.allD Q) (h : Dm.num Q = 0) : Dm.tl Q = [] := by
  by_cases e : Dm.tl Q = []
  · exact e
  · have := Dm.lead_pos (Dm.tl_allD hd) (Dm.tl_lead Q e)
    rw [Dm.tl_num] at this
    omega
theorem nearest_any (g1 g2 p q : Nat) (Q R : List UInt8) (w : World) (hp : Q.length = p) (h0 : 0 < p) (hp1 : p ≤ 400) (hq : R.length = q + 1) (hq1 : q < 400) (dQ : Dm.allD Q) (dR : Dm.allD R) (hbig : Dm.num Q = 0 ∨ 10 ^ 34 ≤ Dm.num Q) (hR : Dm.num R < 10 ^ q) (r1 : Row w g1 0 Q) (r2 : Row w g2 0 R) (htab : Pow w) :
    Calls Tryz.prog 34 #[.slice (some ⟨g1, 0, none⟩) p p, .slice (some ⟨g2, 0, none⟩) (q + 1) (q + 1)] w fun e w' => ∃ (G : List UInt8) (t : Nat), e = .returned (.tuple #[.string ⟨G.toArray⟩, .int .i64 (t : Int)]) ∧ t ≤ p ∧ Hid (Dm.DropT (Dm.num Q) t) ∧ Dm.allD G ∧ G.length ≤ 60 ∧ Hid (Dm.num G = Dm.nearN t (q + 1) (Dm.num Q) (Dm.num R)) ∧ Below w.heap.size w w' := by
  have hRl := Dm.lead0 dR hq hR
  rcases hbig with hz | hbig
  · obtain ⟨R', eR⟩ := hRl
    obtain ⟨k1, k2⟩ := Dm.lead0_tr (R := R')
    rw [← eR] at k1 k2
    have hb : Op.bytesLess (Dm.tr R) [53] = true := by
      have := gt_five (Dm.tr R)
      rw [k1, k2, Bool.or_false] at this
      cases h : Op.bytesLess (Dm.tr R) [53] with
      | true => rfl
      | false => rw [h] at this; cases this
    refine (nearest_z g1 g2 p (q + 1) Q R (Dm.tr R) w hp (tl_nil_of dQ hz) h0 hp1 hq (by omega) r1 r2 rfl hb k2).mono ?_
    rintro e w' ⟨rfl, hB⟩
    refine ⟨[], 0, rfl, by omega, hide (.inl ⟨hz, rfl⟩), Dm.allD_nil, by simp, hide ?_, hB⟩
    rw [hz]
    unfold Dm.nearN Dm.upN
    have hp := Dm.pow_pos' q
    have hpp : 10 ^ (0 - 1 + (q + 1)) = 10 ^ q * 10 := by rw [Nat.zero_sub, Nat.zero_add, Nat.pow_succ]
    rw [Nat.pow_zero, Nat.mod_one, Nat.zero_mul, Nat.zero_add, hpp]
    have a1 : decide (5 * (10 ^ q * 10) < Dm.num R) = false := by rw [decide_eq_false_iff_not]; omega
    have a2 : decide (Dm.num R = 5 * (10 ^ q * 10)) = false := by rw [decide_eq_false_iff_not]; omega
    rw [Nat.zero_add, a1, a2]
    rfl
  · obtain ⟨T, hT⟩ : ∃ T, Dm.tl Q = T := ⟨_, rfl⟩
    have hTn : Dm.num T = Dm.num Q := by rw [← hT]; exact Dm.tl_num Q
    have hTd : Dm.allD T := by rw [← hT]; exact Dm.tl_allD dQ
    have hTl : 35 ≤ T.length := by
      have h1 := Dm.num_lt hTd
      rw [hTn] at h1
      rcases Nat.lt_or_ge T.length 35 with g | g
      · have := Nat.pow_le_pow_right (n := 10) (by omega) (show T.length ≤ 34 from by omega)
        omega
      · exact g
    have hne : T ≠ [] := by intro e; rw [e] at hTl; simp at hTl
    have hlead : Dm.noLead T := by rw [← hT]; exact Dm.tl_lead Q (by rw [hT]; exact hne)
    obtain ⟨j, hj⟩ := Dm.tl_spec Q
    rw [hT] at hj
    have hjl : p = j + T.length := by
      have := congrArg List.length hj
      simp only [List.length_append, List.length_replicate] at this
      omega
    obtain ⟨t, ht⟩ : ∃ t, T.length = 34 + t := ⟨T.length - 34, by omega⟩
    obtain ⟨s1, s2⟩ := Dm.split_num hTd 34 (by omega)
    have hHd : Dm.allD (T.take 34) := fun x hx => hTd x (List.mem_of_mem_take hx)
    have hHl : (T.take 34).length = 34 := by rw [List.length_take]; omega
    have hHn : Dm.num (T.take 34) + 1 < 10 ^ 60 := by
      have h1 := Dm.num_lt hHd
      rw [hHl] at h1
      have h2 : (10 : Nat) ^ 34 + 1 < 10 ^ 60 := by decide
      omega
    have hM : Dm.May ⟨false, T.take 34, 0⟩ := by
      refine ⟨hHd, by simp only; omega, by simp, .inr ⟨?_, .inl rfl⟩⟩
      obtain ⟨c, u, e, hc⟩ := hlead
      rw [e]
      exact ⟨c, u.take 33, rfl, hc⟩
    have ho : decide (((T.take 34).getD 33 0).toNat % 2 = 1) = decide (Dm.num (T.take 34) % 2 = 1) := by
      have h33 : 33 < (T.take 34).length := by omega
      have e : T.take 34 = (T.take 34).take 33 ++ [(T.take 34).getD 33 0] := by
        have := (List.take_append_drop 33 (T.take 34)).symm
        have hd : (T.take 34).drop 33 = [(T.take 34).getD 33 0] := by
          rw [List.drop_eq_getElem_cons h33]
          have : (T.take 34).drop (33 + 1) = [] := List.drop_eq_nil_of_le (by omega)
          rw [this]
          simp only [List.getD, List.getElem?_eq_getElem h33, Option.getD_some]
        rw [hd] at this
        exact this
      exact (Dm.last_odd hHd e).symm
    refine (nearest_t g1 g2 j T.length t p (q + 1) Q T R (T.take 34) (T.drop 34) (Dm.tr (T.drop 34 ++ R)) w hp hT rfl hjl ht (by omega) hp1 hq (by omega) r1 r2 rfl rfl rfl hM hHn htab _ _ _ ho rfl rfl _ (hide rfl)).mono ?_
    rintro e w' ⟨G, rfl, h1, h2, h3, hB⟩
    refine ⟨G, t, rfl, by omega, hide (.inr ⟨by omega, ?_, ?_⟩), h1, h2, hide ?_, hB⟩
    · obtain ⟨c, u, e, hc⟩ := hlead
      have h4 : 10 ^ u.length ≤ Dm.num T := by
        have hTd' := hTd
        rw [e] at hTd' ⊢
        exact Dm.num_ge (Dm.allD_cons.1 hTd').1 hc
      have h5 : u.length = t + 33 := by
        have := congrArg List.length e
        simp only [List.length_cons] at this
        omega
      rw [h5, hTn] at h4
      exact h4
    · have := Dm.num_lt hTd
      rw [hTn, ht, Nat.add_comm] at this
      exact this
    · have hu := Dm.up_spec hTd dR 34 (by omega)
      rw [gt_five, h3, hu] at *
      rw [hq, hTn, show T.length - 34 = t from by omega] at *
      rw [s1]
      unfold Dm.nearN
      cases Dm.upN t (q + 1) (Dm.num Q) (Dm.num R) <;> rfl
end Go.Proofs.YtmlmplmghlbdmaaGreatDoor

namespace Go.Proofs.YtmlmplmghlbdmaaGreatDoor
open Go.RowKit
set_option linter.unusedVariables false
set_option linter.unusedSimpArgs false

theorem long_c (y zs D X : List UInt8) (p n : Nat) (w : World) (hX : Hid (y ++ zs = X)) (hp : Hid (X.length = p)) (hp0 : 1 ≤ p) (hp1 : p ≤ 400) (hn : Hid (D.length = n)) (hn0 : 1 ≤ n) (hn1 : n ≤ 400) (dN : Dm.allD X) (dD : Dm.allD D) (hpos : 0 < Dm.num D) :
    Calls Tryz.prog 32 #[.string (⟨y.toArray⟩ ++ ⟨zs.toArray⟩), .string ⟨D.toArray⟩] w fun e w' => ∃ (g1 g2 : Nat) (Q R : List UInt8), e = .returned (.tuple #[.slice (some ⟨g1, 0, none⟩) p p, .slice (some ⟨g2, 0, none⟩) (n + 1) (n + 1)]) ∧ Hid (Q.length = p ∧ R.length = n + 1 ∧ Dm.allD Q ∧ Dm.allD R ∧ Dm.num Q = Dm.num X / Dm.num D ∧ Dm.num R = Dm.num X % Dm.num D) ∧ Row w' g1 0 Q ∧ Row w' g2 0 R ∧ Below w.heap.size w w' := by
  rw [mk_join y zs, unhide hX]
  refine (longDivide_any X D p n w (unhide hp) hp0 hp1 (unhide hn) hn0 hn1 dN dD hpos).mono ?_
  rintro e w' ⟨g1, g2, c, Q, R, rfl, h1, h2, h3, h4, h5, h6, h7, h8, h9⟩
  exact ⟨g1, g2, Q, R, rfl, hide ⟨h1, h2, h3, h4, h5, h6⟩, h7, h8, h9⟩

set_option maxRecDepth 100000 in
set_option maxHeartbeats 2000000 in
theorem div_r (x : Bool) (y : List UInt8) (z : Nat) (x2 : Bool) (y2 : List UInt8) (z2 n : Nat) (w : World) (h : Dm.May ⟨x, y, z⟩) (h2 : Dm.May ⟨x2, y2, z2⟩) (hne : y2 ≠ [48]) (hn : max 0 (35 + (y2.length : Int) - (y.length : Int)) = (n : Int)) (htab : Pow w) :
    Calls Tryz.prog 12 #[.agg #[.bool x, .string ⟨y.toArray⟩, .int .i64 (z : Int)], .agg #[.bool x2, .string ⟨y2.toArray⟩, .int .i64 (z2 : Int)]] w fun e w' => ∃ r, e = .returned (tV r) ∧ Dm.DivRep (x != x2) y z y2 z2 r ∧ Below w.heap.size w w' := by
  have ht := Tri.start w (.bool x) (.string ⟨y.toArray⟩) (.int .i64 (z : Int)) (.bool x2) (.string ⟨y2.toArray⟩) (.int .i64 (z2 : Int)) 23
  obtain ⟨l1, l2, l3⟩ := may_len h
  obtain ⟨m1, m2, m3⟩ := may_len h2
  have hma := dV_may h
  have hmb := dV_may h2
  have hpos := pos_num h2 hne
  simp only [] at l1 l2 l3 m1 m2 m3 hma hmb hpos
  have hsa : (⟨y.toArray⟩ : ByteArray).size ≤ maxLen := by unfold maxLen; rw [mk_size]; omega
  have hsb : (⟨y2.toArray⟩ : ByteArray).size ≤ maxLen := by unfold maxLen; rw [mk_size]; omega
  have hn95 : n ≤ 95 := by omega
  obtain ⟨zs, hz⟩ : ∃ zs : List UInt8, zs = List.replicate n 48 := ⟨_, rfl⟩
  have hzl : zs.length = n := by rw [hz, List.length_replicate]
  obtain ⟨X, hX⟩ : ∃ X, y ++ zs = X := ⟨_, rfl⟩
  have hXn : Dm.num X = Dm.num y * 10 ^ n := by rw [← hX, hz, Dm.num_append_zeros]
  have hXl : X.length = y.length + n := by rw [← hX, List.length_append, hzl]
  have hXd : Dm.allD X := by rw [← hX, hz]; exact Dm.allD_append.2 ⟨h.1, Dm.allD_zeros _⟩
  have hbig : Dm.num X / Dm.num y2 = 0 ∨ 10 ^ 34 ≤ Dm.num X / Dm.num y2 := by
    by_cases e : y = [48]
    · left
      have h0 : Dm.num y = 0 := by rw [e]; rfl
      rw [hXn, h0, Nat.zero_mul, Nat.zero_div]
    · right
      rw [hXn]
      exact Dm.big_quot h.1 (Dm.lead_of h e).1 h2.1 (by omega) hpos
  have hRlt : Dm.num X % Dm.num y2 < 10 ^ y2.length := Nat.lt_trans (Nat.mod_lt _ hpos) (Dm.num_lt h2.1)
  obtain ⟨p, hp⟩ : ∃ p, X.length = p := ⟨_, rfl⟩
  obtain ⟨q, hq⟩ : ∃ q, y2.length = q := ⟨_, rfl⟩
  have hp0 : 1 ≤ p := by omega
  have hp1 : p ≤ 155 := by omega
  have hq0 : 1 ≤ q := by omega
  have hq1 : q ≤ 60 := by omega
  have hzl9 : zs.length ≤ 95 := by omega
  have hd2 : Dm.allD y2 := h2.1
  have q0 : (y2 == [48]) = false := beq_eq_false_iff_ne.2 hne
  have hcat : ¬ (9223372036854775807 < y.length + zs.length) := by omega
  have hcat2 : ¬ (9223372036854775807 < (⟨y.toArray⟩ : ByteArray).size + (⟨zs.toArray⟩ : ByteArray).size) := by rw [mk_size, mk_size]; omega
  have HX := hide hX
  have HZ := hide hz
  have HXN := hide hXn
  have HP := hide hp
  have HQ := hide hq
  have HMA := hide hma
  have HMB := hide hmb
  have HN := hide hn
  have HBIG := hide hbig
  have HRLT := hide hRlt
  clear hX hz hXn hp hq hma hmb hXl hn hbig hRlt hzl
  have tok1 : True := trivial
  have tok2 : True := trivial
  go_enter Tryz.func12, Tryz.ntmps12
  go_upto_region 6 with (first | (go_at_call 31; have _t := tok1; refine (may_b x ⟨y.toArray⟩ z true _ hsa (unhide HMA)).mono ?_; rintro e w1 ⟨rfl, hb1⟩; have ht1 := ht.next hb1; clear tok1 _t ht hb1; obtain ⟨⟨c0, c1, c2⟩, ⟨d0, d1, d2⟩⟩ := ht1.cells) | (go_at_call 31; have _t := tok2; refine (may_b x2 ⟨y2.toArray⟩ z2 true _ hsb (unhide HMB)).mono ?_; rintro e w2 ⟨rfl, hb2⟩; have ht2 := ht1.next hb2; clear tok2 _t ht1 hb2 c0 c1 c2 d0 d1 d2; obtain ⟨⟨c0, c1, c2⟩, ⟨d0, d1, d2⟩⟩ := ht2.cells))
  simp only [unhide HN]
  go_region_held3 (fun w' => (w'.cell? ⟨w.heap.size, 0, none⟩ = some (.bool x) ∧ w'.cell? ⟨w.heap.size, 1, none⟩ = some (.string ⟨y.toArray⟩) ∧ w'.cell? ⟨w.heap.size, 2, none⟩ = some (.int .i64 (z : Int))) ∧ (w'.cell? ⟨w.heap.size + 1, 0, none⟩ = some (.bool x2) ∧ w'.cell? ⟨w.heap.size + 1, 1, none⟩ = some (.string ⟨y2.toArray⟩) ∧ w'.cell? ⟨w.heap.size + 1, 2, none⟩ = some (.int .i64 (z2 : Int)))) (first | exact ht4.cells | exact ht3.cells | exact ht2.cells | exact ht2.drew.cells | exact ht3.drew.cells | exact ht4.drew.cells) (first | (go_at_call 33; refine (repeat_o (n : Int) n zs _ rfl (by omega) (unhide HZ)).mono ?_; rintro e w3 ⟨rfl, hb3⟩; have ht3 := Tri.next (by first | exact ht2 | exact ht2.drew) hb3; clear hb3; clear c0 c1 c2 d0 d1 d2; obtain ⟨⟨c0, c1, c2⟩, ⟨d0, d1, d2⟩⟩ := ht3.cells) | (go_at_call 32; refine (long_c y zs y2 X p q _ HX HP hp0 (by omega) HQ hq0 (by omega) hXd hd2 hpos).mono ?_; rintro e w4 ⟨g1, g2, Q, R, rfl, HQR, row1, row2, hb4⟩; have ht4 := Tri.next (by first | exact ht3 | exact ht3.drew) hb4; have hpow4 := htab.next ht4.1.1; clear hb4; clear c0 c1 c2 d0 d1 d2; obtain ⟨⟨c0, c1, c2⟩, ⟨d0, d1, d2⟩⟩ := ht4.cells))
  have hQR := unhide HQR
  obtain ⟨hQl, hRl, hQd, hRd, hQn, hRn⟩ := hQR
  have hbig := unhide HBIG
  have hrlt := unhide HRLT
  rw [← hQn] at hbig
  rw [← hRn, unhide HQ] at hrlt
  have HQR2 := hide (And.intro hQl (And.intro hQn hRn))
  go_upto_region 8 with (go_at_call 34; refine (nearest_any g1 g2 p q Q R _ hQl (by omega) (by omega) hRl (by omega) hQd hRd hbig hrlt row1 row2 hpow4).mono ?_; rintro e w5 ⟨G, t, rfl, htp, HDT, hGd, hGl, HGN, hb5⟩)
  have ht5 := ht4.next hb5
  have hpow5 := htab.next ht5.1.1
  clear row1 row2 hbig hrlt hQl hRl hQn hRn hb5 HQR c0 c1 c2 d0 d1 d2 ht4 hpow4
  obtain ⟨⟨c0, c1, c2⟩, ⟨d0, d1, d2⟩⟩ := ht5.cells
  go_wp2_with (go_at_call 35; refine (decimal_any (!(x == x2)) G ((z : Int) + n - z2 - t) _ (by omega) (by omega) (by omega) hGd hpow5).mono ?_; rintro e w6 ⟨r, rfl, hrep, hb6⟩; have ht6 := ht5.next hb6; obtain ⟨⟨k0, k1, k2⟩, ⟨f0, f1, f2⟩⟩ := ht6.out; have HREP := hide hrep; clear hrep hb6)
  refine bodyPost_ret (v := tV r) ?_ rfl ⟨r, rfl, ⟨n, t, (unhide HN).symm, ?_, ?_⟩, ht6.end _ _ _⟩
  · simp [results, Tryz.results12, go_sem, k0, k1, k2, tV]
  · obtain ⟨a1, a2, a3⟩ := unhide HQR2
    have := unhide HDT
    rw [a2, unhide HXN] at this
    exact this
  · obtain ⟨a1, a2, a3⟩ := unhide HQR2
    have := unhide HREP
    rw [unhide HGN, a2, a3, unhide HXN, ← unhide HQ] at this
    exact this
end Go.Proofs.YtmlmplmghlbdmaaGreatDoor

set_option linter.unusedSimpArgs false
set_option linter.unusedVariables false
namespace Go.Proofs.YtmlmplmghlbdmaaGreatDoor
namespace Dm

theorem rep_int {ng : Bool} {n : Nat} {r : Option D} (h : Rep (sgn ng n) 0 r) (hn : n < 10 ^ 60) : ∃ d, r = some d ∧ d.sc = 0 ∧ May d ∧ sg d = sgn ng n := by
  by_cases h0 : n = 0
  · subst h0
    refine ⟨_, rep_zero h, rfl, zero_may, ?_⟩
    rw [sgn_zero]
    rfl
  · obtain ⟨ds, h1, h2, h3, _⟩ := rep_nat h hn (by omega)
    exact ⟨_, h1, rfl, h2, by unfold sg; rw [h3]⟩
theorem whole_lt {d : D} (h : May d) (k : Nat) (hk : k ≤ 1) (hz : 0 < d.sc ∨ k = 0) : num d.ds / 10 ^ d.sc + k < 10 ^ 60 := by
  have h1 := num_lt h.1
  have h2 := Nat.pow_le_pow_right (n := 10) (by omega) h.2.1
  rcases hz with g | g
  · have h3 : 10 ^ 1 ≤ 10 ^ d.sc := Nat.pow_le_pow_right (by omega) g
    have h4 : num d.ds / 10 ^ d.sc ≤ num d.ds / 10 ^ 1 := Nat.div_le_div_left h3 (by decide)
    have h5 : num d.ds / 10 ^ 1 ≤ 10 ^ 60 / 10 ^ 1 := Nat.div_le_div_right (by omega)
    have h6 : (10 : Nat) ^ 60 / 10 ^ 1 + 1 < 10 ^ 60 := by decide
    omega
  · have h4 : num d.ds / 10 ^ d.sc ≤ num d.ds := Nat.div_le_self _ _
    omega
theorem whole_same {d : D} {r : Option D} (h : May d) (hz : d.sc = 0) (hr : Rep (sgn d.ng (num d.ds / 10 ^ d.sc + 0)) 0 r) : r = some d := by
  rw [hz, Nat.pow_zero, Nat.div_one, Nat.add_zero] at hr
  refine hr.uniq (Rep.of_eqv h ?_)
  rw [hz]; rfl
theorem tail_of {d : D} (h : May d) (hz : 0 < d.sc) : num d.ds % 10 ≠ 0 := by
  obtain ⟨h1, h2, h3, h4⟩ := h
  rcases h4 with ⟨_, g, _⟩ | ⟨_, g | g⟩
  · omega
  · omega
  · exact tail_mod h1 g
/-- Between the whole numbers below and above. -/
theorem near_spec {d f c : D} (hd : May d) (hz : 0 < d.sc) (hf : Rep (sgn d.ng (num d.ds / 10 ^ d.sc + if d.ng then 1 else 0)) 0 (some f)) (hc : Rep (sgn d.ng (num d.ds / 10 ^ d.sc + if d.ng then 0 else 1)) 0 (some c)) :
    f.sc = 0 ∧ c.sc = 0 ∧ sg c = sg f + 1 ∧ sg f * p10 d.sc < sg d ∧ sg d < sg c * p10 d.sc := by
  have hk1 : (if d.ng then 1 else 0) ≤ 1 := by cases d.ng <;> decide
  have hk2 : (if d.ng then 0 else 1) ≤ 1 := by cases d.ng <;> decide
  obtain ⟨f', e1, f1, f2, f3⟩ := rep_int hf (whole_lt hd _ hk1 (.inl hz))
  obtain ⟨c', e2, c1, c2, c3⟩ := rep_int hc (whole_lt hd _ hk2 (.inl hz))
  injection e1 with e1
  injection e2 with e2
  subst e1 e2
  have ht := tail_of hd hz
  have hdm := Nat.div_add_mod (num d.ds) (10 ^ d.sc)
  have hml := Nat.mod_lt (num d.ds) (pow_pos' d.sc)
  have hm0 : 0 < num d.ds % 10 ^ d.sc := by
    rcases Nat.eq_zero_or_pos (num d.ds % 10 ^ d.sc) with h | h
    · exfalso
      apply ht
      obtain ⟨k, hk⟩ : ∃ k, d.sc = k + 1 := ⟨d.sc - 1, by omega⟩
      rw [← hdm, h, Nat.add_zero, hk, Nat.pow_succ, Nat.mul_assoc, Nat.mul_comm (10 ^ k), Nat.mul_assoc, Nat.mul_mod_right]
    · exact h
  refine ⟨f1, c1, ?_, ?_, ?_⟩
  · rw [f3, c3]
    unfold sgn
    cases d.ng <;> simp <;> omega
  all_goals
    rw [show sg d = sgn d.ng (num d.ds) from rfl]
    first | rw [f3] | rw [c3]
    unfold p10
    generalize num d.ds / 10 ^ d.sc = W at hdm
    generalize num d.ds % 10 ^ d.sc = R at hdm hml hm0
    generalize 10 ^ d.sc = P at hdm hml
    have e : num d.ds = W * P + R := by rw [← hdm, Nat.mul_comm]
    have eI : (num d.ds : Int) = (W : Int) * (P : Int) + (R : Int) := by rw [e, Int.natCast_add, Int.natCast_mul]
    unfold sgn
    cases d.ng
    · simp only [Bool.false_eq_true, if_false, if_true]
      rw [eI]
      try rw [Int.natCast_add, Int.add_mul]
      generalize (W : Int) * (P : Int) = q
      simp
      try omega
    · simp only [if_true]
      rw [eI]
      rw [Int.neg_mul]
      try rw [Int.natCast_add, Int.add_mul]
      generalize (W : Int) * (P : Int) = q
      simp
      try omega
end Dm
theorem near_cmp {d f c : Dm.D} (hf : f.sc = 0) (hc : c.sc = 0) (h1 : Dm.sg f * Dm.p10 d.sc < Dm.sg d) (h2 : Dm.sg d < Dm.sg c * Dm.p10 d.sc) : sgI (Dm.sg f * Dm.p10 d.sc - Dm.sg d * Dm.p10 f.sc) = -1 ∧ sgI (Dm.sg d * Dm.p10 c.sc - Dm.sg c * Dm.p10 d.sc) = -1 := by
  rw [hf, hc, Dm.p10_zero, Int.mul_one]
  constructor
  · unfold sgI; rw [if_pos (by omega)]
  · unfold sgI; rw [if_pos (by omega)]
end Go.Proofs.YtmlmplmghlbdmaaGreatDoor

namespace Go.Proofs.YtmlmplmghlbdmaaGreatDoor
open Go.RowKit
set_option linter.unusedVariables false
set_option linter.unusedSimpArgs false

set_option maxRecDepth 100000 in
set_option maxHeartbeats 2000000 in
theorem half_0 (x : Bool) (y : List UInt8) (w : World) :
    Calls Tryz.prog 50 #[.agg #[.bool x, .string ⟨y.toArray⟩, .int .i64 0]] w fun e w' => e = .returned (.bool false) ∧ Below w.heap.size w w' := by
  have hS := Box3.start w (.bool x) (.string ⟨y.toArray⟩) (.int .i64 0) 23
  obtain ⟨_, _, a0, a1, a2⟩ := id hS
  go_enter Tryz.func50, Tryz.ntmps50
  go_wp2_with fail
  go_ret
  exact ⟨rfl, hS.1⟩
set_option maxRecDepth 100000 in
set_option maxHeartbeats 2000000 in
theorem half_far (x : Bool) (y : List UInt8) (z : Nat) (w : World) (h0 : 0 < z) (hz : y.length < z) (hz1 : z ≤ 60) :
    Calls Tryz.prog 50 #[.agg #[.bool x, .string ⟨y.toArray⟩, .int .i64 (z : Int)]] w fun e w' => e = .returned (.bool false) ∧ Below w.heap.size w w' := by
  have hS := Box3.start w (.bool x) (.string ⟨y.toArray⟩) (.int .i64 (z : Int)) 23
  obtain ⟨_, _, a0, a1, a2⟩ := id hS
  have g1 : ¬ (z : Int) ≤ 0 := by omega
  have g2 : (y.length : Int) < (z : Int) := by omega
  go_enter Tryz.func50, Tryz.ntmps50
  go_wp2_with fail
  go_ret
  exact ⟨rfl, hS.1⟩
set_option maxRecDepth 100000 in
set_option maxHeartbeats 2000000 in
theorem half_in (x : Bool) (y : List UInt8) (z : Nat) (b : Bool) (w : World) (h0 : 0 < z) (hz : z ≤ y.length) (hy : y.length ≤ 60) (hb : decide (53 ≤ (y.getD (y.length - z) 0).toNat) = b) :
    Calls Tryz.prog 50 #[.agg #[.bool x, .string ⟨y.toArray⟩, .int .i64 (z : Int)]] w fun e w' => e = .returned (.bool b) ∧ Below w.heap.size w w' := by
  have hS := Box3.start w (.bool x) (.string ⟨y.toArray⟩) (.int .i64 (z : Int)) 23
  obtain ⟨_, _, a0, a1, a2⟩ := id hS
  have g1 : ¬ (z : Int) ≤ 0 := by omega
  have g2 : ¬ (y.length : Int) < (z : Int) := by omega
  obtain ⟨k, hk⟩ : ∃ k, y.length - z = k := ⟨_, rfl⟩
  have hkl : k < y.length := by omega
  have hk2 : (y.length : Int) - (z : Int) = (k : Int) := by omega
  rw [hk] at hb
  have e : y.getD k 0 = y[k]'hkl := by simp [List.getD, hkl]
  rw [e] at hb
  have HB := hide hb
  clear hb hk
  go_enter Tryz.func50, Tryz.ntmps50
  go_wp2_with fail
  go_ret
  refine ⟨?_, hS.1⟩
  rw [← unhide HB]
  have e3 : ∀ c : UInt8, decide ((53 : Int) ≤ (c.toNat : Int)) = decide (53 ≤ c.toNat) := by
    intro c
    exact decide_eq_decide.2 (by omega)
  rw [← e3]
  rfl
/-- It answers, one way or the other. -/
theorem half_any (x : Bool) (y : List UInt8) (z : Nat) (w : World) (h : Dm.May ⟨x, y, z⟩) :
    Calls Tryz.prog 50 #[.agg #[.bool x, .string ⟨y.toArray⟩, .int .i64 (z : Int)]] w fun e w' => e = .returned (.bool (decide (0 < z) && (decide (z ≤ y.length) && decide (53 ≤ (y.getD (y.length - z) 0).toNat)))) ∧ Below w.heap.size w w' := by
  obtain ⟨l1, l2, l3⟩ := may_len h
  simp only at l1 l2 l3
  by_cases h0 : 0 < z
  · by_cases hz : z ≤ y.length
    · rw [decide_eq_true h0, decide_eq_true hz, Bool.true_and, Bool.true_and]
      exact half_in x y z _ w h0 hz l2 rfl
    · rw [decide_eq_true h0, decide_eq_false hz, Bool.true_and, Bool.false_and]
      exact half_far x y z w h0 (by omega) l3
  · have : z = 0 := by omega
    subst this
    exact half_0 x y w
end Go.Proofs.YtmlmplmghlbdmaaGreatDoor

namespace Go.Proofs.YtmlmplmghlbdmaaGreatDoor
open Go.RowKit
set_option linter.unusedVariables false
set_option linter.unusedSimpArgs false

theorem Dm.rep_ex {ng : Bool} {n : Nat} (hn : n < 10 ^ 60) : ∃ (b : Bool) (l : List UInt8), Dm.May ⟨b, l, 0⟩ ∧ Dm.sg ⟨b, l, 0⟩ = Dm.sgn ng n ∧ ∀ r, Dm.Rep (Dm.sgn ng n) 0 r → r = some ⟨b, l, 0⟩ := by
  have hr : ∃ r, Dm.Rep (Dm.sgn ng n) 0 r := by
    by_cases h0 : n = 0
    · rw [h0, Dm.sgn_zero]; exact ⟨_, Dm.zero_rep 0⟩
    · obtain ⟨l, hl, e⟩ := Dm.digits_exist n
      have hT := Dm.tl_allD hl
      have hTn : Dm.num (Dm.tl l) = n := by rw [Dm.tl_num, e]
      have hne : Dm.tl l ≠ [] := by
        intro h
        rw [h, Dm.num_nil] at hTn
        omega
      have hf := Dm.fin_rep (ng := ng) (s := 0) hT (Dm.tl_lead l hne) (.inl rfl)
      rw [hTn] at hf
      exact ⟨_, hf⟩
  obtain ⟨r, hr⟩ := hr
  obtain ⟨d, e, h1, h2, h3⟩ := Dm.rep_int hr hn
  subst e
  cases d with
  | mk b l s =>
    simp only at h1
    subst h1
    exact ⟨b, l, h2, h3, fun r' h' => h'.uniq hr⟩
theorem decimal_w (x : Bool) (y : List UInt8) (k : Nat) (d1 : Bool) (d2 : List UInt8) (w : World) (hl : y.length ≤ 60) (hd : Dm.allD y) (hfix : Hid (∀ r, Dm.Rep (Dm.sgn x (Dm.num (y.take k))) 0 r → r = some ⟨d1, d2, 0⟩)) (htab : Pow w) :
    Calls Tryz.prog 35 #[.bool x, .string ((⟨y.toArray⟩ : ByteArray).extract 0 k), .int .i64 0] w fun e w' => e = .returned (.tuple #[.agg #[.bool d1, .string ⟨d2.toArray⟩, .int .i64 0], .int .i64 0]) ∧ Below w.heap.size w w' := by
  have e1 : (⟨y.toArray⟩ : ByteArray).extract 0 k = ⟨(y.take k).toArray⟩ := by
    apply str_ext
    rw [Go.Lib.extract_data, mk_list, List.drop_zero, Nat.sub_zero]
  rw [e1]
  refine (decimal_any x (y.take k) 0 w (by rw [List.length_take]; omega) (by decide) (by decide) (fun c hc => hd c (List.mem_of_mem_take hc)) htab).mono ?_
  rintro e w' ⟨r, rfl, hr, hB⟩
  rw [show (-(0 : Int)).toNat = 0 from rfl, Dm.p10_zero, Int.mul_one] at hr
  have := unhide hfix r hr
  subst this
  exact ⟨rfl, hB⟩
theorem add_u (d1 : Bool) (d2 : List UInt8) (x : Bool) (w : World) (hm : Dm.May ⟨d1, d2, 0⟩) :
    Calls Tryz.prog 68 #[.agg #[.bool d1, .string ⟨d2.toArray⟩, .int .i64 0], .agg #[.bool x, .string ⟨#[49]⟩, .int .i64 0]] w fun e w' => ∃ r, e = .returned (.tuple #[.agg #[.bool (rx r), .string (ry r), .int .i64 (rz r)], .int .i64 (re r)]) ∧ Hid (Dm.Rep (Dm.sg ⟨d1, d2, 0⟩ + Dm.sgn x 1) 0 r) ∧ Below w.heap.size w w' := by
  refine (add_r d1 d2 0 x [49] 0 w hm (unit_may x)).mono ?_
  rintro e w' ⟨r, rfl, hr, hB⟩
  rw [unit_sg, Dm.p10_zero, Int.mul_one, Int.mul_one] at hr
  exact ⟨r, rfl, hide hr, hB⟩
theorem Box3.lt {w0 w : World} {x y z : Value} (h : Box3 w0 x y z w) : w0.heap.size < w.heap.size := h.2.1
theorem Box3.cells_a {w0 w : World} {x y z : Value} (h : Box3 w0 x y z w) (o : Obj) : (w.alloc o).cell? ⟨w0.heap.size, 0, none⟩ = some x ∧ (w.alloc o).cell? ⟨w0.heap.size, 1, none⟩ = some y ∧ (w.alloc o).cell? ⟨w0.heap.size, 2, none⟩ = some z := (h.alloc o).2.2
theorem Box3.cells_s {w0 w : World} {x y z : Value} {g : Nat} (h : Box3 w0 x y z w) (hg : w0.heap.size < g) (p q r : Value) : (((w.setCell ⟨g, 0, none⟩ p).setCell ⟨g, 1, none⟩ q).setCell ⟨g, 2, none⟩ r).cell? ⟨w0.heap.size, 0, none⟩ = some x ∧ (((w.setCell ⟨g, 0, none⟩ p).setCell ⟨g, 1, none⟩ q).setCell ⟨g, 2, none⟩ r).cell? ⟨w0.heap.size, 1, none⟩ = some y ∧ (((w.setCell ⟨g, 0, none⟩ p).setCell ⟨g, 1, none⟩ q).setCell ⟨g, 2, none⟩ r).cell? ⟨w0.heap.size, 2, none⟩ = some z :=
  (h.step (B := g) hg (set3_below (Below.refl g w) (Nat.le_refl _) p q r)).2.2
theorem Box3.cells_ad {w0 w : World} {x y z : Value} (h : Box3 w0 x y z w) (o : Obj) : (w.alloc o).drew.cell? ⟨w0.heap.size, 0, none⟩ = some x ∧ (w.alloc o).drew.cell? ⟨w0.heap.size, 1, none⟩ = some y ∧ (w.alloc o).drew.cell? ⟨w0.heap.size, 2, none⟩ = some z := (h.alloc o).drew.2.2
theorem Has3.seto {b c i : Nat} {x y z : Value} {w : World} (h : Has3 b x y z w) (hbc : b ≠ c) (v : Value) : Has3 b x y z (w.setCell ⟨c, i, none⟩ v) := by
  have n : ∀ j, (⟨c, i, none⟩ : Addr) ≠ ⟨b, j, none⟩ := by intro j q; injection q with q1; exact hbc q1.symm
  obtain ⟨h0, a0, a1, a2⟩ := h
  exact ⟨by simpa [World.setCell] using h0, by rw [World.cell?_setCell_other (h := n 0)]; exact a0, by rw [World.cell?_setCell_other (h := n 1)]; exact a1, by rw [World.cell?_setCell_other (h := n 2)]; exact a2⟩
theorem Has3.set0 {b : Nat} {x y z : Value} {w : World} (h : Has3 b x y z w) (v : Value) : Has3 b v y z (w.setCell ⟨b, 0, none⟩ v) := by
  have n01 : (⟨b, 0, none⟩ : Addr) ≠ ⟨b, 1, none⟩ := by intro q; injection q with _ q2; cases q2
  have n02 : (⟨b, 0, none⟩ : Addr) ≠ ⟨b, 2, none⟩ := by intro q; injection q with _ q2; cases q2
  obtain ⟨h0, a0, a1, a2⟩ := h
  exact ⟨by simpa [World.setCell] using h0, by rw [World.cell?_setCell_same (h := a0)], by rw [World.cell?_setCell_other (h := n01)]; exact a1, by rw [World.cell?_setCell_other (h := n02)]; exact a2⟩
theorem Own3.seto {b c i : Nat} {x y z : Value} {w : World} (h : Own3 b x y z w) (hbc : b ≠ c) (v : Value) : Own3 b x y z (w.setCell ⟨c, i, none⟩ v) := by
  obtain ⟨h0, f0, f1, f2⟩ := h
  exact ⟨h0.seto hbc v, by rw [World.frozen?_setCell]; exact f0, by rw [World.frozen?_setCell]; exact f1, by rw [World.frozen?_setCell]; exact f2⟩

set_option maxRecDepth 100000 in
set_option maxHeartbeats 4000000 in
theorem whole_r (x : Bool) (y : List UInt8) (z : Nat) (far : Bool) (w : World) (h : Dm.May ⟨x, y, z⟩) (hfz : 0 < z ∨ far = false) (htab : Pow w) :
    Calls Tryz.prog 47 #[.agg #[.bool x, .string ⟨y.toArray⟩, .int .i64 (z : Int)], .bool far] w fun e w' => ∃ r, e = .returned (tV r) ∧ Dm.Rep (Dm.sgn x (Dm.num y / 10 ^ z + far.toNat)) 0 r ∧ Below w.heap.size w w' := by
  have hS := Box3.start w (.bool x) (.string ⟨y.toArray⟩) (.int .i64 (z : Int)) 23
  have hO := Own3.start (w.alloc (.cells #[.bool x, .string ⟨y.toArray⟩, .int .i64 (z : Int)] 23)) (.bool false) (.string ⟨#[]⟩) (.int .i64 0) 23
  have hsz : (w.alloc (.cells #[.bool x, .string ⟨y.toArray⟩, .int .i64 (z : Int)] 23)).heap.size = w.heap.size + 1 := by simp
  rw [hsz] at hO
  replace hS := hS.alloc (.cells #[.bool false, .string ⟨#[]⟩, .int .i64 0] 23)
  obtain ⟨l1, l2, l3⟩ := may_len h
  simp only at l1 l2 l3
  have hma := dV_may h
  have hsa : (⟨y.toArray⟩ : ByteArray).size ≤ maxLen := by unfold maxLen; rw [mk_size]; omega
  obtain ⟨k, hk⟩ : ∃ k, y.length - z = k := ⟨_, rfl⟩
  have hmax : max 0 ((y.length : Int) - (z : Int)) = (k : Int) := by omega
  have hk0 : (0 : Int) ≤ (k : Int) := by omega
  have hk1 : (k : Int) ≤ (y.length : Int) := by omega
  have hk2 : k ≤ y.length := by omega
  have hw : IntKind.i64.wrap ((y.length : Int) - (z : Int)) = (y.length : Int) - (z : Int) := wrap_id (by omega) (by omega)
  have hW : Dm.num (y.take k) = Dm.num y / 10 ^ z := by
    by_cases g : z ≤ y.length
    · have := (Dm.split_num h.1 k (by omega)).1
      rw [this]
      congr 2
      simp only
      omega
    · have e : k = 0 := by omega
      have hlt := Dm.num_lt h.1
      simp only at hlt
      have hle := Nat.pow_le_pow_right (n := 10) (by omega) (show y.length ≤ z from by omega)
      rw [e, Nat.div_eq_of_lt (by omega)]
      rfl
  have hlt : Dm.num y / 10 ^ z + far.toNat < 10 ^ 60 := Dm.whole_lt h far.toNat (by cases far <;> decide) (by rcases hfz with g | g; exact .inl g; right; rw [g]; rfl)
  obtain ⟨d1, d2, m1, m2, m3⟩ := Dm.rep_ex (ng := x) (n := Dm.num y / 10 ^ z) (by omega)
  have m3' := m3
  rw [← hW] at m3'
  have HFIX := hide m3'
  have HM2 := hide m2
  have HM3 := hide m3
  have HMA := hide hma
  have hd := h.1
  simp only at hd
  clear m3 m3' m2 hma hk hW hsz
  have z0 : True := trivial
  go_enter Tryz.func47, Tryz.ntmps47
  obtain ⟨_, _, a0, a1, a2⟩ := id hS
  go_upto_region 3 with (go_at_call 31; refine (may_b x ⟨y.toArray⟩ z true _ hsa (unhide HMA)).mono ?_; rintro e w1 ⟨rfl, hb1⟩; replace hS := hS.next hb1; replace hO := hO.next hb1; clear a0 a1 a2 hb1)
  obtain ⟨_, _, a0, a1, a2⟩ := id hS
  have hP := htab.next hS.1
  go_cut [6, 7] from 9 to 28 (fun v6 v7 wx => ∃ g : Nat, v6 = .pointer (some ⟨g, 0, none⟩) ∧ v7 = .int .i64 0 ∧ w1.heap.size ≤ g ∧ Below w1.heap.size w1 wx ∧ Has3 g (.bool d1) (.string ⟨d2.toArray⟩) (.int .i64 0) wx)
  case first =>
    have hB : Below w1.heap.size w1 w1.drew := (Below.refl _ _).drew
    go_region_held3 (fun w' => w'.cell? ⟨w.heap.size, 0, none⟩ = some (.bool x) ∧ w'.cell? ⟨w.heap.size, 1, none⟩ = some (.string ⟨y.toArray⟩) ∧ w'.cell? ⟨w.heap.size, 2, none⟩ = some (.int .i64 (z : Int))) (first | with_reducible exact Box3.cells (hS.next hB) | with_reducible exact Box3.cells_a (hS.next hB) _ | with_reducible exact Box3.cells_ad hS _ | with_reducible exact Box3.cells_s (hS.next hB) (Nat.lt_of_lt_of_le (Box3.lt hS) hg) _ _ _)
      (first | (go_at_call 35; first | ((fail_if_success have := hA); refine (decimal_w x y k d1 d2 _ l2 hd HFIX (hP.next hB)).mono ?_; rintro e w' ⟨rfl, hbw⟩; replace hB := hB.trans (hbw.mono hB.size); clear hbw) | ((fail_if_success have := hA); refine (decimal_w x y k d1 d2 _ l2 hd HFIX (hP.next ((Below.refl _ _).alloc (Nat.le_refl _) _).drew)).mono ?_; rintro e w' ⟨rfl, hbw⟩; have hg := Nat.le_refl w1.heap.size; have hA := Own3.next (Own3.next (Own3.start _ (.bool false) (.string ⟨#[]⟩) (.int .i64 0) 23) (Below.refl _ _).drew) hbw; replace hB := (((Below.refl _ _).alloc (Nat.le_refl _) _).drew).trans (hbw.mono (((Below.refl w1.heap.size w1).alloc (Nat.le_refl _) (.cells #[.bool false, .string ⟨#[]⟩, .int .i64 0] 23)).drew).size); obtain ⟨⟨_, k0, k1, k2⟩, f0, f1, f2⟩ := id hA; clear hbw)))
    all_goals
      go_wp2_with fail
      go_meet
      case rel =>
        first
        | exact ⟨_, rfl, rfl, hB.size, hB.alloc hB.size _, Has3.start _ _ _ _ _⟩
        | exact ⟨_, rfl, rfl, hg, set3_below hB hg _ _ _, (hA.store _ _ _).1⟩
  case rest =>
  obtain ⟨g, rfl, rfl, hg, hB, A⟩ := hcut
  have hgw : w.heap.size + 1 < g := Nat.lt_of_lt_of_le hO.1.1 hg
  replace hS := hS.next hB
  replace hO := hO.next hB
  clear a0 a1 a2 hP hB HFIX
  have hP := htab.next hS.1
  cases far with
  | false =>
    obtain ⟨_, _, a0, a1, a2⟩ := id hS
    obtain ⟨⟨_, o0, o1, o2⟩, f0, f1, f2⟩ := id hO
    obtain ⟨_, b0, b1, b2⟩ := id A
    go_wp2_with fail
    refine bodyPost_ret (v := tV (some ⟨d1, d2, 0⟩)) ?_ rfl ⟨some ⟨d1, d2, 0⟩, rfl, ?_, ?_⟩
    · simp [results, Tryz.results47, go_sem, o0, o1, o2, tV, rx, ry, rz, re]
    · exact Dm.Rep.of_eqv m1 (by rw [unhide HM2])
    · exact set3_below hS.1 (by omega) _ _ _
  | true =>
    obtain ⟨_, _, a0, a1, a2⟩ := id hS
    obtain ⟨⟨_, o0, o1, o2⟩, f0, f1, f2⟩ := id hO
    obtain ⟨_, b0, b1, b2⟩ := id A
    go_upto_region 7 with (go_at_call 51; refine (int_one _ hP).mono ?_; rintro e w5 ⟨rfl, hb5⟩; replace hS := hS.next hb5; replace hO := hO.next hb5; replace A := A.next hb5; clear a0 a1 a2 o0 o1 o2 b0 b1 b2 f0 f1 f2)
    have U := Own3.start w5 (.bool false) (.string ⟨#[49]⟩) (.int .i64 0) 23
    have hlt5 : g < w5.heap.size := A.1
    have hAl := (Below.refl w5.heap.size w5).alloc (Nat.le_refl _) (.cells #[.bool false, .string ⟨#[49]⟩, .int .i64 0] 23)
    replace hS := hS.next hAl
    replace hO := hO.next hAl
    replace A := A.next hAl
    generalize hv : w5.alloc (.cells #[.bool false, .string ⟨#[49]⟩, .int .i64 0] 23) = v at *
    clear hAl hv
    obtain ⟨_, _, a0, a1, a2⟩ := id hS
    obtain ⟨⟨_, u0, u1, u2⟩, s0, s1, s2⟩ := id U
    go_upto_region 8 with fail
    clear a0 a1 a2 u0 u1 u2 s0 s1 s2
    have hS8 := hS.step (B := w.heap.size + 1) (by omega) ((Below.refl (w.heap.size + 1) v).setCell (p := ⟨w5.heap.size, 0, none⟩) (by show w.heap.size + 1 ≤ w5.heap.size; omega) (.bool x))
    have hO8 := hO.seto (c := w5.heap.size) (i := 0) (by omega) (.bool x)
    have A8 := A.seto (c := w5.heap.size) (i := 0) (by omega) (.bool x)
    have U8 := U.1.set0 (.bool x)
    generalize hv : v.setCell ⟨w5.heap.size, 0, none⟩ (.bool x) = v8 at *
    clear hv hS hO A U
    obtain ⟨_, _, a0, a1, a2⟩ := id hS8
    obtain ⟨⟨_, o0, o1, o2⟩, f0, f1, f2⟩ := id hO8
    obtain ⟨_, b0, b1, b2⟩ := id A8
    obtain ⟨_, u0, u1, u2⟩ := id U8
    go_wp2_with (go_at_call 68; refine (add_u d1 d2 x _ m1).mono ?_; rintro e w9 ⟨r, rfl, HR, hb9⟩; replace hS8 := hS8.next hb9; replace hO8 := hO8.next hb9; clear a0 a1 a2 o0 o1 o2 b0 b1 b2 f0 f1 f2 u0 u1 u2; obtain ⟨⟨_, o0, o1, o2⟩, f0, f1, f2⟩ := id hO8)
    refine bodyPost_ret (v := tV r) ?_ rfl ⟨r, rfl, ?_, ?_⟩
    · simp [results, Tryz.results47, go_sem, o0, o1, o2, tV]
    · have := unhide HR
      rw [unhide HM2] at this
      have e : Dm.sgn x (Dm.num y / 10 ^ z + true.toNat) = Dm.sgn x (Dm.num y / 10 ^ z) + Dm.sgn x 1 := by
        cases x <;> simp [Dm.sgn] <;> omega
      rw [e]; exact this
    · exact set3_below hS8.1 (by omega) _ _ _
end Go.Proofs.YtmlmplmghlbdmaaGreatDoor

namespace Go.Proofs.YtmlmplmghlbdmaaGreatDoor
open Go.RowKit
set_option linter.unusedVariables false
set_option linter.unusedSimpArgs false

theorem whole_b (x : Bool) (y : List UInt8) (z : Nat) (far : Bool) (w : World) (h : Dm.May ⟨x, y, z⟩) (hfz : 0 < z ∨ far = false) (htab : Pow w) :
    Calls Tryz.prog 47 #[.agg #[.bool x, .string ⟨y.toArray⟩, .int .i64 (z : Int)], .bool far] w fun e w' => ∃ r, e = .returned (.tuple #[.agg #[.bool (rx r), .string (ry r), .int .i64 (rz r)], .int .i64 (re r)]) ∧ Hid (Dm.Rep (Dm.sgn x (Dm.num y / 10 ^ z + far.toNat)) 0 r) ∧ Below w.heap.size w w' := by
  refine (whole_r x y z far w h hfz htab).mono ?_
  rintro e w' ⟨r, rfl, hr, hB⟩
  exact ⟨r, rfl, hide hr, hB⟩
theorem half_b (x : Bool) (y : List UInt8) (z : Nat) (b : Bool) (w : World) (h : Dm.May ⟨x, y, z⟩) (hb : Hid ((decide (0 < z) && (decide (z ≤ y.length) && decide (53 ≤ (y.getD (y.length - z) 0).toNat))) = b)) :
    Calls Tryz.prog 50 #[.agg #[.bool x, .string ⟨y.toArray⟩, .int .i64 (z : Int)]] w fun e w' => e = .returned (.bool b) ∧ Below w.heap.size w w' := by
  have := half_any x y z w h
  rw [unhide hb] at this
  exact this
/-- A decimal that is handed in, and the block of the result. -/
def Pair3 (w0 : World) (x y z : Value) (w : World) : Prop := Box3 w0 x y z w ∧ Own3 (w0.heap.size + 1) (.bool false) (.string ⟨#[]⟩) (.int .i64 0) w
theorem Pair3.start (w : World) (x y z : Value) (t : Nat) : Pair3 w x y z ((w.alloc (.cells #[x, y, z] t)).alloc (.cells #[.bool false, .string ⟨#[]⟩, .int .i64 0] 23)) := by
  refine ⟨(Box3.start w x y z t).alloc _, ?_⟩
  have := Own3.start (w.alloc (.cells #[x, y, z] t)) (.bool false) (.string ⟨#[]⟩) (.int .i64 0) 23
  have hsz : (w.alloc (.cells #[x, y, z] t)).heap.size = w.heap.size + 1 := by simp
  rw [hsz] at this
  exact this
theorem Pair3.next {w0 w w' : World} {x y z : Value} (h : Pair3 w0 x y z w) (hb : Below w.heap.size w w') : Pair3 w0 x y z w' := ⟨h.1.next hb, h.2.next hb⟩
theorem Pair3.drew {w0 w : World} {x y z : Value} (h : Pair3 w0 x y z w) : Pair3 w0 x y z w.drew := h.next (Below.refl _ _).drew
theorem Pair3.cells {w0 w : World} {x y z : Value} (h : Pair3 w0 x y z w) : w.cell? ⟨w0.heap.size, 0, none⟩ = some x ∧ w.cell? ⟨w0.heap.size, 1, none⟩ = some y ∧ w.cell? ⟨w0.heap.size, 2, none⟩ = some z := h.1.2.2
theorem Pair3.out {w0 w : World} {x y z : Value} (h : Pair3 w0 x y z w) : (w.cell? ⟨w0.heap.size + 1, 0, none⟩ = some (.bool false) ∧ w.cell? ⟨w0.heap.size + 1, 1, none⟩ = some (.string ⟨#[]⟩) ∧ w.cell? ⟨w0.heap.size + 1, 2, none⟩ = some (.int .i64 0)) ∧
  (w.frozen? ⟨w0.heap.size + 1, 0, none⟩ = false ∧ w.frozen? ⟨w0.heap.size + 1, 1, none⟩ = false ∧ w.frozen? ⟨w0.heap.size + 1, 2, none⟩ = false) := ⟨h.2.1.2, h.2.2⟩
theorem Pair3.end {w0 w : World} {x y z : Value} (h : Pair3 w0 x y z w) (p q r : Value) : Below w0.heap.size w0 (((w.setCell ⟨w0.heap.size + 1, 0, none⟩ p).setCell ⟨w0.heap.size + 1, 1, none⟩ q).setCell ⟨w0.heap.size + 1, 2, none⟩ r) := set3_below h.1.1 (by omega) p q r
theorem Pair3.cells_s {w0 w : World} {x y z : Value} (h : Pair3 w0 x y z w) (p q r : Value) : (((w.setCell ⟨w0.heap.size + 1, 0, none⟩ p).setCell ⟨w0.heap.size + 1, 1, none⟩ q).setCell ⟨w0.heap.size + 1, 2, none⟩ r).cell? ⟨w0.heap.size, 0, none⟩ = some x ∧ (((w.setCell ⟨w0.heap.size + 1, 0, none⟩ p).setCell ⟨w0.heap.size + 1, 1, none⟩ q).setCell ⟨w0.heap.size + 1, 2, none⟩ r).cell? ⟨w0.heap.size, 1, none⟩ = some y ∧ (((w.setCell ⟨w0.heap.size + 1, 0, none⟩ p).setCell ⟨w0.heap.size + 1, 1, none⟩ q).setCell ⟨w0.heap.size + 1, 2, none⟩ r).cell? ⟨w0.heap.size, 2, none⟩ = some z := Box3.cells_s h.1 (by omega) p q r

set_option maxRecDepth 100000 in
set_option maxHeartbeats 2000000 in
theorem floor_r (x : Bool) (y : List UInt8) (z : Nat) (w : World) (h : Dm.May ⟨x, y, z⟩) (htab : Pow w) :
    Calls Tryz.prog 17 #[.agg #[.bool x, .string ⟨y.toArray⟩, .int .i64 (z : Int)]] w fun e w' => ∃ r, e = .returned (.tuple #[.agg #[.bool (rx r), .string (ry r), .int .i64 (rz r)], .int .i64 (re r)]) ∧ Hid (Dm.Rep (Dm.sgn x (Dm.num y / 10 ^ z + (decide (0 < z) && x).toNat)) 0 r) ∧ Below w.heap.size w w' := by
  have hS := Pair3.start w (.bool x) (.string ⟨y.toArray⟩) (.int .i64 (z : Int)) 23
  have hP := htab.next hS.1.1
  obtain ⟨a0, a1, a2⟩ := hS.cells
  by_cases h0 : 0 < z
  · have g1 : (0 : Int) < (z : Int) := by omega
    have ew : ∀ W, Pow W → _ := fun W hW => whole_b x y z x W h (.inl h0) hW
    have EW := hide ew
    rw [decide_eq_true h0, Bool.true_and]
    go_enter Tryz.func17, Tryz.ntmps17
    go_wp2_with (go_at_call 47; refine (unhide EW _ hP).mono ?_; rintro e w1 ⟨r, rfl, HR, hb⟩; replace hS := hS.next hb; clear a0 a1 a2; obtain ⟨⟨o0, o1, o2⟩, f0, f1, f2⟩ := hS.out)
    exact bodyPost_ret (v := tV r) (by simp [results, Tryz.results17, go_sem, o0, o1, o2, tV]) rfl ⟨r, rfl, HR, hS.end _ _ _⟩
  · have hz : z = 0 := by omega
    subst hz
    have ew : ∀ W, Pow W → _ := fun W hW => whole_b x y 0 false W h (.inr rfl) hW
    have EW := hide ew
    rw [decide_eq_false h0, Bool.false_and]
    go_enter Tryz.func17, Tryz.ntmps17
    go_wp2_with (go_at_call 47; refine (unhide EW _ hP).mono ?_; rintro e w1 ⟨r, rfl, HR, hb⟩; replace hS := hS.next hb; clear a0 a1 a2; obtain ⟨⟨o0, o1, o2⟩, f0, f1, f2⟩ := hS.out)
    exact bodyPost_ret (v := tV r) (by simp [results, Tryz.results17, go_sem, o0, o1, o2, tV]) rfl ⟨r, rfl, HR, hS.end _ _ _⟩
set_option maxRecDepth 100000 in
set_option maxHeartbeats 2000000 in
theorem ceil_r (x : Bool) (y : List UInt8) (z : Nat) (w : World) (h : Dm.May ⟨x, y, z⟩) (htab : Pow w) :
    Calls Tryz.prog 19 #[.agg #[.bool x, .string ⟨y.toArray⟩, .int .i64 (z : Int)]] w fun e w' => ∃ r, e = .returned (.tuple #[.agg #[.bool (rx r), .string (ry r), .int .i64 (rz r)], .int .i64 (re r)]) ∧ Hid (Dm.Rep (Dm.sgn x (Dm.num y / 10 ^ z + (decide (0 < z) && !x).toNat)) 0 r) ∧ Below w.heap.size w w' := by
  have hS := Pair3.start w (.bool x) (.string ⟨y.toArray⟩) (.int .i64 (z : Int)) 23
  have hP := htab.next hS.1.1
  obtain ⟨a0, a1, a2⟩ := hS.cells
  by_cases h0 : 0 < z
  · have g1 : (0 : Int) < (z : Int) := by omega
    have ew : ∀ W, Pow W → _ := fun W hW => whole_b x y z (!x) W h (.inl h0) hW
    have EW := hide ew
    rw [decide_eq_true h0, Bool.true_and]
    go_enter Tryz.func19, Tryz.ntmps19
    go_wp2_with (go_at_call 47; refine (unhide EW _ hP).mono ?_; rintro e w1 ⟨r, rfl, HR, hb⟩; replace hS := hS.next hb; clear a0 a1 a2; obtain ⟨⟨o0, o1, o2⟩, f0, f1, f2⟩ := hS.out)
    exact bodyPost_ret (v := tV r) (by simp [results, Tryz.results19, go_sem, o0, o1, o2, tV]) rfl ⟨r, rfl, HR, hS.end _ _ _⟩
  · have hz : z = 0 := by omega
    subst hz
    have ew : ∀ W, Pow W → _ := fun W hW => whole_b x y 0 false W h (.inr rfl) hW
    have EW := hide ew
    rw [decide_eq_false h0, Bool.false_and]
    go_enter Tryz.func19, Tryz.ntmps19
    go_wp2_with (go_at_call 47; refine (unhide EW _ hP).mono ?_; rintro e w1 ⟨r, rfl, HR, hb⟩; replace hS := hS.next hb; clear a0 a1 a2; obtain ⟨⟨o0, o1, o2⟩, f0, f1, f2⟩ := hS.out)
    exact bodyPost_ret (v := tV r) (by simp [results, Tryz.results19, go_sem, o0, o1, o2, tV]) rfl ⟨r, rfl, HR, hS.end _ _ _⟩
set_option maxRecDepth 100000 in
set_option maxHeartbeats 2000000 in
theorem round_r (x : Bool) (y : List UInt8) (z : Nat) (b : Bool) (w : World) (h : Dm.May ⟨x, y, z⟩) (hb : (decide (0 < z) && (decide (z ≤ y.length) && decide (53 ≤ (y.getD (y.length - z) 0).toNat))) = b) (htab : Pow w) :
    Calls Tryz.prog 21 #[.agg #[.bool x, .string ⟨y.toArray⟩, .int .i64 (z : Int)]] w fun e w' => ∃ r, e = .returned (.tuple #[.agg #[.bool (rx r), .string (ry r), .int .i64 (rz r)], .int .i64 (re r)]) ∧ Hid (Dm.Rep (Dm.sgn x (Dm.num y / 10 ^ z + b.toNat)) 0 r) ∧ Below w.heap.size w w' := by
  have hS := Pair3.start w (.bool x) (.string ⟨y.toArray⟩) (.int .i64 (z : Int)) 23
  have hfz : 0 < z ∨ b = false := by
    by_cases h0 : 0 < z
    · exact .inl h0
    · right; rw [← hb, decide_eq_false h0, Bool.false_and]
  have HB := hide hb
  have EH := hide (fun W => half_b x y z b W h HB)
  have EW := hide (fun W hW => whole_b x y z b W h hfz hW)
  clear hb
  obtain ⟨a0, a1, a2⟩ := hS.cells
  go_enter Tryz.func21, Tryz.ntmps21
  go_wp2_with fail
  go_region_held3 (fun w' => w'.cell? ⟨w.heap.size, 0, none⟩ = some (.bool x) ∧ w'.cell? ⟨w.heap.size, 1, none⟩ = some (.string ⟨y.toArray⟩) ∧ w'.cell? ⟨w.heap.size, 2, none⟩ = some (.int .i64 (z : Int))) (first | exact hS.cells | exact hS.drew.cells | exact Pair3.cells_s hS _ _ _) (first | (go_at_call 50; refine (unhide EH _).mono ?_; rintro e w1 ⟨rfl, hb1⟩; replace hS := Pair3.next (by first | exact hS | exact hS.drew) hb1; clear hb1) | (go_at_call 47; refine (unhide EW _ (htab.next (by first | exact hS.1.1 | exact hS.drew.1.1))).mono ?_; rintro e w2 ⟨r, rfl, HR, hb2⟩; replace hS := Pair3.next (by first | exact hS | exact hS.drew) hb2; clear hb2; obtain ⟨⟨o0, o1, o2⟩, f0, f1, f2⟩ := hS.out))
  all_goals
    go_wp2
    exact bodyPost_ret (v := tV r) (by simp [results, Tryz.results21, go_sem, o0, o1, o2, tV]) rfl ⟨r, rfl, HR, hS.end _ _ _⟩
end Go.Proofs.YtmlmplmghlbdmaaGreatDoor
