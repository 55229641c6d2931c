/- What is proved here: what is left by a decimal, and a product divided by its second, in the words of numbers; conditions: as each theorem states. -/
import Derived.Test.YtmlmplmghlbdmaaGreatDoorMs
set_option linter.unusedSimpArgs false
set_option linter.unusedVariables false
namespace Go.Proofs.YtmlmplmghlbdmaaGreatDoor
namespace Dm

theorem lead_of {d : D} (h : May d) (hne : d.ds ≠ [48]) : noLead d.ds ∧ 0 < num d.ds := by
  obtain ⟨h1, h2, h3, h4⟩ := h
  rcases h4 with ⟨g, _⟩ | ⟨g, _⟩
  · exact absurd g hne
  · exact ⟨g, lead_pos h1 g⟩
theorem zero_of {d : D} (h : May d) (he : d.ds = [48]) : d = ⟨false, [48], 0⟩ := by
  obtain ⟨h1, h2, h3, h4⟩ := h
  cases d with
  | mk ng ds sc =>
    simp only at he h4
    subst he
    rcases h4 with ⟨_, g1, g2⟩ | ⟨⟨c, t, g1, g2⟩, _⟩
    · rw [g1, g2]
    · injection g1 with g1
      exact absurd g1.symm g2
theorem nonneg_of {d : D} (h : May d) (hs : 0 ≤ sg d) : d.ng = false := by
  by_cases he : d.ds = [48]
  · rw [zero_of h he]
  · have := (lead_of h he).2
    unfold sg sgn at hs
    cases hd : d.ng with
    | false => rfl
    | true => rw [hd] at hs; simp at hs; omega
theorem rep_abs {z : Int} {s : Nat} {d : D} (h : Rep z s (some d)) : num d.ds * 10 ^ s = z.natAbs * 10 ^ d.sc := by
  have := congrArg Int.natAbs h.2
  rw [Int.natAbs_mul, Int.natAbs_mul] at this
  simpa [sg, sgn_abs, p10] using this
/-- A product and its second factor: of the first so many noughts. -/
theorem prod_noughts {a b p : D} (ha : May a) (hb : May b) (hp : Rep (sg a * sg b) (a.sc + b.sc) (some p)) (ha0 : a.ds ≠ [48]) (hb0 : b.ds ≠ [48]) :
    p.ng = (a.ng != b.ng) ∧ p.sc ≤ a.sc + b.sc ∧ num p.ds * 10 ^ (a.sc + b.sc - p.sc) = num a.ds * num b.ds ∧ p.ds ≠ [48] := by
  have A0 := (lead_of ha ha0).2
  have B0 := (lead_of hb hb0).2
  have e := rep_abs hp
  have e2 : (sg a * sg b).natAbs = num a.ds * num b.ds := by rw [Int.natAbs_mul]; simp [sg, sgn_abs]
  rw [e2] at e
  have hAB : 0 < num a.ds * num b.ds := Nat.mul_pos A0 B0
  have hP : 0 < num p.ds := by
    rcases Nat.eq_zero_or_pos (num p.ds) with h | h
    · rw [h, Nat.zero_mul] at e
      have := Nat.mul_pos hAB (pow_pos' p.sc)
      omega
    · exact h
  have hp0 : p.ds ≠ [48] := fun h => by rw [h] at hP; exact absurd hP (by decide)
  have hsc : p.sc ≤ a.sc + b.sc := by
    rcases Nat.lt_or_ge (a.sc + b.sc) p.sc with g | g
    · obtain ⟨k, hk⟩ : ∃ k, p.sc = a.sc + b.sc + (k + 1) := ⟨p.sc - (a.sc + b.sc) - 1, by omega⟩
      rw [hk, Nat.pow_add 10 (a.sc + b.sc) (k + 1), Nat.mul_comm (10 ^ (a.sc + b.sc)), ← Nat.mul_assoc] at e
      have e3 := Nat.eq_of_mul_eq_mul_right (pow_pos' _) e
      obtain ⟨m1, m2, m3, m4⟩ := hp.1
      rcases m4 with ⟨g1, _⟩ | ⟨_, g1 | g1⟩
      · exact absurd g1 hp0
      · omega
      · have := tail_mod m1 g1
        rw [e3, Nat.pow_succ, ← Nat.mul_assoc, Nat.mul_mod_left] at this
        exact absurd rfl this
    · exact g
  refine ⟨?_, hsc, ?_, hp0⟩
  · have h2 := hp.2
    have hpp : 0 < p10 (a.sc + b.sc) := p10_pos _
    have hpq : 0 < p10 p.sc := p10_pos _
    unfold sg sgn at h2
    generalize p10 (a.sc + b.sc) = u at h2 hpp
    generalize p10 p.sc = v at h2 hpq
    have hA' : (0 : Int) < (num a.ds : Int) := by omega
    have hB' : (0 : Int) < (num b.ds : Int) := by omega
    have hP' : (0 : Int) < (num p.ds : Int) := by omega
    have x1 : (0 : Int) < (num p.ds : Int) * u := Int.mul_pos hP' hpp
    have x2 : (0 : Int) < (num a.ds : Int) * (num b.ds : Int) * v := Int.mul_pos (Int.mul_pos hA' hB') hpq
    generalize (num p.ds : Int) = P at h2 x1
    generalize (num a.ds : Int) = A at h2 x2
    generalize (num b.ds : Int) = B at h2 x2
    generalize p.ng = u1 at h2 ⊢
    generalize a.ng = u2 at h2 ⊢
    generalize b.ng = u3 at h2 ⊢
    cases u1 <;> cases u2 <;> cases u3 <;> simp only [Bool.false_eq_true, if_false, if_true, Int.neg_mul, Int.mul_neg, Int.neg_neg] at h2 <;> first | rfl | (exfalso; omega)
  · obtain ⟨k, hk⟩ : ∃ k, a.sc + b.sc = p.sc + k := ⟨a.sc + b.sc - p.sc, by omega⟩
    have : a.sc + b.sc - p.sc = k := by omega
    rw [this]
    rw [hk, Nat.pow_add 10 p.sc k, Nat.mul_comm (10 ^ p.sc), ← Nat.mul_assoc] at e
    exact Nat.eq_of_mul_eq_mul_right (pow_pos' _) e
theorem near_none {t r W : Nat} (h : W % 10 ^ t = 0) : nearN t r W 0 = W / 10 ^ t := by
  have hp := pow_pos' (t - 1 + r)
  unfold nearN upN
  rw [h, Nat.zero_mul, Nat.zero_add]
  have e1 : decide (5 * 10 ^ (t - 1 + r) < 0) = false := by rw [decide_eq_false_iff_not]; omega
  have e2 : decide (0 = 5 * 10 ^ (t - 1 + r)) = false := by rw [decide_eq_false_iff_not]; omega
  rw [e1, e2]
  simp
/-- Of a product divided by its second the first is left. -/
theorem div_back {a b p : D} {r : Option D} (ha : May a) (hb : May b) (hb0 : b.ds ≠ [48]) (hp : Rep (sg a * sg b) (a.sc + b.sc) (some p)) (hla : a.ds.length ≤ 34) (hr : DivRep (p.ng != b.ng) p.ds p.sc b.ds b.sc r) : r = some a := by
  obtain ⟨n, t, hn, ht, hr⟩ := hr
  by_cases ha0 : a.ds = [48]
  · have e := zero_of ha ha0
    have e2 := rep_abs hp
    have e3 : (sg a * sg b).natAbs = 0 := by rw [e]; simp [sg, sgn, num, dv]
    rw [e3, Nat.zero_mul] at e2
    have hP : num p.ds = 0 := by
      rcases Nat.eq_zero_or_pos (num p.ds) with h | h
      · exact h
      · have := Nat.mul_pos h (pow_pos' (a.sc + b.sc)); omega
    rw [hP, Nat.zero_mul, Nat.zero_div, Nat.zero_mod, near_none (Nat.zero_mod _), Nat.zero_div, sgn_zero, Int.zero_mul] at hr
    rw [hr.uniq (zero_rep _), ← e]
  · obtain ⟨q1, q2, q3, q4⟩ := prod_noughts ha hb hp ha0 hb0
    obtain ⟨k, hk⟩ : ∃ k, a.sc + b.sc = p.sc + k := ⟨a.sc + b.sc - p.sc, by omega⟩
    rw [show a.sc + b.sc - p.sc = k from by omega] at q3
    obtain ⟨la, A0⟩ := lead_of ha ha0
    obtain ⟨lb, B0⟩ := lead_of hb hb0
    obtain ⟨lp, P0⟩ := lead_of hp.1 q4
    have hA : num a.ds < 10 ^ 34 := by
      have h1 := num_lt ha.1
      have h2 := Nat.pow_le_pow_right (n := 10) (by omega) hla
      omega
    have hB := num_lt hb.1
    have hP : 10 ^ (p.ds.length - 1) ≤ num p.ds := by
      obtain ⟨c, u, e, hc⟩ := lp
      have h1 := hp.1.1
      rw [e] at h1 ⊢
      exact num_ge (allD_cons.1 h1).1 hc
    have hlp : 1 ≤ p.ds.length := by
      obtain ⟨c, u, e, hc⟩ := lp
      rw [e]; simp
    have hkn : k ≤ n := by
      have h1 : 10 ^ (p.ds.length - 1) * 10 ^ k ≤ num p.ds * 10 ^ k := Nat.mul_le_mul_right _ hP
      have h2 : num a.ds * num b.ds < 10 ^ 34 * 10 ^ b.ds.length := Nat.mul_lt_mul_of_lt_of_le hA (by omega) (by have := pow_pos' b.ds.length; omega)
      rw [q3, ← Nat.pow_add] at h1
      rw [← Nat.pow_add] at h2
      have h3 : 10 ^ (p.ds.length - 1 + k) < 10 ^ (34 + b.ds.length) := by omega
      have := (Nat.pow_lt_pow_iff_right (a := 10) (by omega)).1 h3
      omega
    obtain ⟨m, hm⟩ : ∃ m, n = k + m := ⟨n - k, by omega⟩
    have hX : num p.ds * 10 ^ n = num a.ds * 10 ^ m * num b.ds := by
      rw [hm, Nat.pow_add, ← Nat.mul_assoc, q3, Nat.mul_right_comm]
    have hW : num p.ds * 10 ^ n / num b.ds = num a.ds * 10 ^ m := by rw [hX]; exact Nat.mul_div_cancel _ B0
    have hR : num p.ds * 10 ^ n % num b.ds = 0 := by rw [hX]; exact Nat.mul_mod_left _ _
    rw [hW] at ht
    rw [hW, hR] at hr
    have htm : t ≤ m ∧ 1 ≤ t := by
      rcases ht with ⟨h1, _⟩ | ⟨h1, h2, h3⟩
      · have := Nat.mul_pos A0 (pow_pos' m); omega
      · have h4 : num a.ds * 10 ^ m < 10 ^ 34 * 10 ^ m := (Nat.mul_lt_mul_right (pow_pos' m)).2 hA
        rw [← Nat.pow_add] at h4
        have h5 : 10 ^ (t + 33) < 10 ^ (34 + m) := by omega
        have := (Nat.pow_lt_pow_iff_right (a := 10) (by omega)).1 h5
        omega
    obtain ⟨j, hj⟩ : ∃ j, m = j + t := ⟨m - t, by omega⟩
    have hW2 : num a.ds * 10 ^ m = num a.ds * 10 ^ j * 10 ^ t := by rw [hj, Nat.pow_add, Nat.mul_assoc]
    rw [hW2, near_none (Nat.mul_mod_left _ _), Nat.mul_div_cancel _ (pow_pos' t), q1] at hr
    have hx : ((a.ng != b.ng) != b.ng) = a.ng := by cases a.ng <;> cases b.ng <;> rfl
    rw [hx, sgn_mul] at hr
    refine hr.uniq (Rep.of_eqv ha ?_)
    have e1 : ((10 ^ j : Nat) : Int) = p10 j := rfl
    rw [e1, show sgn a.ng (num a.ds) = sg a from rfl, Int.mul_assoc, Int.mul_assoc, ← p10_add, ← p10_add]
    congr 2
    omega
/-- What is left of a product by the first is nothing, if the second is a whole number. -/
theorem mod_back {a b p : D} {n : Nat} {r : Option D} (ha : May a) (hb : May b) (ha0 : a.ds ≠ [48]) (hb0 : b.ds ≠ [48]) (hs : b.sc = 0) (hp : Rep (sg a * sg b) (a.sc + b.sc) (some p)) (hn : max (p.sc : Int) (a.sc : Int) = (n : Int))
    (hr : Rep (sgn p.ng ((num p.ds * 10 ^ (n - p.sc)) % (num a.ds * 10 ^ (n - a.sc)))) n r) : r = some ⟨false, [48], 0⟩ := by
  obtain ⟨q1, q2, q3, q4⟩ := prod_noughts ha hb hp ha0 hb0
  rw [hs, Nat.add_zero] at q2 q3
  have hna : n = a.sc := by omega
  subst hna
  rw [q3, Nat.sub_self, Nat.pow_zero, Nat.mul_one, Nat.mul_mod_right] at hr
  exact rep_zero hr
/-- What is left is nearer to 0 than the second. -/
theorem mod_less {a b m : D} {x : Bool} {n : Nat} (hb : May b) (hb0 : 0 < num b.ds) (hn : max (a.sc : Int) (b.sc : Int) = (n : Int)) (hr : Rep (sgn x ((num a.ds * 10 ^ (n - a.sc)) % (num b.ds * 10 ^ (n - b.sc)))) n (some m)) :
    num m.ds * 10 ^ b.sc < num b.ds * 10 ^ m.sc := by
  have e := rep_abs hr
  rw [sgn_abs] at e
  have hY : 0 < num b.ds * 10 ^ (n - b.sc) := Nat.mul_pos hb0 (pow_pos' _)
  have hl := Nat.mod_lt (num a.ds * 10 ^ (n - a.sc)) hY
  have h1 : num m.ds * 10 ^ n < num b.ds * 10 ^ (n - b.sc) * 10 ^ m.sc := by
    rw [e]; exact (Nat.mul_lt_mul_right (pow_pos' _)).2 hl
  have h2 : num m.ds * 10 ^ n = num m.ds * 10 ^ b.sc * 10 ^ (n - b.sc) := by
    rw [Nat.mul_assoc, ← Nat.pow_add]; congr 2; omega
  rw [h2, Nat.mul_right_comm (num b.ds)] at h1
  exact (Nat.mul_lt_mul_right (pow_pos' _)).1 h1
theorem mod_sign {a b m : D} {n : Nat} (hr : Rep (sgn a.ng ((num a.ds * 10 ^ (n - a.sc)) % (num b.ds * 10 ^ (n - b.sc)))) n (some m)) (h0 : m.ds ≠ [48]) : m.ng = a.ng := by
  have hm := (lead_of hr.1 h0).2
  have h2 := hr.2
  have hpp : 0 < p10 n := p10_pos _
  have hpq : 0 < p10 m.sc := p10_pos _
  unfold sg sgn at h2
  have hM : (0 : Int) < (num m.ds : Int) := by omega
  have x1 : (0 : Int) < (num m.ds : Int) * p10 n := Int.mul_pos hM hpp
  have x2 : (0 : Int) ≤ (((num a.ds * 10 ^ (n - a.sc)) % (num b.ds * 10 ^ (n - b.sc)) : Nat) : Int) * p10 m.sc := Int.mul_nonneg (by omega) (by omega)
  generalize m.ng = u1 at h2 ⊢
  generalize a.ng = u2 at h2 ⊢
  cases u1 <;> cases u2 <;> simp only [Bool.false_eq_true, if_false, if_true, Int.neg_mul] at h2 <;> first | rfl | (exfalso; omega)

/-- A decimal not below 0, with N digits behind the point. -/
def atN (d : D) (N : Nat) : Nat := num d.ds * 10 ^ (N - d.sc)
theorem atN_of {z s N : Nat} {d : D} (h : num d.ds * 10 ^ s = z * 10 ^ d.sc) (h1 : s ≤ N) (h2 : d.sc ≤ N) : atN d N = z * 10 ^ (N - s) := by
  unfold atN
  have e : num d.ds * 10 ^ (N - d.sc) * 10 ^ (s + d.sc) = z * 10 ^ (N - s) * 10 ^ (s + d.sc) := by
    rw [Nat.mul_assoc, Nat.mul_assoc, ← Nat.pow_add, ← Nat.pow_add]
    have a1 : N - d.sc + (s + d.sc) = s + N := by omega
    have a2 : N - s + (s + d.sc) = d.sc + N := by omega
    rw [a1, a2, Nat.pow_add, Nat.pow_add, ← Nat.mul_assoc, ← Nat.mul_assoc, h]
  exact Nat.eq_of_mul_eq_mul_right (pow_pos' _) e
theorem mod_up {a b : D} {n N : Nat} {r : Option D} (ha : a.sc ≤ n) (hb : b.sc ≤ n) (hN : n ≤ N) : Rep (sgn false ((num a.ds * 10 ^ (n - a.sc)) % (num b.ds * 10 ^ (n - b.sc)))) n r ↔ Rep ((atN a N % atN b N : Nat) : Int) N r := by
  obtain ⟨k, hk⟩ : ∃ k, N = n + k := ⟨N - n, by omega⟩
  have e1 : atN a N = num a.ds * 10 ^ (n - a.sc) * 10 ^ k := by
    unfold atN; rw [Nat.mul_assoc, ← Nat.pow_add]; congr 2; omega
  have e2 : atN b N = num b.ds * 10 ^ (n - b.sc) * 10 ^ k := by
    unfold atN; rw [Nat.mul_assoc, ← Nat.pow_add]; congr 2; omega
  have e3 : ((atN a N % atN b N : Nat) : Int) = sgn false ((num a.ds * 10 ^ (n - a.sc)) % (num b.ds * 10 ^ (n - b.sc))) * p10 k := by
    rw [e1, e2, Nat.mul_mod_mul_right, Int.natCast_mul]
    rfl
  rw [e3, hk]
  exact (Rep.up k).symm
/-- What is left by b goes round. -/
theorem steps_spec {a b m t s : D} {n c : Nat} (ha : May a) (hb : May b) (hna : a.ng = false) (hnb : b.ng = false) (hb0 : b.ds ≠ [48]) (hn : max (a.sc : Int) (b.sc : Int) = (n : Int))
    (hm : Rep (sgn a.ng ((num a.ds * 10 ^ (n - a.sc)) % (num b.ds * 10 ^ (n - b.sc)))) n (some m)) (ht : Rep (sg b * (c : Int)) b.sc (some t)) (hs : Rep (sg a * p10 t.sc + sg t * p10 a.sc) (a.sc + t.sc) (some s)) :
    s.ng = false ∧ m.ng = false ∧ (∀ (n' : Nat) r, max (s.sc : Int) (b.sc : Int) = (n' : Int) → Rep (sgn s.ng ((num s.ds * 10 ^ (n' - s.sc)) % (num b.ds * 10 ^ (n' - b.sc)))) n' r → r = some m) ∧
    (∀ (n' : Nat) r, max (m.sc : Int) (b.sc : Int) = (n' : Int) → Rep (sgn m.ng ((num m.ds * 10 ^ (n' - m.sc)) % (num b.ds * 10 ^ (n' - b.sc)))) n' r → r = some m) ∧
    num m.ds * 10 ^ b.sc < num b.ds * 10 ^ m.sc ∧ num m.ds * 10 ^ a.sc ≤ num a.ds * 10 ^ m.sc := by
  have B0 := (lead_of hb hb0).2
  have eb : sg b = (num b.ds : Int) := by unfold sg sgn; rw [hnb]; rfl
  have ea : sg a = (num a.ds : Int) := by unfold sg sgn; rw [hna]; rfl
  have hpos : ∀ {z : Int} {k : Nat} {d : D}, Rep z k (some d) → 0 ≤ z → 0 ≤ sg d := by
    intro z k d h hz
    have h2 := h.2
    have h3 : 0 ≤ z * p10 d.sc := Int.mul_nonneg hz (by have := p10_pos d.sc; omega)
    rcases Int.lt_or_le (sg d) 0 with g | g
    · have := Int.mul_neg_of_neg_of_pos g (p10_pos k)
      omega
    · exact g
  have hm0 : m.ng = false := nonneg_of hm.1 (hpos hm (by rw [hna]; exact Int.natCast_nonneg _))
  have ht0 : 0 ≤ sg t := hpos ht (by rw [eb]; exact Int.mul_nonneg (by omega) (by omega))
  have htn : t.ng = false := nonneg_of ht.1 ht0
  have et : sg t = (num t.ds : Int) := by unfold sg sgn; rw [htn]; rfl
  have hsv : sg a * p10 t.sc + sg t * p10 a.sc = ((num a.ds * 10 ^ t.sc + num t.ds * 10 ^ a.sc : Nat) : Int) := by
    rw [ea, et]; unfold p10; rw [Int.natCast_add, Int.natCast_mul, Int.natCast_mul]
  rw [hsv] at hs
  have hsn : s.ng = false := nonneg_of hs.1 (hpos hs (by omega))
  have es := rep_abs hs
  rw [Int.natAbs_natCast] at es
  have et2 := rep_abs ht
  rw [eb, ← Int.natCast_mul, Int.natAbs_natCast] at et2
  rw [hna] at hm
  have em := rep_abs hm
  rw [sgn_abs] at em
  obtain ⟨N, hN⟩ : ∃ N, N = n + a.sc + b.sc + t.sc + s.sc + m.sc := ⟨_, rfl⟩
  have aS := atN_of es (N := N) (by omega) (by omega)
  have aT := atN_of et2 (N := N) (by omega) (by omega)
  have aM := atN_of em (N := N) (by omega) (by omega)
  have hS : atN s N = atN a N + atN t N := by
    rw [aS, Nat.add_mul]
    unfold atN
    rw [Nat.mul_assoc, Nat.mul_assoc, ← Nat.pow_add, ← Nat.pow_add]
    congr 3 <;> omega
  have hT : atN t N = atN b N * c := by
    rw [aT]; unfold atN; rw [Nat.mul_right_comm]
  have hmod : atN s N % atN b N = atN a N % atN b N := by rw [hS, hT, Nat.add_mul_mod_self_left]
  have hmN := (mod_up (a := a) (b := b) (n := n) (N := N) (by omega) (by omega) (by omega)).1 hm
  have hM : atN m N = atN a N % atN b N := by
    have := rep_abs hmN
    rw [Int.natAbs_natCast] at this
    have := atN_of this (N := N) (Nat.le_refl _) (by omega)
    rw [this, Nat.sub_self, Nat.pow_zero, Nat.mul_one]
  have hBN : 0 < atN b N := Nat.mul_pos B0 (pow_pos' _)
  refine ⟨hsn, hm0, ?_, ?_, mod_less hb B0 hn hm, ?_⟩
  · intro n' r hn' hr
    rw [hsn] at hr
    have := (mod_up (a := s) (b := b) (n := n') (N := N) (by omega) (by omega) (by omega)).1 hr
    rw [hmod] at this
    exact this.uniq hmN
  · intro n' r hn' hr
    rw [hm0] at hr
    have := (mod_up (a := m) (b := b) (n := n') (N := N) (by omega) (by omega) (by omega)).1 hr
    rw [hM, Nat.mod_mod] at this
    exact this.uniq hmN
  · have h1 : atN m N ≤ atN a N := by rw [hM]; exact Nat.mod_le _ _
    unfold atN at h1
    have h2 : num m.ds * 10 ^ (N - m.sc) * 10 ^ (a.sc + m.sc) ≤ num a.ds * 10 ^ (N - a.sc) * 10 ^ (a.sc + m.sc) := Nat.mul_le_mul_right _ h1
    rw [Nat.mul_assoc, Nat.mul_assoc, ← Nat.pow_add, ← Nat.pow_add, show N - m.sc + (a.sc + m.sc) = a.sc + N from by omega, show N - a.sc + (a.sc + m.sc) = m.sc + N from by omega, Nat.pow_add, Nat.pow_add, ← Nat.mul_assoc, ← Nat.mul_assoc] at h2
    exact Nat.le_of_mul_le_mul_right h2 (pow_pos' N)
end Dm
end Go.Proofs.YtmlmplmghlbdmaaGreatDoor
