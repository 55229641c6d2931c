/- What is proved here: what a row of digits and a scale come to when they are written out and parsed; conditions: as each theorem states. What is proved here: how a quotient is rounded to 34 digits, as package divide does it, in the words of numbers; conditions: as each theorem states. What is proved here: the quotient of package divide in the words of numbers: its digits, its sign, and that of a product the first is left; conditions: as each theorem states. What is proved here: what is left by a decimal, and a product divided by its second, in the words of numbers; conditions: as each theorem states. What is proved here: how a quotient is rounded, whatever number of digits it was divided to; conditions: as each theorem states. -/
import Derived.Test.YtmlmplmghlbdmaaGreatDoorMh
set_option linter.unusedSimpArgs false
set_option linter.unusedVariables false
namespace Go.Proofs.YtmlmplmghlbdmaaGreatDoor
namespace Dm

/-- The digits with noughts ahead, and behind. -/
def padD (T : List UInt8) (sc : Int) : List UInt8 := List.replicate (sc + 1 - T.length).toNat 48 ++ T ++ List.replicate (-sc).toNat 48
/-- How many of them stand ahead of the point. -/
def ptD (T : List UInt8) (sc : Int) : Nat := (padD T sc).length - sc.toNat
/-- All of it as a text. -/
def textD (ng : Bool) (T : List UInt8) (sc : Int) : List UInt8 := (if ng then [45] else []) ++ ((padD T sc).take (ptD T sc) ++ 46 :: ((padD T sc).drop (ptD T sc) ++ [48]))
theorem padD_len (T : List UInt8) (sc : Int) : (padD T sc).length = (sc + 1 - T.length).toNat + T.length + (-sc).toNat := by
  unfold padD; rw [List.length_append, List.length_append, List.length_replicate, List.length_replicate]
theorem ptD_bd (T : List UInt8) (sc : Int) (h : T ≠ []) : 1 ≤ ptD T sc ∧ ptD T sc ≤ (padD T sc).length ∧ (padD T sc).length - ptD T sc = sc.toNat := by
  have hT : 1 ≤ T.length := by
    cases T with
    | nil => exact absurd rfl h
    | cons => simp
  unfold ptD; rw [padD_len]; omega
theorem padD_num (T : List UInt8) (sc : Int) : num (padD T sc) = num T * 10 ^ (-sc).toNat := by
  unfold padD; rw [num_append_zeros, num_zeros_append]
theorem padD_allD {T : List UInt8} {sc : Int} (h : allD T) : allD (padD T sc) :=
  allD_append.2 ⟨allD_append.2 ⟨allD_zeros _, h⟩, allD_zeros _⟩
theorem text_parse (ng : Bool) {T : List UInt8} {sc : Int} (hd : allD T) (hl : noLead T) : ∃ r, parseL (textD ng T sc) = some r ∧ Rep (sgn ng (num T) * p10 (-sc).toNat) sc.toNat r := by
  have hne : T ≠ [] := noLead_ne hl
  obtain ⟨b1, b2, b3⟩ := ptD_bd T sc hne
  have hG := padD_allD (sc := sc) hd
  have hn := padD_num T sc
  have hlen := padD_len T sc
  have hw : allD ((padD T sc).take (ptD T sc)) := fun c hc => hG c (List.mem_of_mem_take hc)
  have hp : allD ((padD T sc).drop (ptD T sc) ++ [48]) := allD_append.2 ⟨fun c hc => hG c (List.mem_of_mem_drop hc), fun c hc => by simp at hc; rw [hc]; rfl⟩
  have h1 : (padD T sc).take (ptD T sc) ≠ [] := by
    intro e
    have := congrArg List.length e
    rw [List.length_take, List.length_nil] at this
    omega
  have h2 : ((padD T sc).take (ptD T sc)).length = 1 ∨ ((padD T sc).take (ptD T sc)).headD 0 ≠ 48 := by
    by_cases g : (T.length : Int) ≤ sc
    · left
      have e : ptD T sc = 1 := by unfold ptD; omega
      rw [List.length_take]; omega
    · right
      obtain ⟨c, t, e, hc⟩ := hl
      have ez : (sc + 1 - (T.length : Int)).toNat = 0 := by omega
      have : padD T sc = T ++ List.replicate (-sc).toNat 48 := by unfold padD; rw [ez]; rfl
      obtain ⟨m, hm⟩ : ∃ m, ptD T sc = m + 1 := ⟨ptD T sc - 1, by omega⟩
      rw [hm, this, e]
      exact hc
  have h3 : (padD T sc).drop (ptD T sc) ++ [48] ≠ [] := by simp
  refine ⟨_, by unfold textD; rw [parse_sign ng hw h1]; exact parseU_point hw hp h1 h2 h3, ?_⟩
  have hr := fit_rep ng (allD_append.2 ⟨hw, hp⟩) ((((padD T sc).drop (ptD T sc) ++ [48]).length : Nat) : Int)
  have e1 : (padD T sc).take (ptD T sc) ++ ((padD T sc).drop (ptD T sc) ++ [48]) = padD T sc ++ List.replicate 1 48 := by
    rw [← List.append_assoc, List.take_append_drop]; rfl
  have e2 : ((padD T sc).drop (ptD T sc) ++ [48]).length = sc.toNat + 1 := by
    rw [List.length_append, List.length_drop, b3]; rfl
  rw [e2] at hr ⊢
  rw [e1, num_append_zeros, hn] at hr
  rw [e1]
  rw [show (-((sc.toNat + 1 : Nat) : Int)).toNat = 0 from by omega, p10_zero, Int.mul_one, Int.toNat_natCast, sgn_mul, sgn_mul] at hr
  exact (Rep.up 1).1 hr
end Dm
end Go.Proofs.YtmlmplmghlbdmaaGreatDoor

set_option linter.unusedSimpArgs false
set_option linter.unusedVariables false
namespace Go.Proofs.YtmlmplmghlbdmaaGreatDoor
namespace Dm

/-- More than "5", as texts are ordered. -/
def gt5 : List UInt8 → Bool
  | [] => false
  | a :: x => decide (53 < a.toNat) || (decide (a.toNat = 53) && !x.isEmpty)

theorem tr_cases (B : List UInt8) : ∃ K j, B = K ++ List.replicate j 48 ∧ tr B = K ∧ (K = [] ∨ noTail K) := by
  refine ⟨tr B, _, tr_spec B, rfl, ?_⟩
  by_cases h : tr B = []
  · exact .inl h
  · exact .inr (tr_tail B h)
theorem num_snoc_pos {l : List UInt8} (hd : allD l) (h : noTail l) : 0 < num l := by
  have := tail_mod hd h
  omega
theorem noTail_tail {c : UInt8} {l : List UInt8} (h : noTail (c :: l)) : l = [] ∨ noTail l := by
  obtain ⟨t, d, e, hd⟩ := h
  cases t with
  | nil => left; injection e
  | cons a t => right; injection e with _ e; exact ⟨t, d, e, hd⟩

/-- What stands behind the digits that are kept, against a half. -/
theorem half_spec {B : List UInt8} (hd : allD B) (hne : B ≠ []) :
    gt5 (tr B) = decide (5 * 10 ^ (B.length - 1) < num B) ∧ (tr B == [53]) = decide (num B = 5 * 10 ^ (B.length - 1)) := by
  obtain ⟨K, j, rfl, hK, ht⟩ := tr_cases B
  rw [hK]
  have hdK := (allD_append.1 hd).1
  cases K with
  | nil =>
    have hp := pow_pos' (([] ++ List.replicate j (48 : UInt8)).length - 1)
    rw [num_append_zeros, num_nil, Nat.zero_mul]
    refine ⟨?_, ?_⟩
    · rw [show gt5 [] = false from rfl]; symm; rw [decide_eq_false_iff_not]; omega
    · rw [show (([] : List UInt8) == [53]) = false from rfl]; symm; rw [decide_eq_false_iff_not]; omega
  | cons k K =>
    rw [num_append_zeros]
    have hl : (k :: K ++ List.replicate j 48).length - 1 = K.length + j := by simp
    rw [hl, Nat.pow_add, ← Nat.mul_assoc]
    have hp := pow_pos' j
    have e1 : (5 * 10 ^ K.length * 10 ^ j < num (k :: K) * 10 ^ j) ↔ (5 * 10 ^ K.length < num (k :: K)) := Nat.mul_lt_mul_right hp
    have e2 : (num (k :: K) * 10 ^ j = 5 * 10 ^ K.length * 10 ^ j) ↔ (num (k :: K) = 5 * 10 ^ K.length) := ⟨fun h => Nat.eq_of_mul_eq_mul_right hp h, fun h => by rw [h]⟩
    rw [allD_cons] at hdK
    have hk := isD_iff.1 hdK.1
    have hlt := num_lt hdK.2
    have hpp := pow_pos' K.length
    have hn := num_cons k K
    have hcase : K = [] ∨ 0 < num K := by
      rcases ht with h | h
      · cases h
      · rcases noTail_tail h with h | h
        · exact .inl h
        · exact .inr (num_snoc_pos hdK.2 h)
    have q5 : (k :: K == [53]) = (decide (k.toNat = 53) && K.isEmpty) := by
      cases K with
      | nil =>
        by_cases h : k = 53
        · subst h; rfl
        · have : k.toNat ≠ 53 := fun e => h (UInt8.toNat_inj.1 (by simpa using e))
          simp [h, this]
      | cons a b => simp
    rw [q5]
    have f1 : decide (5 * 10 ^ K.length * 10 ^ j < num (k :: K) * 10 ^ j) = decide (5 * 10 ^ K.length < num (k :: K)) := decide_eq_decide.2 e1
    have f2 : decide (num (k :: K) * 10 ^ j = 5 * 10 ^ K.length * 10 ^ j) = decide (num (k :: K) = 5 * 10 ^ K.length) := decide_eq_decide.2 e2
    rw [f1, f2]
    simp only [gt5, hn]
    have dve : dv k = k.toNat - 48 := rfl
    rcases Nat.lt_trichotomy k.toNat 53 with g | g | g
    · have h4 : dv k ≤ 4 := by omega
      have : dv k * 10 ^ K.length ≤ 4 * 10 ^ K.length := Nat.mul_le_mul_right _ h4
      have a1 : ¬ 53 < k.toNat := by omega
      have a2 : ¬ k.toNat = 53 := by omega
      have a3 : ¬ 5 * 10 ^ K.length < dv k * 10 ^ K.length + num K := by omega
      have a4 : ¬ dv k * 10 ^ K.length + num K = 5 * 10 ^ K.length := by omega
      simp [a1, a2, a3, a4]
    · have h5 : dv k = 5 := by omega
      rw [h5]
      have a1 : ¬ 53 < k.toNat := by omega
      rcases hcase with rfl | hpos
      · simp [g, num_nil]
      · have hKe : K.isEmpty = false := by
          cases K with
          | nil => simp [num_nil] at hpos
          | cons => rfl
        have a3 : 5 * 10 ^ K.length < 5 * 10 ^ K.length + num K := by omega
        have a4 : ¬ 5 * 10 ^ K.length + num K = 5 * 10 ^ K.length := by omega
        simp [a1, g, hKe, a3, a4]
        omega
    · have h6 : 6 ≤ dv k := by omega
      have : 6 * 10 ^ K.length ≤ dv k * 10 ^ K.length := Nat.mul_le_mul_right _ h6
      have a2 : ¬ k.toNat = 53 := by omega
      have a3 : 5 * 10 ^ K.length < dv k * 10 ^ K.length + num K := by omega
      have a4 : ¬ dv k * 10 ^ K.length + num K = 5 * 10 ^ K.length := by omega
      simp [g, a2, a3, a4]

/-- Whether one is added to the digits that are kept: t are dropped, and r stand behind these. -/
def upN (t r W Rn : Nat) : Bool := decide (5 * 10 ^ (t - 1 + r) < W % 10 ^ t * 10 ^ r + Rn) || (decide (W % 10 ^ t * 10 ^ r + Rn = 5 * 10 ^ (t - 1 + r)) && decide (W / 10 ^ t % 2 = 1))
def nearN (t r W Rn : Nat) : Nat := W / 10 ^ t + if upN t r W Rn then 1 else 0
theorem split_num {T : List UInt8} (hd : allD T) (c : Nat) (h : c ≤ T.length) : num (T.take c) = num T / 10 ^ (T.length - c) ∧ num (T.drop c) = num T % 10 ^ (T.length - c) := by
  have e := num_append (T.take c) (T.drop c)
  rw [List.take_append_drop, List.length_drop] at e
  have hl : num (T.drop c) < 10 ^ (T.length - c) := by
    have := num_lt (l := T.drop c) (fun x hx => hd x (List.mem_of_mem_drop hx))
    rwa [List.length_drop] at this
  have hp := pow_pos' (T.length - c)
  constructor
  · rw [e, Nat.mul_comm, Nat.mul_add_div hp, Nat.div_eq_of_lt hl, Nat.add_zero]
  · rw [e, Nat.mul_comm, Nat.mul_add_mod, Nat.mod_eq_of_lt hl]
theorem up_spec {T R : List UInt8} (hT : allD T) (hR : allD R) (c : Nat) (hc : c < T.length) :
    (gt5 (tr (T.drop c ++ R)) || ((tr (T.drop c ++ R) == [53]) && decide (num (T.take c) % 2 = 1))) = upN (T.length - c) R.length (num T) (num R) := by
  obtain ⟨e1, e2⟩ := split_num hT c (by omega)
  have hd : allD (T.drop c ++ R) := allD_append.2 ⟨fun x hx => hT x (List.mem_of_mem_drop hx), hR⟩
  have hne : T.drop c ++ R ≠ [] := by
    intro h
    have := congrArg List.length h
    rw [List.length_append, List.length_drop, List.length_nil] at this
    omega
  obtain ⟨h1, h2⟩ := half_spec hd hne
  rw [h1, h2, e1]
  have hl : (T.drop c ++ R).length - 1 = T.length - c - 1 + R.length := by
    rw [List.length_append, List.length_drop]; omega
  rw [hl, num_append, e2]
  rfl
/-- A row with a nought ahead is no more than a half. -/
theorem lead0_tr {R : List UInt8} : gt5 (tr (48 :: R)) = false ∧ (tr (48 :: R) == [53]) = false := by
  obtain ⟨K, j, e, hK, _⟩ := tr_cases (48 :: R)
  rw [hK]
  cases K with
  | nil => exact ⟨rfl, rfl⟩
  | cons k K =>
    injection e with e1 e2
    subst e1
    exact ⟨by simp [gt5], by simp⟩
theorem lead0 {R : List UInt8} {n : Nat} (hd : allD R) (hl : R.length = n + 1) (h : num R < 10 ^ n) : ∃ R', R = 48 :: R' := by
  cases R with
  | nil => simp at hl
  | cons c R =>
    by_cases hc : c = 48
    · exact ⟨R, by rw [hc]⟩
    · have := num_ge (l := R) (allD_cons.1 hd).1 hc
      simp at hl
      rw [hl] at this
      omega
theorem last_odd {H : List UInt8} {a : List UInt8} {c : UInt8} (hd : allD H) (h : H = a ++ [c]) : decide (num H % 2 = 1) = decide (c.toNat % 2 = 1) := by
  subst h
  have := isD_iff.1 (hd c (by simp))
  rw [num_snoc]
  unfold dv
  congr 1
  apply propext
  constructor <;> intro <;> omega
end Dm
end Go.Proofs.YtmlmplmghlbdmaaGreatDoor

set_option linter.unusedSimpArgs false
set_option linter.unusedVariables false
namespace Go.Proofs.YtmlmplmghlbdmaaGreatDoor
namespace Dm

theorem digits_exist (n : Nat) : ∃ l, allD l ∧ num l = n := by
  induction n using Nat.strongRecOn with
  | ind n ih =>
    by_cases h : n < 10
    · refine ⟨[UInt8.ofNat (48 + n)], ?_, ?_⟩
      · intro c hc
        simp only [List.mem_singleton] at hc
        rw [hc, isD_iff, UInt8.toNat_ofNat']
        omega
      · rw [num_one, dv, UInt8.toNat_ofNat']; omega
    · obtain ⟨l, hl, e⟩ := ih (n / 10) (by omega)
      refine ⟨l ++ [UInt8.ofNat (48 + n % 10)], allD_append.2 ⟨hl, ?_⟩, ?_⟩
      · intro c hc
        simp only [List.mem_singleton] at hc
        rw [hc, isD_iff, UInt8.toNat_ofNat']
        omega
      · rw [num_snoc, e, dv, UInt8.toNat_ofNat']; omega
theorem rep_nat {ng : Bool} {n : Nat} {r : Option D} (h : Rep (sgn ng n) 0 r) (hn : n < 10 ^ 60) (h0 : 0 < n) : ∃ ds, r = some ⟨ng, ds, 0⟩ ∧ May ⟨ng, ds, 0⟩ ∧ num ds = n ∧ noLead ds := by
  obtain ⟨l, hl, e⟩ := digits_exist n
  have hT := tl_allD hl
  have hTn : num (tl l) = n := by rw [tl_num, e]
  have hne : tl l ≠ [] := by
    intro h
    rw [h, num_nil] at hTn
    omega
  have hld := tl_lead l hne
  have hf := fin_rep (ng := ng) (s := 0) hT hld (.inl rfl)
  rw [hTn] at hf
  have hlen : (tl l).length ≤ 60 := by
    obtain ⟨c, t, ec, hc⟩ := hld
    rw [ec] at hT hTn ⊢
    have := num_ge (l := t) (allD_cons.1 hT).1 hc
    rw [hTn] at this
    simp only [List.length_cons]
    rcases Nat.lt_or_ge t.length 60 with g | g
    · omega
    · have := Nat.pow_le_pow_right (n := 10) (by omega) g
      omega
  have e2 : fin ng (tl l) 0 = some ⟨ng, tl l, 0⟩ := by
    unfold fin
    rw [if_neg (by omega)]
  rw [e2] at hf
  exact ⟨tl l, h.uniq hf, hf.1, hTn, hld⟩
theorem rep_zero {ng : Bool} {s : Nat} {r : Option D} (h : Rep (sgn ng 0) s r) : r = some ⟨false, [48], 0⟩ := by
  have : sgn ng 0 = 0 := by unfold sgn; cases ng <;> rfl
  rw [this] at h
  exact h.uniq (zero_rep s)

/-- How many digits are dropped. -/
def DropT (W t : Nat) : Prop := (W = 0 ∧ t = 0) ∨ (1 ≤ t ∧ 10 ^ (t + 33) ≤ W ∧ W < 10 ^ (t + 34))
theorem DropT.uniq {W t t' : Nat} (h : DropT W t) (h' : DropT W t') : t = t' := by
  have key : ∀ a b : Nat, 10 ^ (a + 33) ≤ W → W < 10 ^ (b + 34) → a ≤ b := by
    intro a b h1 h2
    have h3 : 10 ^ (a + 33) < 10 ^ (b + 34) := by omega
    have := (Nat.pow_lt_pow_iff_right (a := 10) (by omega)).1 h3
    omega
  rcases h with ⟨h1, h2⟩ | ⟨h1, h2, h3⟩ <;> rcases h' with ⟨g1, g2⟩ | ⟨g1, g2, g3⟩
  · omega
  · have := pow_pos' (t' + 33); omega
  · have := pow_pos' (t + 33); omega
  · have := key _ _ h2 g3
    have := key _ _ g2 h3
    omega
/-- The quotient: of digits y with z behind the point by y2 with z2. -/
def DivRep (s : Bool) (y : List UInt8) (z : Nat) (y2 : List UInt8) (z2 : Nat) (r : Option D) : Prop :=
  ∃ n t : Nat, (n : Int) = max 0 (35 + (y2.length : Int) - (y.length : Int)) ∧ DropT (num y * 10 ^ n / num y2) t ∧
    Rep (sgn s (nearN t (y2.length + 1) (num y * 10 ^ n / num y2) (num y * 10 ^ n % num y2)) * p10 (-((z : Int) + n - z2 - t)).toNat) ((z : Int) + n - z2 - t).toNat r
theorem DivRep.uniq {s : Bool} {y y2 : List UInt8} {z z2 : Nat} {r r' : Option D} (h : DivRep s y z y2 z2 r) (h' : DivRep s y z y2 z2 r') : r = r' := by
  obtain ⟨n, t, hn, ht, hr⟩ := h
  obtain ⟨n', t', hn', ht', hr'⟩ := h'
  obtain rfl : n = n' := by omega
  obtain rfl := ht.uniq ht'
  exact hr.uniq hr'
/-- The other sign. -/
def turnR : Option D → Option D
  | some d => some (if d.ds = [48] then d else ⟨!d.ng, d.ds, d.sc⟩)
  | none => none
theorem sgn_not (s : Bool) (n : Nat) : sgn (!s) n = - sgn s n := by cases s <;> simp [sgn]
theorem turn_may {d : D} (h : May d) : May (if d.ds = [48] then d else ⟨!d.ng, d.ds, d.sc⟩) := by
  by_cases e : d.ds = [48]
  · rw [if_pos e]; exact h
  · rw [if_neg e]
    obtain ⟨h1, h2, h3, h4⟩ := h
    refine ⟨h1, h2, h3, .inr ?_⟩
    rcases h4 with ⟨g, _⟩ | g
    · exact absurd g e
    · exact g
theorem turn_sg (d : D) : sg (if d.ds = [48] then d else ⟨!d.ng, d.ds, d.sc⟩) = - sg d ∧ (if d.ds = [48] then d else (⟨!d.ng, d.ds, d.sc⟩ : D)).sc = d.sc := by
  by_cases e : d.ds = [48]
  · rw [if_pos e]
    refine ⟨?_, rfl⟩
    unfold sg
    rw [e, show num [48] = 0 from rfl]
    unfold sgn
    cases d.ng <;> rfl
  · rw [if_neg e]
    exact ⟨sgn_not d.ng (num d.ds), rfl⟩
theorem turn_turn {d : D} (e : D) (he : e = if d.ds = [48] then d else ⟨!d.ng, d.ds, d.sc⟩) : (if e.ds = [48] then e else ⟨!e.ng, e.ds, e.sc⟩) = d := by
  by_cases h : d.ds = [48]
  · rw [if_pos h] at he
    subst he
    rw [if_pos h]
  · rw [if_neg h] at he
    subst he
    rw [if_neg h]
    simp
theorem Rep.turn {z : Int} {s : Nat} {r : Option D} (h : Rep z s r) : Rep (-z) s (turnR r) := by
  cases r with
  | none =>
    intro d hd he
    obtain ⟨e1, e2⟩ := turn_sg d
    refine h _ (turn_may hd) ?_
    rw [e1, e2, Int.neg_mul, he, Int.neg_mul, Int.neg_neg]
  | some d =>
    obtain ⟨e1, e2⟩ := turn_sg d
    refine ⟨turn_may h.1, ?_⟩
    rw [e1, e2, Int.neg_mul, h.2, Int.neg_mul]
theorem DivRep.turn {s : Bool} {y y2 : List UInt8} {z z2 : Nat} {r : Option D} (h : DivRep s y z y2 z2 r) : DivRep (!s) y z y2 z2 (turnR r) := by
  obtain ⟨n, t, hn, ht, hr⟩ := h
  refine ⟨n, t, hn, ht, ?_⟩
  rw [sgn_not, Int.neg_mul]
  exact hr.turn
theorem big_quot {y y2 : List UInt8} {n : Nat} (hd : allD y) (hl : noLead y) (hd2 : allD y2) (hn : (n : Int) = max 0 (35 + (y2.length : Int) - (y.length : Int))) (h2 : 0 < num y2) : 10 ^ 34 ≤ num y * 10 ^ n / num y2 := by
  obtain ⟨c, t, e, hc⟩ := hl
  have h1 : 10 ^ t.length ≤ num y := by
    rw [e] at hd ⊢
    exact num_ge (allD_cons.1 hd).1 hc
  have hlen : y.length = t.length + 1 := by rw [e]; rfl
  have h3 := num_lt hd2
  rw [Nat.le_div_iff_mul_le h2]
  have a1 : 10 ^ 34 * num y2 ≤ 10 ^ 34 * 10 ^ y2.length := Nat.mul_le_mul_left _ (by omega)
  have a2 : 10 ^ 34 * 10 ^ y2.length ≤ 10 ^ t.length * 10 ^ n := by
    rw [← Nat.pow_add, ← Nat.pow_add]
    exact Nat.pow_le_pow_right (by omega) (by omega)
  have a3 : 10 ^ t.length * 10 ^ n ≤ num y * 10 ^ n := Nat.mul_le_mul_right _ h1
  omega
end Dm
end Go.Proofs.YtmlmplmghlbdmaaGreatDoor

set_option linter.unusedSimpArgs false
set_option linter.unusedVariables false
namespace Go.Proofs.YtmlmplmghlbdmaaGreatDoor
namespace Dm

theorem lead_of {d : D} (h : May d) (hne : d.ds ≠ [48]) : noLead d.ds ∧ 0 < num d.ds := by
  obtain ⟨h1, h2, h3, h4⟩ := h
  rcases h4 with ⟨g, _⟩ | ⟨g, _⟩
  · exact absurd g hne
  · exact ⟨g, lead_pos h1 g⟩
theorem zero_of {d : D} (h : May d) (he : d.ds = [48]) : d = ⟨false, [48], 0⟩ := by
  obtain ⟨h1, h2, h3, h4⟩ := h
  cases d with
  | mk ng ds sc =>
    simp only at he h4
    subst he
    rcases h4 with ⟨_, g1, g2⟩ | ⟨⟨c, t, g1, g2⟩, _⟩
    · rw [g1, g2]
    · injection g1 with g1
      exact absurd g1.symm g2
theorem nonneg_of {d : D} (h : May d) (hs : 0 ≤ sg d) : d.ng = false := by
  by_cases he : d.ds = [48]
  · rw [zero_of h he]
  · have := (lead_of h he).2
    unfold sg sgn at hs
    cases hd : d.ng with
    | false => rfl
    | true => rw [hd] at hs; simp at hs; omega
theorem rep_abs {z : Int} {s : Nat} {d : D} (h : Rep z s (some d)) : num d.ds * 10 ^ s = z.natAbs * 10 ^ d.sc := by
  have := congrArg Int.natAbs h.2
  rw [Int.natAbs_mul, Int.natAbs_mul] at this
  simpa [sg, sgn_abs, p10] using this
/-- A product and its second factor: of the first so many noughts. -/
theorem prod_noughts {a b p : D} (ha : May a) (hb : May b) (hp : Rep (sg a * sg b) (a.sc + b.sc) (some p)) (ha0 : a.ds ≠ [48]) (hb0 : b.ds ≠ [48]) :
    p.ng = (a.ng != b.ng) ∧ p.sc ≤ a.sc + b.sc ∧ num p.ds * 10 ^ (a.sc + b.sc - p.sc) = num a.ds * num b.ds ∧ p.ds ≠ [48] := by
  have A0 := (lead_of ha ha0).2
  have B0 := (lead_of hb hb0).2
  have e := rep_abs hp
  have e2 : (sg a * sg b).natAbs = num a.ds * num b.ds := by rw [Int.natAbs_mul]; simp [sg, sgn_abs]
  rw [e2] at e
  have hAB : 0 < num a.ds * num b.ds := Nat.mul_pos A0 B0
  have hP : 0 < num p.ds := by
    rcases Nat.eq_zero_or_pos (num p.ds) with h | h
    · rw [h, Nat.zero_mul] at e
      have := Nat.mul_pos hAB (pow_pos' p.sc)
      omega
    · exact h
  have hp0 : p.ds ≠ [48] := fun h => by rw [h] at hP; exact absurd hP (by decide)
  have hsc : p.sc ≤ a.sc + b.sc := by
    rcases Nat.lt_or_ge (a.sc + b.sc) p.sc with g | g
    · obtain ⟨k, hk⟩ : ∃ k, p.sc = a.sc + b.sc + (k + 1) := ⟨p.sc - (a.sc + b.sc) - 1, by omega⟩
      rw [hk, Nat.pow_add 10 (a.sc + b.sc) (k + 1), Nat.mul_comm (10 ^ (a.sc + b.sc)), ← Nat.mul_assoc] at e
      have e3 := Nat.eq_of_mul_eq_mul_right (pow_pos' _) e
      obtain ⟨m1, m2, m3, m4⟩ := hp.1
      rcases m4 with ⟨g1, _⟩ | ⟨_, g1 | g1⟩
      · exact absurd g1 hp0
      · omega
      · have := tail_mod m1 g1
        rw [e3, Nat.pow_succ, ← Nat.mul_assoc, Nat.mul_mod_left] at this
        exact absurd rfl this
    · exact g
  refine ⟨?_, hsc, ?_, hp0⟩
  · have h2 := hp.2
    have hpp : 0 < p10 (a.sc + b.sc) := p10_pos _
    have hpq : 0 < p10 p.sc := p10_pos _
    unfold sg sgn at h2
    generalize p10 (a.sc + b.sc) = u at h2 hpp
    generalize p10 p.sc = v at h2 hpq
    have hA' : (0 : Int) < (num a.ds : Int) := by omega
    have hB' : (0 : Int) < (num b.ds : Int) := by omega
    have hP' : (0 : Int) < (num p.ds : Int) := by omega
    have x1 : (0 : Int) < (num p.ds : Int) * u := Int.mul_pos hP' hpp
    have x2 : (0 : Int) < (num a.ds : Int) * (num b.ds : Int) * v := Int.mul_pos (Int.mul_pos hA' hB') hpq
    generalize (num p.ds : Int) = P at h2 x1
    generalize (num a.ds : Int) = A at h2 x2
    generalize (num b.ds : Int) = B at h2 x2
    generalize p.ng = u1 at h2 ⊢
    generalize a.ng = u2 at h2 ⊢
    generalize b.ng = u3 at h2 ⊢
    cases u1 <;> cases u2 <;> cases u3 <;> simp only [Bool.false_eq_true, if_false, if_true, Int.neg_mul, Int.mul_neg, Int.neg_neg] at h2 <;> first | rfl | (exfalso; omega)
  · obtain ⟨k, hk⟩ : ∃ k, a.sc + b.sc = p.sc + k := ⟨a.sc + b.sc - p.sc, by omega⟩
    have : a.sc + b.sc - p.sc = k := by omega
    rw [this]
    rw [hk, Nat.pow_add 10 p.sc k, Nat.mul_comm (10 ^ p.sc), ← Nat.mul_assoc] at e
    exact Nat.eq_of_mul_eq_mul_right (pow_pos' _) e
theorem near_none {t r W : Nat} (h : W % 10 ^ t = 0) : nearN t r W 0 = W / 10 ^ t := by
  have hp := pow_pos' (t - 1 + r)
  unfold nearN upN
  rw [h, Nat.zero_mul, Nat.zero_add]
  have e1 : decide (5 * 10 ^ (t - 1 + r) < 0) = false := by rw [decide_eq_false_iff_not]; omega
  have e2 : decide (0 = 5 * 10 ^ (t - 1 + r)) = false := by rw [decide_eq_false_iff_not]; omega
  rw [e1, e2]
  simp
/-- Of a product divided by its second the first is left. -/
theorem div_back {a b p : D} {r : Option D} (ha : May a) (hb : May b) (hb0 : b.ds ≠ [48]) (hp : Rep (sg a * sg b) (a.sc + b.sc) (some p)) (hla : a.ds.length ≤ 34) (hr : DivRep (p.ng != b.ng) p.ds p.sc b.ds b.sc r) : r = some a := by
  obtain ⟨n, t, hn, ht, hr⟩ := hr
  by_cases ha0 : a.ds = [48]
  · have e := zero_of ha ha0
    have e2 := rep_abs hp
    have e3 : (sg a * sg b).natAbs = 0 := by rw [e]; simp [sg, sgn, num, dv]
    rw [e3, Nat.zero_mul] at e2
    have hP : num p.ds = 0 := by
      rcases Nat.eq_zero_or_pos (num p.ds) with h | h
      · exact h
      · have := Nat.mul_pos h (pow_pos' (a.sc + b.sc)); omega
    rw [hP, Nat.zero_mul, Nat.zero_div, Nat.zero_mod, near_none (Nat.zero_mod _), Nat.zero_div, sgn_zero, Int.zero_mul] at hr
    rw [hr.uniq (zero_rep _), ← e]
  · obtain ⟨q1, q2, q3, q4⟩ := prod_noughts ha hb hp ha0 hb0
    obtain ⟨k, hk⟩ : ∃ k, a.sc + b.sc = p.sc + k := ⟨a.sc + b.sc - p.sc, by omega⟩
    rw [show a.sc + b.sc - p.sc = k from by omega] at q3
    obtain ⟨la, A0⟩ := lead_of ha ha0
    obtain ⟨lb, B0⟩ := lead_of hb hb0
    obtain ⟨lp, P0⟩ := lead_of hp.1 q4
    have hA : num a.ds < 10 ^ 34 := by
      have h1 := num_lt ha.1
      have h2 := Nat.pow_le_pow_right (n := 10) (by omega) hla
      omega
    have hB := num_lt hb.1
    have hP : 10 ^ (p.ds.length - 1) ≤ num p.ds := by
      obtain ⟨c, u, e, hc⟩ := lp
      have h1 := hp.1.1
      rw [e] at h1 ⊢
      exact num_ge (allD_cons.1 h1).1 hc
    have hlp : 1 ≤ p.ds.length := by
      obtain ⟨c, u, e, hc⟩ := lp
      rw [e]; simp
    have hkn : k ≤ n := by
      have h1 : 10 ^ (p.ds.length - 1) * 10 ^ k ≤ num p.ds * 10 ^ k := Nat.mul_le_mul_right _ hP
      have h2 : num a.ds * num b.ds < 10 ^ 34 * 10 ^ b.ds.length := Nat.mul_lt_mul_of_lt_of_le hA (by omega) (by have := pow_pos' b.ds.length; omega)
      rw [q3, ← Nat.pow_add] at h1
      rw [← Nat.pow_add] at h2
      have h3 : 10 ^ (p.ds.length - 1 + k) < 10 ^ (34 + b.ds.length) := by omega
      have := (Nat.pow_lt_pow_iff_right (a := 10) (by omega)).1 h3
      omega
    obtain ⟨m, hm⟩ : ∃ m, n = k + m := ⟨n - k, by omega⟩
    have hX : num p.ds * 10 ^ n = num a.ds * 10 ^ m * num b.ds := by
      rw [hm, Nat.pow_add, ← Nat.mul_assoc, q3, Nat.mul_right_comm]
    have hW : num p.ds * 10 ^ n / num b.ds = num a.ds * 10 ^ m := by rw [hX]; exact Nat.mul_div_cancel _ B0
    have hR : num p.ds * 10 ^ n % num b.ds = 0 := by rw [hX]; exact Nat.mul_mod_left _ _
    rw [hW] at ht
    rw [hW, hR] at hr
    have htm : t ≤ m ∧ 1 ≤ t := by
      rcases ht with ⟨h1, _⟩ | ⟨h1, h2, h3⟩
      · have := Nat.mul_pos A0 (pow_pos' m); omega
      · have h4 : num a.ds * 10 ^ m < 10 ^ 34 * 10 ^ m := (Nat.mul_lt_mul_right (pow_pos' m)).2 hA
        rw [← Nat.pow_add] at h4
        have h5 : 10 ^ (t + 33) < 10 ^ (34 + m) := by omega
        have := (Nat.pow_lt_pow_iff_right (a := 10) (by omega)).1 h5
        omega
    obtain ⟨j, hj⟩ : ∃ j, m = j + t := ⟨m - t, by omega⟩
    have hW2 : num a.ds * 10 ^ m = num a.ds * 10 ^ j * 10 ^ t := by rw [hj, Nat.pow_add, Nat.mul_assoc]
    rw [hW2, near_none (Nat.mul_mod_left _ _), Nat.mul_div_cancel _ (pow_pos' t), q1] at hr
    have hx : ((a.ng != b.ng) != b.ng) = a.ng := by cases a.ng <;> cases b.ng <;> rfl
    rw [hx, sgn_mul] at hr
    refine hr.uniq (Rep.of_eqv ha ?_)
    have e1 : ((10 ^ j : Nat) : Int) = p10 j := rfl
    rw [e1, show sgn a.ng (num a.ds) = sg a from rfl, Int.mul_assoc, Int.mul_assoc, ← p10_add, ← p10_add]
    congr 2
    omega
/-- What is left of a product by the first is nothing, if the second is a whole number. -/
theorem mod_back {a b p : D} {n : Nat} {r : Option D} (ha : May a) (hb : May b) (ha0 : a.ds ≠ [48]) (hb0 : b.ds ≠ [48]) (hs : b.sc = 0) (hp : Rep (sg a * sg b) (a.sc + b.sc) (some p)) (hn : max (p.sc : Int) (a.sc : Int) = (n : Int))
    (hr : Rep (sgn p.ng ((num p.ds * 10 ^ (n - p.sc)) % (num a.ds * 10 ^ (n - a.sc)))) n r) : r = some ⟨false, [48], 0⟩ := by
  obtain ⟨q1, q2, q3, q4⟩ := prod_noughts ha hb hp ha0 hb0
  rw [hs, Nat.add_zero] at q2 q3
  have hna : n = a.sc := by omega
  subst hna
  rw [q3, Nat.sub_self, Nat.pow_zero, Nat.mul_one, Nat.mul_mod_right] at hr
  exact rep_zero hr
/-- What is left is nearer to 0 than the second. -/
theorem mod_less {a b m : D} {x : Bool} {n : Nat} (hb : May b) (hb0 : 0 < num b.ds) (hn : max (a.sc : Int) (b.sc : Int) = (n : Int)) (hr : Rep (sgn x ((num a.ds * 10 ^ (n - a.sc)) % (num b.ds * 10 ^ (n - b.sc)))) n (some m)) :
    num m.ds * 10 ^ b.sc < num b.ds * 10 ^ m.sc := by
  have e := rep_abs hr
  rw [sgn_abs] at e
  have hY : 0 < num b.ds * 10 ^ (n - b.sc) := Nat.mul_pos hb0 (pow_pos' _)
  have hl := Nat.mod_lt (num a.ds * 10 ^ (n - a.sc)) hY
  have h1 : num m.ds * 10 ^ n < num b.ds * 10 ^ (n - b.sc) * 10 ^ m.sc := by
    rw [e]; exact (Nat.mul_lt_mul_right (pow_pos' _)).2 hl
  have h2 : num m.ds * 10 ^ n = num m.ds * 10 ^ b.sc * 10 ^ (n - b.sc) := by
    rw [Nat.mul_assoc, ← Nat.pow_add]; congr 2; omega
  rw [h2, Nat.mul_right_comm (num b.ds)] at h1
  exact (Nat.mul_lt_mul_right (pow_pos' _)).1 h1
theorem mod_sign {a b m : D} {n : Nat} (hr : Rep (sgn a.ng ((num a.ds * 10 ^ (n - a.sc)) % (num b.ds * 10 ^ (n - b.sc)))) n (some m)) (h0 : m.ds ≠ [48]) : m.ng = a.ng := by
  have hm := (lead_of hr.1 h0).2
  have h2 := hr.2
  have hpp : 0 < p10 n := p10_pos _
  have hpq : 0 < p10 m.sc := p10_pos _
  unfold sg sgn at h2
  have hM : (0 : Int) < (num m.ds : Int) := by omega
  have x1 : (0 : Int) < (num m.ds : Int) * p10 n := Int.mul_pos hM hpp
  have x2 : (0 : Int) ≤ (((num a.ds * 10 ^ (n - a.sc)) % (num b.ds * 10 ^ (n - b.sc)) : Nat) : Int) * p10 m.sc := Int.mul_nonneg (by omega) (by omega)
  generalize m.ng = u1 at h2 ⊢
  generalize a.ng = u2 at h2 ⊢
  cases u1 <;> cases u2 <;> simp only [Bool.false_eq_true, if_false, if_true, Int.neg_mul] at h2 <;> first | rfl | (exfalso; omega)

/-- A decimal not below 0, with N digits behind the point. -/
def atN (d : D) (N : Nat) : Nat := num d.ds * 10 ^ (N - d.sc)
theorem atN_of {z s N : Nat} {d : D} (h : num d.ds * 10 ^ s = z * 10 ^ d.sc) (h1 : s ≤ N) (h2 : d.sc ≤ N) : atN d N = z * 10 ^ (N - s) := by
  unfold atN
  have e : num d.ds * 10 ^ (N - d.sc) * 10 ^ (s + d.sc) = z * 10 ^ (N - s) * 10 ^ (s + d.sc) := by
    rw [Nat.mul_assoc, Nat.mul_assoc, ← Nat.pow_add, ← Nat.pow_add]
    have a1 : N - d.sc + (s + d.sc) = s + N := by omega
    have a2 : N - s + (s + d.sc) = d.sc + N := by omega
    rw [a1, a2, Nat.pow_add, Nat.pow_add, ← Nat.mul_assoc, ← Nat.mul_assoc, h]
  exact Nat.eq_of_mul_eq_mul_right (pow_pos' _) e
theorem mod_up {a b : D} {n N : Nat} {r : Option D} (ha : a.sc ≤ n) (hb : b.sc ≤ n) (hN : n ≤ N) : Rep (sgn false ((num a.ds * 10 ^ (n - a.sc)) % (num b.ds * 10 ^ (n - b.sc)))) n r ↔ Rep ((atN a N % atN b N : Nat) : Int) N r := by
  obtain ⟨k, hk⟩ : ∃ k, N = n + k := ⟨N - n, by omega⟩
  have e1 : atN a N = num a.ds * 10 ^ (n - a.sc) * 10 ^ k := by
    unfold atN; rw [Nat.mul_assoc, ← Nat.pow_add]; congr 2; omega
  have e2 : atN b N = num b.ds * 10 ^ (n - b.sc) * 10 ^ k := by
    unfold atN; rw [Nat.mul_assoc, ← Nat.pow_add]; congr 2; omega
  have e3 : ((atN a N % atN b N : Nat) : Int) = sgn false ((num a.ds * 10 ^ (n - a.sc)) % (num b.ds * 10 ^ (n - b.sc))) * p10 k := by
    rw [e1, e2, Nat.mul_mod_mul_right, Int.natCast_mul]
    rfl
  rw [e3, hk]
  exact (Rep.up k).symm
/-- What is left by b goes round. -/
theorem steps_spec {a b m t s : D} {n c : Nat} (ha : May a) (hb : May b) (hna : a.ng = false) (hnb : b.ng = false) (hb0 : b.ds ≠ [48]) (hn : max (a.sc : Int) (b.sc : Int) = (n : Int))
    (hm : Rep (sgn a.ng ((num a.ds * 10 ^ (n - a.sc)) % (num b.ds * 10 ^ (n - b.sc)))) n (some m)) (ht : Rep (sg b * (c : Int)) b.sc (some t)) (hs : Rep (sg a * p10 t.sc + sg t * p10 a.sc) (a.sc + t.sc) (some s)) :
    s.ng = false ∧ m.ng = false ∧ (∀ (n' : Nat) r, max (s.sc : Int) (b.sc : Int) = (n' : Int) → Rep (sgn s.ng ((num s.ds * 10 ^ (n' - s.sc)) % (num b.ds * 10 ^ (n' - b.sc)))) n' r → r = some m) ∧
    (∀ (n' : Nat) r, max (m.sc : Int) (b.sc : Int) = (n' : Int) → Rep (sgn m.ng ((num m.ds * 10 ^ (n' - m.sc)) % (num b.ds * 10 ^ (n' - b.sc)))) n' r → r = some m) ∧
    num m.ds * 10 ^ b.sc < num b.ds * 10 ^ m.sc ∧ num m.ds * 10 ^ a.sc ≤ num a.ds * 10 ^ m.sc := by
  have B0 := (lead_of hb hb0).2
  have eb : sg b = (num b.ds : Int) := by unfold sg sgn; rw [hnb]; rfl
  have ea : sg a = (num a.ds : Int) := by unfold sg sgn; rw [hna]; rfl
  have hpos : ∀ {z : Int} {k : Nat} {d : D}, Rep z k (some d) → 0 ≤ z → 0 ≤ sg d := by
    intro z k d h hz
    have h2 := h.2
    have h3 : 0 ≤ z * p10 d.sc := Int.mul_nonneg hz (by have := p10_pos d.sc; omega)
    rcases Int.lt_or_le (sg d) 0 with g | g
    · have := Int.mul_neg_of_neg_of_pos g (p10_pos k)
      omega
    · exact g
  have hm0 : m.ng = false := nonneg_of hm.1 (hpos hm (by rw [hna]; exact Int.natCast_nonneg _))
  have ht0 : 0 ≤ sg t := hpos ht (by rw [eb]; exact Int.mul_nonneg (by omega) (by omega))
  have htn : t.ng = false := nonneg_of ht.1 ht0
  have et : sg t = (num t.ds : Int) := by unfold sg sgn; rw [htn]; rfl
  have hsv : sg a * p10 t.sc + sg t * p10 a.sc = ((num a.ds * 10 ^ t.sc + num t.ds * 10 ^ a.sc : Nat) : Int) := by
    rw [ea, et]; unfold p10; rw [Int.natCast_add, Int.natCast_mul, Int.natCast_mul]
  rw [hsv] at hs
  have hsn : s.ng = false := nonneg_of hs.1 (hpos hs (by omega))
  have es := rep_abs hs
  rw [Int.natAbs_natCast] at es
  have et2 := rep_abs ht
  rw [eb, ← Int.natCast_mul, Int.natAbs_natCast] at et2
  rw [hna] at hm
  have em := rep_abs hm
  rw [sgn_abs] at em
  obtain ⟨N, hN⟩ : ∃ N, N = n + a.sc + b.sc + t.sc + s.sc + m.sc := ⟨_, rfl⟩
  have aS := atN_of es (N := N) (by omega) (by omega)
  have aT := atN_of et2 (N := N) (by omega) (by omega)
  have aM := atN_of em (N := N) (by omega) (by omega)
  have hS : atN s N = atN a N + atN t N := by
    rw [aS, Nat.add_mul]
    unfold atN
    rw [Nat.mul_assoc, Nat.mul_assoc, ← Nat.pow_add, ← Nat.pow_add]
    congr 3 <;> omega
  have hT : atN t N = atN b N * c := by
    rw [aT]; unfold atN; rw [Nat.mul_right_comm]
  have hmod : atN s N % atN b N = atN a N % atN b N := by rw [hS, hT, Nat.add_mul_mod_self_left]
  have hmN := (mod_up (a := a) (b := b) (n := n) (N := N) (by omega) (by omega) (by omega)).1 hm
  have hM : atN m N = atN a N % atN b N := by
    have := rep_abs hmN
    rw [Int.natAbs_natCast] at this
    have := atN_of this (N := N) (Nat.le_refl _) (by omega)
    rw [this, Nat.sub_self, Nat.pow_zero, Nat.mul_one]
  have hBN : 0 < atN b N := Nat.mul_pos B0 (pow_pos' _)
  refine ⟨hsn, hm0, ?_, ?_, mod_less hb B0 hn hm, ?_⟩
  · intro n' r hn' hr
    rw [hsn] at hr
    have := (mod_up (a := s) (b := b) (n := n') (N := N) (by omega) (by omega) (by omega)).1 hr
    rw [hmod] at this
    exact this.uniq hmN
  · intro n' r hn' hr
    rw [hm0] at hr
    have := (mod_up (a := m) (b := b) (n := n') (N := N) (by omega) (by omega) (by omega)).1 hr
    rw [hM, Nat.mod_mod] at this
    exact this.uniq hmN
  · have h1 : atN m N ≤ atN a N := by rw [hM]; exact Nat.mod_le _ _
    unfold atN at h1
    have h2 : num m.ds * 10 ^ (N - m.sc) * 10 ^ (a.sc + m.sc) ≤ num a.ds * 10 ^ (N - a.sc) * 10 ^ (a.sc + m.sc) := Nat.mul_le_mul_right _ h1
    rw [Nat.mul_assoc, Nat.mul_assoc, ← Nat.pow_add, ← Nat.pow_add, show N - m.sc + (a.sc + m.sc) = a.sc + N from by omega, show N - a.sc + (a.sc + m.sc) = m.sc + N from by omega, Nat.pow_add, Nat.pow_add, ← Nat.mul_assoc, ← Nat.mul_assoc] at h2
    exact Nat.le_of_mul_le_mul_right h2 (pow_pos' N)
end Dm
end Go.Proofs.YtmlmplmghlbdmaaGreatDoor

set_option linter.unusedSimpArgs false
set_option linter.unusedVariables false
namespace Go.Proofs.YtmlmplmghlbdmaaGreatDoor
namespace Dm

/-- Whether one is added: by the digits that are dropped, and by whether something is left. -/
def upL (t W R : Nat) : Bool := decide (5 * 10 ^ (t - 1) < W % 10 ^ t) || (decide (W % 10 ^ t = 5 * 10 ^ (t - 1)) && (decide (0 < R) || decide (W / 10 ^ t % 2 = 1)))
theorem upN_upL {t r W R : Nat} (ht : 1 ≤ t) (hR : R < 10 ^ r) : upN t r W R = upL t W R := by
  unfold upN upL
  have hp := pow_pos' r
  have e : 5 * 10 ^ (t - 1 + r) = 5 * 10 ^ (t - 1) * 10 ^ r := by rw [Nat.pow_add, Nat.mul_assoc]
  rw [e]
  generalize 5 * 10 ^ (t - 1) = h
  generalize W % 10 ^ t = T
  generalize 10 ^ r = P at *
  rcases Nat.lt_trichotomy T h with g | g | g
  · have h1 : (T + 1) * P ≤ h * P := Nat.mul_le_mul_right _ g
    rw [Nat.add_mul, Nat.one_mul] at h1
    have a1 : ¬ h * P < T * P + R := by omega
    have a2 : ¬ T * P + R = h * P := by omega
    have a3 : ¬ h < T := by omega
    have a4 : ¬ T = h := by omega
    simp [a1, a2, a3, a4]
  · subst g
    by_cases hR0 : R = 0
    · subst hR0
      simp
    · have a1 : T * P < T * P + R := by omega
      have a2 : 0 < R := by omega
      simp [a1, a2]
  · have h1 : (h + 1) * P ≤ T * P := Nat.mul_le_mul_right _ g
    rw [Nat.add_mul, Nat.one_mul] at h1
    have a1 : h * P < T * P + R := by omega
    simp [a1, g]
/-- So many digits more. -/
theorem more_digits {X B k : Nat} (hB : 0 < B) : X * 10 ^ k / B = X / B * 10 ^ k + (X % B) * 10 ^ k / B ∧ X * 10 ^ k % B = (X % B) * 10 ^ k % B ∧ (X % B) * 10 ^ k / B < 10 ^ k := by
  have e : X * 10 ^ k = B * (X / B * 10 ^ k) + (X % B) * 10 ^ k := by
    have h := Nat.div_add_mod X B
    generalize X / B = q at *
    generalize X % B = r at *
    rw [← h, Nat.add_mul, Nat.mul_assoc]
  refine ⟨?_, ?_, ?_⟩
  · rw [e, Nat.mul_add_div hB]
  · rw [e, Nat.mul_add_mod]
  · rw [Nat.div_lt_iff_lt_mul hB, Nat.mul_comm (10 ^ k)]
    exact (Nat.mul_lt_mul_right (pow_pos' k)).2 (Nat.mod_lt _ hB)
theorem up_more {W e R R' t k B : Nat} (ht : 1 ≤ t) (he : e < 10 ^ k) (hR : (0 < R) ↔ (0 < e ∨ 0 < R')) : upL (t + k) (W * 10 ^ k + e) R' = upL t W R ∧ (W * 10 ^ k + e) / 10 ^ (t + k) = W / 10 ^ t := by
  have hk := pow_pos' k
  have htp := pow_pos' t
  have hW := Nat.div_add_mod W (10 ^ t)
  have hml := Nat.mod_lt W htp
  have hT : W % 10 ^ t * 10 ^ k + e < 10 ^ t * 10 ^ k := by
    have : (W % 10 ^ t + 1) * 10 ^ k ≤ 10 ^ t * 10 ^ k := Nat.mul_le_mul_right _ hml
    rw [Nat.add_mul, Nat.one_mul] at this
    omega
  have e1 : W * 10 ^ k + e = 10 ^ (t + k) * (W / 10 ^ t) + (W % 10 ^ t * 10 ^ k + e) := by
    rw [Nat.pow_add]
    generalize W / 10 ^ t = q at *
    generalize W % 10 ^ t = r at *
    generalize 10 ^ t = P at *
    generalize 10 ^ k = K at *
    rw [← hW, Nat.add_mul, Nat.mul_right_comm P q K, Nat.add_assoc]
  have d1 : (W * 10 ^ k + e) / 10 ^ (t + k) = W / 10 ^ t := by
    have hz : (W % 10 ^ t * 10 ^ k + e) / 10 ^ (t + k) = 0 := Nat.div_eq_of_lt (by rw [Nat.pow_add]; exact hT)
    rw [e1, Nat.mul_add_div (pow_pos' _), hz, Nat.add_zero]
  have d2 : (W * 10 ^ k + e) % 10 ^ (t + k) = W % 10 ^ t * 10 ^ k + e := by
    rw [e1, Nat.mul_add_mod, Nat.mod_eq_of_lt (by rw [Nat.pow_add]; exact hT)]
  refine ⟨?_, d1⟩
  unfold upL
  rw [d1, d2]
  have eh : 5 * 10 ^ (t + k - 1) = 5 * 10 ^ (t - 1) * 10 ^ k := by
    rw [Nat.mul_assoc, ← Nat.pow_add]; congr 2; omega
  rw [eh]
  generalize 5 * 10 ^ (t - 1) = h
  generalize W % 10 ^ t = T
  generalize 10 ^ k = P at *
  generalize decide (W / 10 ^ t % 2 = 1) = o
  rcases Nat.lt_trichotomy T h with g | g | g
  · have h1 : (T + 1) * P ≤ h * P := Nat.mul_le_mul_right _ g
    rw [Nat.add_mul, Nat.one_mul] at h1
    have a1 : ¬ h * P < T * P + e := by omega
    have a2 : ¬ T * P + e = h * P := by omega
    have a3 : ¬ h < T := by omega
    have a4 : ¬ T = h := by omega
    simp [a1, a2, a3, a4]
  · subst g
    by_cases he0 : e = 0
    · subst he0
      have : decide (0 < R) = decide (0 < R') := decide_eq_decide.2 ⟨fun h => by rcases hR.1 h with g | g; omega; exact g, fun h => hR.2 (.inr h)⟩
      simp [this]
    · have a1 : T * P < T * P + e := by omega
      have a2 : 0 < R := hR.2 (.inl (by omega))
      simp [a1, a2]
  · have h1 : (h + 1) * P ≤ T * P := Nat.mul_le_mul_right _ g
    rw [Nat.add_mul, Nat.one_mul] at h1
    have a1 : h * P < T * P + e := by omega
    simp [a1, g]
theorem Rep.cross {z1 z2 : Int} {s1 s2 : Nat} {r : Option D} (h : z1 * p10 s2 = z2 * p10 s1) (hr : Rep z1 s1 r) : Rep z2 s2 r := by
  have h1 := (Rep.up s2).2 hr
  rw [h, Nat.add_comm] at h1
  exact (Rep.up s1).1 h1
theorem near_upL {t r W R : Nat} (ht : 1 ≤ t) (hR : R < 10 ^ r) : nearN t r W R = W / 10 ^ t + (upL t W R).toNat := by
  unfold nearN
  rw [upN_upL ht hR]
  cases upL t W R <;> rfl
theorem drop_lt {W t : Nat} (h1 : 10 ^ (t + 33) ≤ W) (h2 : W < 10 ^ (t + 34)) {k e : Nat} (he : e < 10 ^ k) : 10 ^ (t + k + 33) ≤ W * 10 ^ k + e ∧ W * 10 ^ k + e < 10 ^ (t + k + 34) := by
  have p1 : 10 ^ (t + k + 33) = 10 ^ (t + 33) * 10 ^ k := by rw [show t + k + 33 = t + 33 + k from by omega, Nat.pow_add 10 (t + 33) k]
  have p2 : 10 ^ (t + k + 34) = 10 ^ (t + 34) * 10 ^ k := by rw [show t + k + 34 = t + 34 + k from by omega, Nat.pow_add 10 (t + 34) k]
  rw [p1, p2]
  clear p1 p2
  generalize 10 ^ (t + 33) = P at *
  generalize 10 ^ (t + 34) = Q at *
  have a1 : P * 10 ^ k ≤ W * 10 ^ k := Nat.mul_le_mul_right _ h1
  have a2 : (W + 1) * 10 ^ k ≤ Q * 10 ^ k := Nat.mul_le_mul_right _ h2
  rw [Nat.add_mul, Nat.one_mul] at a2
  omega
/-- Rounded behind j noughts it is as it is behind n. -/
theorem div_long {s : Bool} {y y2 : List UInt8} {z z2 j t tn n : Nat} {r : Option D} (hn : (n : Int) = max 0 (35 + (y2.length : Int) - (y.length : Int))) (hB : 0 < num y2) (hd2 : allD y2) (ht : 1 ≤ t)
    (h1 : 10 ^ (t + 33) ≤ num y * 10 ^ j / num y2) (h2 : num y * 10 ^ j / num y2 < 10 ^ (t + 34)) (hdr : DropT (num y * 10 ^ n / num y2) tn) (hbig : 10 ^ 34 ≤ num y * 10 ^ n / num y2)
    (hr : Rep (sgn s (num y * 10 ^ j / num y2 / 10 ^ t + (upL t (num y * 10 ^ j / num y2) (num y * 10 ^ j % num y2)).toNat) * p10 (-((z : Int) - z2 + j - t)).toNat) ((z : Int) - z2 + j - t).toNat r) : DivRep s y z y2 z2 r := by
  refine ⟨n, tn, hn, hdr, ?_⟩
  have hRn : num y * 10 ^ n % num y2 < 10 ^ (y2.length + 1) := by
    have a1 := Nat.mod_lt (num y * 10 ^ n) hB
    have a2 := num_lt hd2
    have a3 : 10 ^ y2.length ≤ 10 ^ (y2.length + 1) := Nat.pow_le_pow_right (by omega) (by omega)
    omega
  have htn : 1 ≤ tn ∧ 10 ^ (tn + 33) ≤ num y * 10 ^ n / num y2 ∧ num y * 10 ^ n / num y2 < 10 ^ (tn + 34) := by
    rcases hdr with ⟨g, _⟩ | g
    · have := pow_pos' 34; omega
    · exact g
  rw [near_upL htn.1 hRn]
  rcases Nat.le_total j n with hjn | hnj
  · obtain ⟨k, hk⟩ : ∃ k, n = j + k := ⟨n - j, by omega⟩
    have e0 : num y * 10 ^ n = num y * 10 ^ j * 10 ^ k := by rw [hk, Nat.pow_add, Nat.mul_assoc]
    obtain ⟨m1, m2, m3⟩ := more_digits (X := num y * 10 ^ j) (k := k) hB
    rw [← e0] at m1 m2
    have hR : 0 < num y * 10 ^ j % num y2 ↔ (0 < num y * 10 ^ j % num y2 * 10 ^ k / num y2 ∨ 0 < num y * 10 ^ n % num y2) := by
      rw [m2]
      have hdm := Nat.div_add_mod (num y * 10 ^ j % num y2 * 10 ^ k) (num y2)
      have hkp := pow_pos' k
      constructor
      · intro h
        have := Nat.mul_pos h hkp
        rcases Nat.eq_zero_or_pos (num y * 10 ^ j % num y2 * 10 ^ k / num y2) with g | g
        · right
          rw [g, Nat.mul_zero, Nat.zero_add] at hdm
          omega
        · exact .inl g
      · intro h
        rcases Nat.eq_zero_or_pos (num y * 10 ^ j % num y2) with g | g
        · rw [g, Nat.zero_mul, Nat.zero_div, Nat.zero_mod] at h
          omega
        · exact g
    obtain ⟨u1, u2⟩ := up_more (W := num y * 10 ^ j / num y2) (B := num y2) ht m3 hR
    obtain ⟨d1, d2⟩ := drop_lt h1 h2 m3
    rw [← m1] at u1 u2 d1 d2
    obtain rfl : tn = t + k := hdr.uniq (.inr ⟨by omega, d1, d2⟩)
    rw [u1, u2]
    have es : ((z : Int) + n - z2 - ((t + k : Nat) : Int)) = (z : Int) - z2 + j - t := by omega
    rw [es]
    exact hr
  · obtain ⟨k, hk⟩ : ∃ k, j = n + k := ⟨j - n, by omega⟩
    have e0 : num y * 10 ^ j = num y * 10 ^ n * 10 ^ k := by rw [hk, Nat.pow_add, Nat.mul_assoc]
    obtain ⟨m1, m2, m3⟩ := more_digits (X := num y * 10 ^ n) (k := k) hB
    rw [← e0] at m1 m2
    have hR : 0 < num y * 10 ^ n % num y2 ↔ (0 < num y * 10 ^ n % num y2 * 10 ^ k / num y2 ∨ 0 < num y * 10 ^ j % num y2) := by
      rw [m2]
      have hdm := Nat.div_add_mod (num y * 10 ^ n % num y2 * 10 ^ k) (num y2)
      have hkp := pow_pos' k
      constructor
      · intro h
        have := Nat.mul_pos h hkp
        rcases Nat.eq_zero_or_pos (num y * 10 ^ n % num y2 * 10 ^ k / num y2) with g | g
        · right
          rw [g, Nat.mul_zero, Nat.zero_add] at hdm
          omega
        · exact .inl g
      · intro h
        rcases Nat.eq_zero_or_pos (num y * 10 ^ n % num y2) with g | g
        · rw [g, Nat.zero_mul, Nat.zero_div, Nat.zero_mod] at h
          omega
        · exact g
    obtain ⟨u1, u2⟩ := up_more (W := num y * 10 ^ n / num y2) (B := num y2) htn.1 m3 hR
    obtain ⟨d1, d2⟩ := drop_lt htn.2.1 htn.2.2 m3
    rw [← m1] at u1 u2 d1 d2
    obtain rfl : t = tn + k := DropT.uniq (W := num y * 10 ^ j / num y2) (.inr ⟨ht, h1, h2⟩) (.inr ⟨by omega, d1, d2⟩)
    rw [u1, u2] at hr
    have es : (z : Int) - z2 + j - ((tn + k : Nat) : Int) = ((z : Int) + n - z2 - tn) := by omega
    rw [es] at hr
    exact hr
/-- Where nothing is left, and the digits are few, it is just these. -/
theorem div_short {s : Bool} {y y2 : List UInt8} {z z2 j tn n : Nat} {r : Option D} (hn : (n : Int) = max 0 (35 + (y2.length : Int) - (y.length : Int))) (hB : 0 < num y2)
    (h0 : num y * 10 ^ j % num y2 = 0) (h2 : num y * 10 ^ j / num y2 < 10 ^ 34) (hdr : DropT (num y * 10 ^ n / num y2) tn) (hbig : num y = 0 ∨ 10 ^ 34 ≤ num y * 10 ^ n / num y2)
    (hr : Rep (sgn s (num y * 10 ^ j / num y2) * p10 (-((z : Int) - z2 + j)).toNat) ((z : Int) - z2 + j).toNat r) : DivRep s y z y2 z2 r := by
  refine ⟨n, tn, hn, hdr, ?_⟩
  rcases hbig with hz | hbig
  · rw [hz, Nat.zero_mul, Nat.zero_div, sgn_zero, Int.zero_mul] at hr
    rw [hz, Nat.zero_mul, Nat.zero_div, Nat.zero_mod, near_none (Nat.zero_mod _), Nat.zero_div, sgn_zero, Int.zero_mul]
    rw [hr.uniq (zero_rep _)]
    exact zero_rep _
  · have hjn : j < n := by
      rcases Nat.lt_or_ge j n with g | g
      · exact g
      · exfalso
        obtain ⟨k, hk⟩ : ∃ k, j = n + k := ⟨j - n, by omega⟩
        have e0 : num y * 10 ^ j = num y * 10 ^ n * 10 ^ k := by rw [hk, Nat.pow_add, Nat.mul_assoc]
        obtain ⟨m1, m2, m3⟩ := more_digits (X := num y * 10 ^ n) (k := k) hB
        rw [← e0] at m1
        have hkp := pow_pos' k
        have : num y * 10 ^ n / num y2 * 1 ≤ num y * 10 ^ n / num y2 * 10 ^ k := Nat.mul_le_mul_left _ hkp
        have h3 : num y * 10 ^ n / num y2 * 10 ^ k ≤ num y * 10 ^ j / num y2 := by rw [m1]; exact Nat.le_add_right _ _
        omega
    obtain ⟨k, hk⟩ : ∃ k, n = j + k := ⟨n - j, by omega⟩
    have e0 : num y * 10 ^ n = num y * 10 ^ j * 10 ^ k := by rw [hk, Nat.pow_add, Nat.mul_assoc]
    obtain ⟨m1, m2, m3⟩ := more_digits (X := num y * 10 ^ j) (k := k) hB
    rw [← e0, h0, Nat.zero_mul, Nat.zero_div, Nat.add_zero] at m1
    rw [← e0, h0, Nat.zero_mul, Nat.zero_mod] at m2
    have htn : 1 ≤ tn ∧ tn ≤ k := by
      rcases hdr with ⟨g, _⟩ | ⟨g1, g2, g3⟩
      · have := pow_pos' 34; omega
      · refine ⟨g1, ?_⟩
        rw [m1] at g2
        have a1 : num y * 10 ^ j / num y2 * 10 ^ k < 10 ^ 34 * 10 ^ k := (Nat.mul_lt_mul_right (pow_pos' k)).2 h2
        rw [← Nat.pow_add] at a1
        have a2 : 10 ^ (tn + 33) < 10 ^ (34 + k) := by omega
        have := (Nat.pow_lt_pow_iff_right (a := 10) (by omega)).1 a2
        omega
    obtain ⟨m, hm⟩ : ∃ m, k = m + tn := ⟨k - tn, by omega⟩
    have e1 : num y * 10 ^ n / num y2 = num y * 10 ^ j / num y2 * 10 ^ m * 10 ^ tn := by rw [m1, hm, Nat.pow_add, Nat.mul_assoc]
    rw [m2, e1, near_none (Nat.mul_mod_left _ _), Nat.mul_div_cancel _ (pow_pos' tn), sgn_mul]
    refine hr.cross ?_
    have em : ((10 ^ m : Nat) : Int) = p10 m := rfl
    rw [em, Int.mul_assoc, ← p10_add, Int.mul_assoc, Int.mul_assoc, ← p10_add, ← p10_add]
    congr 2
    omega
end Dm
end Go.Proofs.YtmlmplmghlbdmaaGreatDoor
