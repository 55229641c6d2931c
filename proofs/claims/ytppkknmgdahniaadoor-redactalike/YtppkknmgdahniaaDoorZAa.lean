/- What is proved here: plain facts on digits, powers of ten and decimals, and what the texts of package dec come to as functions of lists; conditions: none. It imports nothing of any program. What is proved here: plain facts on digits that are added, taken off and multiplied one by one; conditions: none. It imports nothing of any program but plain facts. What is proved here: plain facts on sums of places; conditions: none. It imports nothing of any program but plain facts. What is proved here: plain facts on which of two decimals is the lesser; conditions: none. It imports nothing of any program but plain facts. What is proved here: plain facts on how decimals are printed, and parsed with an exponent behind; conditions: none. It imports nothing of any program but plain facts. What is proved here: how whole numbers are written as decimals, plain mathematics; conditions: as each theorem states. What is proved here: plain mathematics of the document's own answers for decimals; conditions: as each theorem states. -/
import Derived.Lib.ItoaMem
import Derived.Lib.ItoaLen
import Derived.Lib.Strings
set_option linter.unusedSimpArgs false
namespace Go.Proofs.YtppkknmgdahniaaDoor
set_option maxRecDepth 100000
namespace Dm

def isD (c : UInt8) : Bool := decide (48 ≤ c.toNat ∧ c.toNat ≤ 57)
def dv (c : UInt8) : Nat := c.toNat - 48
def num (l : List UInt8) : Nat := l.foldl (fun n c => 10 * n + dv c) 0
def allD (l : List UInt8) : Prop := ∀ c ∈ l, isD c = true

theorem isD_iff {c : UInt8} : isD c = true ↔ 48 ≤ c.toNat ∧ c.toNat ≤ 57 := by simp [isD]
theorem dv_le {c : UInt8} (h : isD c = true) : dv c ≤ 9 := by have := isD_iff.1 h; unfold dv; omega
theorem dv_inj {c d : UInt8} (hc : isD c = true) (hd : isD d = true) (h : dv c = dv d) : c = d := by
  have := isD_iff.1 hc; have := isD_iff.1 hd
  unfold dv at h
  exact UInt8.toNat_inj.1 (by omega)
theorem dv_pos {c : UInt8} (h : isD c = true) (hn : c ≠ 48) : 1 ≤ dv c := by
  have := isD_iff.1 h
  have : c.toNat ≠ 48 := fun e => hn (UInt8.toNat_inj.1 (by simpa using e))
  unfold dv; omega
theorem dv_48 : dv 48 = 0 := rfl
theorem allD_nil : allD [] := by intro c h; cases h
theorem allD_cons {c : UInt8} {l : List UInt8} : allD (c :: l) ↔ isD c = true ∧ allD l := by simp [allD]
theorem allD_append {l m : List UInt8} : allD (l ++ m) ↔ allD l ∧ allD m := by
  simp only [allD, List.mem_append]
  exact ⟨fun h => ⟨fun c hc => h c (.inl hc), fun c hc => h c (.inr hc)⟩, fun h c hc => hc.elim (h.1 c) (h.2 c)⟩
theorem allD_zeros (k : Nat) : allD (List.replicate k 48) := by
  intro c h; rw [List.mem_replicate] at h; rw [h.2]; rfl

theorem fold_eq (m : List UInt8) : ∀ a : Nat, m.foldl (fun n c => 10 * n + dv c) a = a * 10 ^ m.length + num m := by
  induction m with
  | nil => intro a; simp [num]
  | cons c t ih =>
    intro a
    have h1 := ih (10 * a + dv c)
    have h2 := ih (10 * 0 + dv c)
    simp only [num, List.foldl_cons, List.length_cons] at *
    rw [h1, h2, Nat.pow_succ, Nat.add_mul]
    simp only [Nat.mul_zero, Nat.zero_add]
    have : 10 * a * 10 ^ t.length = a * (10 ^ t.length * 10) := by
      rw [Nat.mul_comm 10 a, Nat.mul_assoc, Nat.mul_comm 10]
    omega
theorem num_append (l m : List UInt8) : num (l ++ m) = num l * 10 ^ m.length + num m := by
  rw [num, List.foldl_append]; exact fold_eq m _
theorem num_one (c : UInt8) : num [c] = dv c := by simp [num]
theorem num_cons (c : UInt8) (l : List UInt8) : num (c :: l) = dv c * 10 ^ l.length + num l := by
  have := num_append [c] l
  rwa [num_one] at this
theorem num_snoc (l : List UInt8) (c : UInt8) : num (l ++ [c]) = 10 * num l + dv c := by
  rw [num_append, num_one]; simp; omega
theorem num_48 (l : List UInt8) : num (48 :: l) = num l := by rw [num_cons, dv_48]; simp
theorem num_zeros (k : Nat) : num (List.replicate k 48) = 0 := by
  induction k with
  | zero => rfl
  | succ k ih => rw [List.replicate_succ, num_48, ih]
theorem num_zeros_append (k : Nat) (l : List UInt8) : num (List.replicate k 48 ++ l) = num l := by
  rw [num_append, num_zeros]; simp
theorem num_append_zeros (l : List UInt8) (k : Nat) : num (l ++ List.replicate k 48) = num l * 10 ^ k := by
  rw [num_append, num_zeros]; simp
theorem num_lt {l : List UInt8} (h : allD l) : num l < 10 ^ l.length := by
  induction l with
  | nil => simp [num]
  | cons c t ih =>
    rw [allD_cons] at h
    have h1 := dv_le h.1
    have h2 := ih h.2
    rw [num_cons, List.length_cons, Nat.pow_succ]
    have : dv c * 10 ^ t.length ≤ 9 * 10 ^ t.length := Nat.mul_le_mul_right _ h1
    omega
theorem num_ge {c : UInt8} {l : List UInt8} (h : isD c = true) (hc : c ≠ 48) : 10 ^ l.length ≤ num (c :: l) := by
  rw [num_cons]
  have : 1 * 10 ^ l.length ≤ dv c * 10 ^ l.length := Nat.mul_le_mul_right _ (dv_pos h hc)
  omega
theorem num_inj {l m : List UInt8} (hl : allD l) (hm : allD m) (hn : l.length = m.length) (h : num l = num m) : l = m := by
  induction l generalizing m with
  | nil => cases m with
    | nil => rfl
    | cons c t => simp at hn
  | cons c t ih => cases m with
    | nil => simp at hn
    | cons d u =>
      rw [allD_cons] at hl hm
      simp only [List.length_cons, Nat.add_right_cancel_iff] at hn
      rw [num_cons, num_cons, hn] at h
      have h1 := num_lt hl.2
      have h2 := num_lt hm.2
      rw [hn] at h1
      have e : dv c = dv d := by
        rcases Nat.lt_trichotomy (dv c) (dv d) with g | g | g
        · have : (dv c + 1) * 10 ^ u.length ≤ dv d * 10 ^ u.length := Nat.mul_le_mul_right _ g
          rw [Nat.add_mul] at this; omega
        · exact g
        · have : (dv d + 1) * 10 ^ u.length ≤ dv c * 10 ^ u.length := Nat.mul_le_mul_right _ g
          rw [Nat.add_mul] at this; omega
      rw [e] at h
      rw [dv_inj hl.1 hm.1 e, ih hl.2 hm.2 hn (by omega)]
theorem pow_lt {a b : Nat} (h : a < b) : 10 ^ a * 10 ≤ 10 ^ b := by
  rw [← Nat.pow_succ]; exact Nat.pow_le_pow_right (by omega) h
theorem pow_pos' (a : Nat) : 0 < 10 ^ a := Nat.pow_pos (by omega)

/-- A list of digits that has no nought ahead. -/
def noLead (l : List UInt8) : Prop := ∃ c t, l = c :: t ∧ c ≠ 48
theorem lead_len {l m : List UInt8} (hl : allD l) (hm : allD m) (ll : noLead l) (lm : noLead m) (h : num l = num m) : l.length = m.length := by
  obtain ⟨c, t, rfl, hc⟩ := ll
  obtain ⟨d, u, rfl, hd⟩ := lm
  have a1 := num_lt hl
  have a2 := num_lt hm
  have b1 := num_ge (l := t) (allD_cons.1 hl).1 hc
  have b2 := num_ge (l := u) (allD_cons.1 hm).1 hd
  simp only [List.length_cons] at *
  rcases Nat.lt_trichotomy t.length u.length with g | g | g
  · have := Nat.pow_le_pow_right (n := 10) (by omega) g
    omega
  · omega
  · have := Nat.pow_le_pow_right (n := 10) (by omega) g
    omega
theorem lead_inj {l m : List UInt8} (hl : allD l) (hm : allD m) (ll : noLead l) (lm : noLead m) (h : num l = num m) : l = m :=
  num_inj hl hm (lead_len hl hm ll lm h) h
theorem lead_pos {l : List UInt8} (hl : allD l) (ll : noLead l) : 1 ≤ num l := by
  obtain ⟨c, t, rfl, hc⟩ := ll
  have := num_ge (l := t) (allD_cons.1 hl).1 hc
  have := pow_pos' t.length
  omega

/-- A decimal: below 0, digits, scale. -/
structure D where
  ng : Bool
  ds : List UInt8
  sc : Nat

/-- The last digit is no nought. -/
def noTail (l : List UInt8) : Prop := ∃ t c, l = t ++ [c] ∧ c ≠ 48
theorem tail_mod {l : List UInt8} (hl : allD l) (h : noTail l) : num l % 10 ≠ 0 := by
  obtain ⟨t, c, rfl, hc⟩ := h
  have hd : isD c = true := hl c (by simp)
  have := dv_pos hd hc
  have := dv_le hd
  rw [num_snoc]; omega

def May (d : D) : Prop := allD d.ds ∧ d.ds.length ≤ 60 ∧ d.sc ≤ 60 ∧ ((d.ds = [48] ∧ d.sc = 0 ∧ d.ng = false) ∨ (noLead d.ds ∧ (d.sc = 0 ∨ noTail d.ds)))

def p10 (k : Nat) : Int := ((10 ^ k : Nat) : Int)
theorem p10_add (a b : Nat) : p10 (a + b) = p10 a * p10 b := by simp [p10, Nat.pow_add]
theorem p10_pos (k : Nat) : 0 < p10 k := by have := pow_pos' k; unfold p10; omega
theorem p10_zero : p10 0 = 1 := rfl
theorem p10_succ (k : Nat) : p10 (k + 1) = p10 k * 10 := by rw [p10_add]; rfl
theorem p10_cancel {a b : Int} {k : Nat} (h : a * p10 k = b * p10 k) : a = b :=
  Int.eq_of_mul_eq_mul_right (by have := p10_pos k; omega) h

def sgn (b : Bool) (n : Nat) : Int := if b then -(n : Int) else n
theorem sgn_mul (b : Bool) (n m : Nat) : sgn b (n * m) = sgn b n * (m : Int) := by
  cases b <;> simp [sgn, Int.neg_mul]
theorem sgn_abs (b : Bool) (n : Nat) : (sgn b n).natAbs = n := by cases b <;> simp [sgn]
theorem sgn_zero (b : Bool) : sgn b 0 = 0 := by cases b <;> rfl
def sg (d : D) : Int := sgn d.ng (num d.ds)

theorem num_zero_of_may {d : D} (h : May d) : num d.ds = 0 ↔ d.ds = [48] := by
  obtain ⟨h1, _, _, h4⟩ := h
  rcases h4 with ⟨h, _, _⟩ | ⟨h, _⟩
  · rw [h]; simp [num, dv]
  · have := lead_pos h1 h
    constructor
    · omega
    · intro e; rw [e] at this; simp [num, dv] at this

theorem may_inj_le {d e : D} (hd : May d) (he : May e) (hs : d.sc ≤ e.sc) (h : sg d * p10 e.sc = sg e * p10 d.sc) : d = e := by
  obtain ⟨k, hk⟩ : ∃ k, e.sc = d.sc + k := ⟨e.sc - d.sc, by omega⟩
  have h1 : sg d * p10 k = sg e := by
    rw [hk, Nat.add_comm, p10_add, ← Int.mul_assoc] at h
    exact p10_cancel h
  have h2 : num d.ds * 10 ^ k = num e.ds := by
    have := congrArg Int.natAbs h1
    rw [Int.natAbs_mul] at this
    simpa [sg, sgn_abs, p10] using this
  have h0 := num_zero_of_may hd
  have h0' := num_zero_of_may he
  by_cases z : num d.ds = 0
  · have z' : num e.ds = 0 := by rw [← h2, z]; simp
    have a := h0.1 z
    have b := h0'.1 z'
    obtain ⟨_, _, _, hd4⟩ := hd
    obtain ⟨_, _, _, he4⟩ := he
    rcases hd4 with ⟨_, x1, x2⟩ | ⟨⟨c, t, x, y⟩, _⟩
    · rcases he4 with ⟨_, y1, y2⟩ | ⟨⟨c, t, x, y⟩, _⟩
      · cases d; cases e; simp_all
      · rw [b] at x; cases x; exact absurd rfl y
    · rw [a] at x; cases x; exact absurd rfl y
  · obtain ⟨d1, _, _, hd4⟩ := hd
    obtain ⟨e1, _, _, he4⟩ := he
    have pk := pow_pos' k
    have z' : num e.ds ≠ 0 := by
      rw [← h2]; intro hz
      rcases Nat.mul_eq_zero.1 hz with g | g
      · exact z g
      · omega
    have ld : noLead d.ds := by
      rcases hd4 with ⟨x, _⟩ | ⟨x, _⟩
      · exact absurd (h0.2 x) z
      · exact x
    have le : noLead e.ds ∧ (e.sc = 0 ∨ noTail e.ds) := by
      rcases he4 with ⟨x, _⟩ | x
      · exact absurd (h0'.2 x) z'
      · exact x
    have k0 : k = 0 := by
      rcases le.2 with g | g
      · omega
      · have := tail_mod e1 g
        cases k with
        | zero => rfl
        | succ j =>
          exfalso; apply this
          rw [← h2, Nat.pow_succ, ← Nat.mul_assoc, Nat.mul_mod_left]
    subst k0
    have hn : num d.ds = num e.ds := by simpa using h2
    have e1' := lead_inj d1 e1 ld le.1 hn
    have e2 : sg d = sg e := by simpa [p10] using h1
    have e3 : d.ng = e.ng := by
      simp only [sg, sgn, hn] at e2
      cases hdn : d.ng <;> cases hen : e.ng <;> simp [hdn, hen] at e2 ⊢ <;> omega
    have e4 : d.sc = e.sc := by omega
    cases d; cases e; simp_all
theorem may_inj {d e : D} (hd : May d) (he : May e) (h : sg d * p10 e.sc = sg e * p10 d.sc) : d = e := by
  by_cases g : d.sc ≤ e.sc
  · exact may_inj_le hd he g h
  · exact (may_inj_le he hd (by omega) h.symm).symm

/-- 'r' is the decimal of z divided by ten s times, or there is none. -/
def Rep (z : Int) (s : Nat) (r : Option D) : Prop :=
  match r with
  | some d => May d ∧ sg d * p10 s = z * p10 d.sc
  | none => ∀ d, May d → sg d * p10 s ≠ z * p10 d.sc

theorem eqv_trans {d e : D} {z : Int} {s : Nat} (h1 : sg d * p10 s = z * p10 d.sc) (h2 : sg e * p10 s = z * p10 e.sc) : sg d * p10 e.sc = sg e * p10 d.sc := by
  apply p10_cancel (k := s)
  rw [Int.mul_right_comm, h1, Int.mul_right_comm, Int.mul_right_comm (sg e), h2]
theorem Rep.uniq {z : Int} {s : Nat} {r r' : Option D} (h : Rep z s r) (h' : Rep z s r') : r = r' := by
  cases r with
  | none => cases r' with
    | none => rfl
    | some e => exact absurd h'.2 (h e h'.1)
  | some d => cases r' with
    | none => exact absurd h.2 (h' d h.1)
    | some e => rw [may_inj h.1 h'.1 (eqv_trans h.2 h'.2)]
theorem Rep.up {z : Int} {s : Nat} {r : Option D} (k : Nat) : Rep (z * p10 k) (s + k) r ↔ Rep z s r := by
  have key : ∀ d : D, sg d * p10 (s + k) = z * p10 k * p10 d.sc ↔ sg d * p10 s = z * p10 d.sc := by
    intro d
    rw [p10_add, ← Int.mul_assoc, Int.mul_right_comm z]
    exact ⟨fun h => p10_cancel h, fun h => by rw [h]⟩
  cases r with
  | none => simp only [Rep, ne_eq, key]
  | some d => simp only [Rep, key]
/-- The last step of both texts: digits without noughts ahead, and behind the point. -/
def fin (ng : Bool) (l : List UInt8) (s : Nat) : Option D := if 60 < l.length ∨ 60 < s then none else some ⟨ng, l, s⟩
theorem fin_rep {ng : Bool} {l : List UInt8} {s : Nat} (hl : allD l) (h1 : noLead l) (h2 : s = 0 ∨ noTail l) : Rep (sgn ng (num l)) s (fin ng l s) := by
  unfold fin
  by_cases h : 60 < l.length ∨ 60 < s
  · rw [if_pos h]
    intro d hd e
    have e' : num d.ds * 10 ^ s = num l * 10 ^ d.sc := by
      have := congrArg Int.natAbs e
      rw [Int.natAbs_mul, Int.natAbs_mul] at this
      simpa [sg, sgn_abs, p10] using this
    obtain ⟨m1, m2, m3, _⟩ := hd
    have hlt := num_lt m1
    have p60 : 10 ^ d.ds.length ≤ 10 ^ 60 := Nat.pow_le_pow_right (by omega) m2
    have hpos := lead_pos hl h1
    by_cases g : d.sc < s
    · obtain ⟨k, hk⟩ : ∃ k, s = d.sc + (k + 1) := ⟨s - d.sc - 1, by omega⟩
      have h3 : num d.ds * 10 ^ (k + 1) = num l := by
        rw [hk, Nat.pow_add, Nat.mul_comm (10 ^ d.sc), ← Nat.mul_assoc] at e'
        exact Nat.eq_of_mul_eq_mul_right (pow_pos' d.sc) e'
      rcases h2 with g2 | g2
      · omega
      · apply tail_mod hl g2
        rw [← h3, Nat.pow_succ, ← Nat.mul_assoc, Nat.mul_mod_left]
    · obtain ⟨k, hk⟩ : ∃ k, d.sc = s + k := ⟨d.sc - s, by omega⟩
      have h3 : num d.ds = num l * 10 ^ k := by
        rw [hk, Nat.pow_add, Nat.mul_comm (10 ^ s), ← Nat.mul_assoc] at e'
        exact Nat.eq_of_mul_eq_mul_right (pow_pos' s) e'
      have hl60 : 60 < l.length := by omega
      obtain ⟨c, t, rfl, hc⟩ := h1
      have b := num_ge (l := t) (allD_cons.1 hl).1 hc
      simp only [List.length_cons] at hl60
      have : 10 ^ 60 ≤ 10 ^ t.length := Nat.pow_le_pow_right (by omega) (by omega)
      have : num (c :: t) * 1 ≤ num (c :: t) * 10 ^ k := Nat.mul_le_mul_left _ (pow_pos' k)
      omega
  · rw [if_neg h]
    exact ⟨⟨hl, by simp; omega, by simp; omega, .inr ⟨h1, h2⟩⟩, rfl⟩
theorem zero_may : May ⟨false, [48], 0⟩ := ⟨by intro c h; simp at h; rw [h]; rfl, by simp, by simp, .inl ⟨rfl, rfl, rfl⟩⟩
theorem zero_rep (s : Nat) : Rep 0 s (some ⟨false, [48], 0⟩) := ⟨zero_may, by simp [sg, sgn, num, dv]⟩
end Dm
end Go.Proofs.YtppkknmgdahniaaDoor
namespace Go.Proofs.YtppkknmgdahniaaDoor
set_option maxRecDepth 100000
namespace Dm

def tl (l : List UInt8) : List UInt8 := l.dropWhile (fun c => c == 48)
def tr (l : List UInt8) : List UInt8 := (l.reverse.dropWhile (fun c => c == 48)).reverse

theorem dropZ (l : List UInt8) : ∃ j, l = List.replicate j 48 ++ l.dropWhile (fun c => c == 48) := by
  induction l with
  | nil => exact ⟨0, rfl⟩
  | cons c t ih =>
    by_cases h : c = 48
    · obtain ⟨j, hj⟩ := ih
      refine ⟨j + 1, ?_⟩
      subst h
      simp only [List.dropWhile_cons, beq_self_eq_true, ite_true, List.replicate_succ, List.cons_append]
      rw [← hj]
    · exact ⟨0, by simp [List.dropWhile_cons, h]⟩
theorem tl_spec (l : List UInt8) : ∃ j, l = List.replicate j 48 ++ tl l := dropZ l
theorem tl_lead (l : List UInt8) (h : tl l ≠ []) : noLead (tl l) := by
  unfold tl at *
  induction l with
  | nil => exact absurd rfl h
  | cons c t ih =>
    by_cases e : c = 48
    · subst e
      simp only [List.dropWhile_cons, beq_self_eq_true, ite_true] at h ⊢
      exact ih h
    · have : (c :: t).dropWhile (fun c => c == 48) = c :: t := by simp [List.dropWhile_cons, e]
      rw [this]; exact ⟨c, t, rfl, e⟩
theorem tr_spec (l : List UInt8) : l = tr l ++ List.replicate (l.length - (tr l).length) 48 := by
  obtain ⟨j, hj⟩ := dropZ l.reverse
  have h := congrArg List.reverse hj
  rw [List.reverse_reverse, List.reverse_append, List.reverse_replicate] at h
  have hl : l.length - (tr l).length = j := by
    have := congrArg List.length h
    simp only [List.length_append, List.length_replicate] at this
    unfold tr; omega
  rw [hl]; exact h
theorem tr_tail (l : List UInt8) (h : tr l ≠ []) : noTail (tr l) := by
  unfold tr at *
  have h' : tl l.reverse ≠ [] := fun e => h (by unfold tl at e; rw [e]; rfl)
  obtain ⟨c, t, e, hc⟩ := tl_lead _ h'
  unfold tl at e
  rw [e]
  exact ⟨t.reverse, c, by simp, hc⟩
theorem tr_lead {l : List UInt8} (h : noLead l) : noLead (tr l) := by
  obtain ⟨c, t, e, hc⟩ := h
  have hs := tr_spec l
  cases hk : tr l with
  | nil =>
    rw [hk] at hs
    simp only [List.nil_append, List.length_nil, Nat.sub_zero] at hs
    rw [e, List.length_cons, List.replicate_succ] at hs
    injection hs with h1
    exact absurd h1 hc
  | cons d u =>
    rw [hk, e] at hs
    injection hs with h1
    exact ⟨d, u, rfl, h1 ▸ hc⟩
theorem noLead_ne {l : List UInt8} (h : noLead l) : l ≠ [] := by obtain ⟨c, t, rfl, _⟩ := h; exact fun e => by cases e
theorem tl_allD {l : List UInt8} (h : allD l) : allD (tl l) := by
  obtain ⟨j, hj⟩ := tl_spec l
  rw [hj] at h; exact (allD_append.1 h).2
theorem tr_allD {l : List UInt8} (h : allD l) : allD (tr l) := by
  rw [tr_spec l] at h; exact (allD_append.1 h).1
theorem tl_num (l : List UInt8) : num (tl l) = num l := by
  obtain ⟨j, hj⟩ := tl_spec l
  have := num_zeros_append j (tl l)
  rw [← hj] at this; exact this.symm

/-- What 'fit' comes to. -/
def fitL (ng : Bool) (l : List UInt8) (sc : Int) : Option D :=
  if tl l = [] then some ⟨false, [48], 0⟩ else
  if 60 < sc - ((tl l).length - (tr (tl l)).length : Nat) ∨ 60 < ((tr (tl l)).length : Int) + (-(sc - ((tl l).length - (tr (tl l)).length : Nat))).toNat then none
  else some ⟨ng, tr (tl l) ++ List.replicate (-(sc - ((tl l).length - (tr (tl l)).length : Nat))).toNat 48, (sc - ((tl l).length - (tr (tl l)).length : Nat)).toNat⟩

theorem fit_fin (ng : Bool) (l : List UInt8) (sc : Int) (h : tl l ≠ []) : fitL ng l sc = fin ng (tr (tl l) ++ List.replicate (-(sc - ((tl l).length - (tr (tl l)).length : Nat))).toNat 48) (sc - ((tl l).length - (tr (tl l)).length : Nat)).toNat := by
  unfold fitL fin
  rw [if_neg h]
  generalize sc - ((tl l).length - (tr (tl l)).length : Nat) = s
  have e : (60 < s ∨ 60 < ((tr (tl l)).length : Int) + (-s).toNat) ↔ (60 < (tr (tl l) ++ List.replicate (-s).toNat 48).length ∨ 60 < s.toNat) := by
    simp only [List.length_append, List.length_replicate]; omega
  by_cases g : 60 < s ∨ 60 < ((tr (tl l)).length : Int) + (-s).toNat
  · rw [if_pos g, if_pos (e.1 g)]
  · rw [if_neg g, if_neg (fun x => g (e.2 x))]

theorem fit_rep (ng : Bool) {l : List UInt8} (hl : allD l) (sc : Int) : Rep (sgn ng (num l) * p10 (-sc).toNat) sc.toNat (fitL ng l sc) := by
  by_cases h : tl l = []
  · have z : num l = 0 := by rw [← tl_num, h]; rfl
    unfold fitL
    rw [if_pos h, z, sgn_zero, Int.zero_mul]
    exact zero_rep _
  · have hlead := tl_lead l h
    have hk := tr_lead hlead
    have hkn := noLead_ne hk
    have ht := tr_tail (tl l) hkn
    have hd := tr_allD (tl_allD hl)
    have hsp := tr_spec (tl l)
    have hnum : num l = num (tr (tl l)) * 10 ^ ((tl l).length - (tr (tl l)).length) := by
      rw [← num_append_zeros, ← hsp, tl_num]
    rw [fit_fin ng l sc h]
    generalize (tl l).length - (tr (tl l)).length = j at *
    generalize hkk : tr (tl l) = k at *
    have hf := fin_rep (ng := ng) (l := k ++ List.replicate (-(sc - (j : Nat))).toNat 48) (s := (sc - (j : Nat)).toNat) (allD_append.2 ⟨hd, allD_zeros _⟩)
      (by obtain ⟨c, t, e, hc⟩ := hk; exact ⟨c, t ++ _, by rw [e]; rfl, hc⟩)
      (by
        by_cases g : sc - (j : Nat) ≤ 0
        · left; omega
        · right
          have : (-(sc - (j : Nat))).toNat = 0 := by omega
          rw [this]; simpa using ht)
    rw [num_append_zeros] at hf
    have hu := (Rep.up (sc.toNat - (sc - (j : Nat)).toNat)).2 hf
    have e1 : (sc - (j : Nat)).toNat + (sc.toNat - (sc - (j : Nat)).toNat) = sc.toNat := by omega
    rw [e1] at hu
    have e2 : sgn ng (num k * 10 ^ (-(sc - (j : Nat))).toNat) * p10 (sc.toNat - (sc - (j : Nat)).toNat) = sgn ng (num l) * p10 (-sc).toNat := by
      rw [hnum, sgn_mul, sgn_mul, Int.mul_assoc, Int.mul_assoc]
      show sgn ng (num k) * (p10 _ * p10 _) = sgn ng (num k) * (p10 _ * p10 _)
      rw [← p10_add, ← p10_add]
      congr 2
      omega
    rw [e2] at hu
    exact hu

/-- What 'May' comes to. -/
def mayB (ng : Bool) (l : List UInt8) (s : Int) : Bool :=
  decide (1 ≤ l.length ∧ l.length ≤ 60 ∧ 0 ≤ s ∧ s ≤ 60) && l.all isD && (if l = [48] then (decide (s = 0) && !ng) else (l.headD 0 != 48 && (decide (s = 0) || l.getLastD 0 != 48)))

theorem allD_all {l : List UInt8} : l.all isD = true ↔ allD l := by simp [allD, List.all_eq_true]
theorem noLead_iff {l : List UInt8} (h : 1 ≤ l.length) : (l.headD 0 != 48) = true ↔ noLead l := by
  cases l with
  | nil => simp at h
  | cons c t =>
    simp only [List.headD_cons, bne_iff_ne, ne_eq]
    exact ⟨fun e => ⟨c, t, rfl, e⟩, fun ⟨d, u, e, hd⟩ => by cases e; exact hd⟩
theorem noTail_iff {l : List UInt8} (h : 1 ≤ l.length) : (l.getLastD 0 != 48) = true ↔ noTail l := by
  rcases List.eq_nil_or_concat l with rfl | ⟨t, c, rfl⟩
  · simp at h
  · have : (t ++ [c]).getLastD 0 = c := by simp [List.getLastD_eq_getLast?]
    rw [List.concat_eq_append, this]
    simp only [bne_iff_ne, ne_eq]
    refine ⟨fun e => ⟨t, c, rfl, e⟩, fun ⟨u, d, e, hd⟩ => ?_⟩
    have := List.append_inj' e rfl
    simp at this
    rw [this.2]; exact hd
theorem mayB_iff {ng : Bool} {l : List UInt8} {s : Int} : mayB ng l s = true ↔ 0 ≤ s ∧ May ⟨ng, l, s.toNat⟩ := by
  unfold mayB
  simp only [Bool.and_eq_true, decide_eq_true_eq, allD_all]
  constructor
  · rintro ⟨⟨⟨h1, h2, h3, h4⟩, h5⟩, h6⟩
    refine ⟨h3, h5, h2, by simp; omega, ?_⟩
    by_cases e : l = [48]
    · rw [if_pos e] at h6
      simp only [Bool.and_eq_true, decide_eq_true_eq, Bool.not_eq_true'] at h6
      exact .inl ⟨e, by simp; omega, h6.2⟩
    · rw [if_neg e] at h6
      simp only [Bool.and_eq_true, Bool.or_eq_true, decide_eq_true_eq, noLead_iff h1, noTail_iff h1] at h6
      exact .inr ⟨h6.1, h6.2.elim (fun x => .inl (by simp; omega)) .inr⟩
  · rintro ⟨h3, h5, h2, h4, h6⟩
    simp only at h5 h2 h4 h6
    have h1 : 1 ≤ l.length := by
      rcases h6 with ⟨e, _⟩ | ⟨⟨c, t, e, _⟩, _⟩ <;> rw [e] <;> simp
    refine ⟨⟨⟨h1, h2, h3, by omega⟩, h5⟩, ?_⟩
    rcases h6 with ⟨e, e1, e2⟩ | ⟨e1, e2⟩
    · rw [if_pos e]; simp only [Bool.and_eq_true, decide_eq_true_eq, Bool.not_eq_true']; exact ⟨by omega, e2⟩
    · have : l ≠ [48] := by rintro rfl; obtain ⟨c, t, e, hc⟩ := e1; cases e; exact hc rfl
      rw [if_neg this]
      simp only [Bool.and_eq_true, Bool.or_eq_true, decide_eq_true_eq, noLead_iff h1, noTail_iff h1]
      exact ⟨e1, e2.elim (fun x => .inl (by omega)) .inr⟩

/-- What 'Print' comes to. -/
def printL (d : D) : List UInt8 :=
  (if d.ng then [45] else []) ++ (if d.ds.length ≤ d.sc then [48, 46] ++ List.replicate (d.sc - d.ds.length) 48 ++ d.ds else d.ds.take (d.ds.length - d.sc) ++ (if 0 < d.sc then 46 :: d.ds.drop (d.ds.length - d.sc) else []))

/-- What 'exponent' comes to. -/
def expL (l : List UInt8) : Option Int :=
  match l with
  | [] => some 0
  | c :: t =>
    if c ≠ 101 ∧ c ≠ 69 then none else
    let below := t.head? == some 45
    let u := if t.head? == some 45 || t.head? == some 43 then t.tail else t
    if u.length < 1 ∨ 2 < u.length then none else
    if u.all isD then some (if below then -(num u : Int) else (num u : Int)) else none

/-- What 'Parse' comes to: no number; too big; or a decimal. -/
def parseU (ng : Bool) (u : List UInt8) : Option (Option D) :=
  if u.takeWhile isD = [] ∨ (1 < (u.takeWhile isD).length ∧ (u.takeWhile isD).headD 0 = 48) then none else
  if (u.dropWhile isD).headD 0 = 46 then
    if (u.dropWhile isD).tail.takeWhile isD = [] then none else
    (expL ((u.dropWhile isD).tail.dropWhile isD)).map fun t => fitL ng (u.takeWhile isD ++ (u.dropWhile isD).tail.takeWhile isD) (((u.dropWhile isD).tail.takeWhile isD).length - t)
  else (expL (u.dropWhile isD)).map fun t => fitL ng (u.takeWhile isD) (0 - t)
def parseL (l : List UInt8) : Option (Option D) :=
  if l.headD 0 = 45 then parseU true l.tail else parseU false l

theorem takeWhile_all {l m : List UInt8} (h : allD l) (hm : ∀ c t, m = c :: t → isD c = false) : (l ++ m).takeWhile isD = l ∧ (l ++ m).dropWhile isD = m := by
  induction l with
  | nil =>
    cases m with
    | nil => exact ⟨rfl, rfl⟩
    | cons c t => have := hm c t rfl; simp [List.takeWhile_cons, List.dropWhile_cons, this]
  | cons c t ih =>
    rw [allD_cons] at h
    have := ih h.2
    simp [List.takeWhile_cons, List.dropWhile_cons, h.1, this.1, this.2]
theorem takeWhile_allD (l : List UInt8) : allD (l.takeWhile isD) := by
  induction l with
  | nil => exact allD_nil
  | cons c t ih =>
    rw [List.takeWhile_cons]
    cases h : isD c with
    | true => rw [if_pos rfl]; exact allD_cons.2 ⟨h, ih⟩
    | false => rw [if_neg (by simp)]; exact allD_nil

theorem parseU_may {ng : Bool} {u : List UInt8} {d : D} (h : parseU ng u = some (some d)) : May d := by
  have key : ∀ (l : List UInt8) (sc : Int), allD l → fitL ng l sc = some d → May d := by
    intro l sc hl hf
    have := fit_rep ng hl sc
    rw [hf] at this; exact this.1
  unfold parseU at h
  split at h
  · cases h
  · split at h
    · split at h
      · cases h
      · obtain ⟨t, _, ht⟩ := Option.map_eq_some_iff.1 h
        exact key _ _ (allD_append.2 ⟨takeWhile_allD _, takeWhile_allD _⟩) ht
    · obtain ⟨t, _, ht⟩ := Option.map_eq_some_iff.1 h
      exact key _ _ (takeWhile_allD _) ht
theorem parse_may {l : List UInt8} {d : D} (h : parseL l = some (some d)) : May d := by
  unfold parseL at h
  split at h
  · exact parseU_may h
  · exact parseU_may h

end Dm
end Go.Proofs.YtppkknmgdahniaaDoor

set_option linter.unusedSimpArgs false
set_option linter.unusedVariables false
namespace Go.Proofs.YtppkknmgdahniaaDoor
set_option maxRecDepth 100000
namespace Dm

/-- One step of adding, or of taking off, digit by digit. -/
theorem step_add {A B k low : Nat} {s c t : Int} (h : ((A % 10 ^ k : Nat) : Int) + s * ((B % 10 ^ k : Nat) : Int) = (low : Int) + c * p10 k)
    (ht : t = ((A / 10 ^ k % 10 : Nat) : Int) + s * ((B / 10 ^ k % 10 : Nat) : Int) + c + 10) (h0 : 0 ≤ t) :
    ((A % 10 ^ (k + 1) : Nat) : Int) + s * ((B % 10 ^ (k + 1) : Nat) : Int) = (((t % 10).toNat * 10 ^ k + low : Nat) : Int) + (t / 10 - 1) * p10 (k + 1) := by
  have eA : A % 10 ^ (k + 1) = A % 10 ^ k + 10 ^ k * (A / 10 ^ k % 10) := Nat.mod_pow_succ
  have eB : B % 10 ^ (k + 1) = B % 10 ^ k + 10 ^ k * (B / 10 ^ k % 10) := Nat.mod_pow_succ
  have hp : p10 (k + 1) = p10 k * 10 := p10_succ k
  rw [eA, eB, hp]
  have hk : ((10 ^ k : Nat) : Int) = p10 k := rfl
  generalize A % 10 ^ k = a at *
  generalize B % 10 ^ k = b at *
  generalize A / 10 ^ k % 10 = da at *
  generalize B / 10 ^ k % 10 = db at *
  generalize 10 ^ k = q at *
  generalize p10 k = P at *
  subst hk
  have e1 : (((t % 10).toNat * q + low : Nat) : Int) = (t % 10) * (q : Int) + (low : Int) := by
    rw [Int.natCast_add, Int.natCast_mul, Int.toNat_of_nonneg (by omega)]
  rw [e1, Int.natCast_add, Int.natCast_add, Int.natCast_mul, Int.natCast_mul]
  have e2 : t % 10 = t - 10 * (t / 10) := by omega
  rw [e2]
  have e3 : (a : Int) + (q : Int) * (da : Int) + s * ((b : Int) + (q : Int) * (db : Int)) = ((a : Int) + s * (b : Int)) + (q : Int) * ((da : Int) + s * (db : Int)) := by
    rw [Int.mul_add, Int.mul_add, Int.mul_left_comm]; omega
  rw [e3, h]
  have e4 : (da : Int) + s * (db : Int) = t - c - 10 := by omega
  rw [e4, Int.mul_sub, Int.mul_sub, Int.sub_mul, Int.sub_mul, Int.mul_comm (q : Int) t, Int.mul_comm (q : Int) c, Int.mul_comm (q : Int) 10]
  have e5 : t / 10 * (10 * (q : Int)) = 10 * (t / 10) * (q : Int) := by
    rw [← Int.mul_assoc, Int.mul_comm (t / 10) 10]
  rw [e5]
  generalize 10 * (t / 10) * (q : Int) = z1
  generalize t * (q : Int) = z2
  generalize c * (q : Int) = z3
  omega

/-- One step of a product: of each place, what stands there and what is carried. -/
theorem step_mul {S k low c t : Nat} {x : Nat} (h : S = low + c * 10 ^ k) (ht : t = x + c) :
    S + x * 10 ^ k = (t % 10 * 10 ^ k + low) + t / 10 * 10 ^ (k + 1) := by
  have e : t = 10 * (t / 10) + t % 10 := by omega
  have e2 : t * 10 ^ k = 10 * (t / 10) * 10 ^ k + t % 10 * 10 ^ k := by
    conv => lhs; rw [e]
    rw [Nat.add_mul]
  have e3 : t / 10 * 10 ^ (k + 1) = 10 * (t / 10) * 10 ^ k := by
    rw [Nat.pow_succ, Nat.mul_comm (10 ^ k) 10, ← Nat.mul_assoc, Nat.mul_comm (t / 10) 10]
  rw [h, e3]
  have e4 : t * 10 ^ k = x * 10 ^ k + c * 10 ^ k := by rw [ht, Nat.add_mul]
  omega
theorem drop_set_len {l : List UInt8} {j : Nat} (hj : j < l.length) (c : UInt8) : (l.set j c).drop j = c :: l.drop (j + 1) := by
  have h1 : j < (l.set j c).length := by rw [List.length_set]; exact hj
  rw [List.drop_eq_getElem_cons h1]
  congr 1
  · simp
  · rw [List.drop_set_of_lt (by omega)]
end Dm
end Go.Proofs.YtppkknmgdahniaaDoor

set_option linter.unusedSimpArgs false
set_option linter.unusedVariables false
namespace Go.Proofs.YtppkknmgdahniaaDoor
set_option maxRecDepth 100000
namespace Dm

/-- What sums of places are worth, the lowest place first. -/
def V : List Nat → Nat
  | [] => 0
  | x :: t => x + 10 * V t
theorem V_set (S : List Nat) (p x : Nat) (h : p < S.length) : V (S.set p (S.getD p 0 + x)) = V S + x * 10 ^ p := by
  induction S generalizing p with
  | nil => simp at h
  | cons y t ih =>
    cases p with
    | zero => simp [V]; omega
    | succ p =>
      have := ih p (by simpa using h)
      simp only [List.set_cons_succ, V, List.getD_cons_succ, this, Nat.pow_succ]
      have e : x * (10 ^ p * 10) = 10 * (x * 10 ^ p) := by rw [← Nat.mul_assoc, Nat.mul_comm]
      rw [e]; omega
theorem V_append (S T : List Nat) : V (S ++ T) = V S + V T * 10 ^ S.length := by
  induction S with
  | nil => simp [V]
  | cons y t ih =>
    simp only [List.cons_append, V, ih, List.length_cons, Nat.pow_succ]
    have e : V T * (10 ^ t.length * 10) = 10 * (V T * 10 ^ t.length) := by rw [← Nat.mul_assoc, Nat.mul_comm]
    rw [e]; omega
theorem V_take_succ (S : List Nat) (k : Nat) (h : k < S.length) : V (S.take (k + 1)) = V (S.take k) + S.getD k 0 * 10 ^ k := by
  rw [List.take_succ_eq_append_getElem h, V_append]
  have e : (S.take k).length = k := by rw [List.length_take]; omega
  have e2 : S.getD k 0 = S[k] := by simp [List.getD, h]
  rw [e, e2]
  simp [V]
end Dm
end Go.Proofs.YtppkknmgdahniaaDoor

set_option linter.unusedSimpArgs false
set_option linter.unusedVariables false
namespace Go.Proofs.YtppkknmgdahniaaDoor
set_option maxRecDepth 100000
namespace Dm

end Dm
end Go.Proofs.YtppkknmgdahniaaDoor

set_option linter.unusedSimpArgs false
set_option linter.unusedVariables false
namespace Go.Proofs.YtppkknmgdahniaaDoor
set_option maxRecDepth 100000
namespace Dm

end Dm
end Go.Proofs.YtppkknmgdahniaaDoor

namespace Go.Proofs.YtppkknmgdahniaaDoor
set_option maxRecDepth 100000
set_option linter.unusedVariables false
set_option linter.unusedSimpArgs false
namespace Dm

/-- The decimal that is a number. -/
def ofInt (n : Int) : D := ⟨decide (n < 0), Lib.decDigits n.natAbs, 0⟩
end Dm
end Go.Proofs.YtppkknmgdahniaaDoor

namespace Go.Proofs.YtppkknmgdahniaaDoor
set_option maxRecDepth 100000
set_option linter.unusedVariables false
set_option linter.unusedSimpArgs false
namespace Dm

theorem tl_zeros {l : List UInt8} {k : Nat} (h : tl l = List.replicate k 48) : tl l = [] := by
  by_cases g : tl l = []
  · exact g
  · obtain ⟨c, t, e, hc⟩ := tl_lead l g
    rw [h] at e
    cases k with
    | zero => simp at e
    | succ k => rw [List.replicate_succ] at e; injection e with e1 _; exact absurd e1.symm hc
theorem norm_zero {ng : Bool} {l : List UInt8} (s : Nat) (h : tl l = []) : Rep (sgn ng (num l)) s (some ⟨false, [48], 0⟩) := by
  have e : num l = 0 := by rw [← tl_num, h]; rfl
  rw [e, sgn_zero]; exact zero_rep s
theorem norm_rep {ng : Bool} {l d : List UInt8} {s s' : Nat} (hl : allD l) (hs : s' ≤ s) (h : tl l = d ++ List.replicate (s - s') 48) (hne : d ≠ []) (h2 : s' = 0 ∨ noTail d) : Rep (sgn ng (num l)) s (fin ng d s') := by
  have ha : allD (tl l) := tl_allD hl
  rw [h] at ha
  have hd : allD d := (allD_append.1 ha).1
  have hlead : noLead d := by
    have hn : tl l ≠ [] := by rw [h]; intro e; exact hne (List.append_eq_nil_iff.1 e).1
    obtain ⟨c, t, e, hc⟩ := tl_lead l hn
    rw [h] at e
    cases d with
    | nil => exact absurd rfl hne
    | cons c' t' => injection e with e1 _; exact ⟨c', t', rfl, e1 ▸ hc⟩
  have e : num l = num d * 10 ^ (s - s') := by rw [← tl_num, h, num_append_zeros]
  have := (Rep.up (z := sgn ng (num d)) (s := s') (r := fin ng d s') (s - s')).2 (fin_rep hd hlead h2)
  rw [Nat.add_sub_cancel' hs] at this
  rw [e, sgn_mul]; exact this
theorem tl_step {c : UInt8} {t : List UInt8} (h : c = 48) : tl (c :: t) = tl t := by
  subst h; simp [tl]
theorem tl_stop {l : List UInt8} (h : l = [] ∨ ∃ c t, l = c :: t ∧ c ≠ 48) : tl l = l := by
  rcases h with rfl | ⟨c, t, rfl, h⟩
  · rfl
  · have : (c == 48) = false := beq_eq_false_iff_ne.2 h
    simp [tl, List.dropWhile_cons, this]
theorem back_step {d : List UInt8} {k : Nat} (h0 : 0 < d.length) (h : d[d.length - 1]'(by omega) = 48) : d ++ List.replicate k 48 = d.take (d.length - 1) ++ List.replicate (k + 1) 48 := by
  have e : d = d.take (d.length - 1) ++ [48] := by
    have := List.take_append_getElem (l := d) (i := d.length - 1) (by omega)
    rw [h, show d.length - 1 + 1 = d.length by omega, List.take_length] at this
    exact this.symm
  rw [List.replicate_succ, ← List.singleton_append, ← List.append_assoc, ← e]
theorem back_stop {d : List UInt8} (h0 : 0 < d.length) (h : d[d.length - 1]'(by omega) ≠ 48) : noTail d := by
  have := List.take_append_getElem (l := d) (i := d.length - 1) (by omega)
  rw [show d.length - 1 + 1 = d.length by omega, List.take_length] at this
  exact ⟨_, _, this.symm, h⟩
end Dm
end Go.Proofs.YtppkknmgdahniaaDoor
