/- What is proved here: plain facts on digits, powers of ten and decimals, and what the texts of package dec come to as functions of lists; conditions: none. It imports nothing of any program. What is proved here: plain facts on digits that are added, taken off and multiplied one by one; conditions: none. It imports nothing of any program but plain facts. What is proved here: plain facts on sums of places; conditions: none. It imports nothing of any program but plain facts. What is proved here: plain facts on which of two decimals is the lesser; conditions: none. It imports nothing of any program but plain facts. What is proved here: plain facts on how decimals are printed, and parsed with an exponent behind; conditions: none. It imports nothing of any program but plain facts. -/
set_option linter.unusedSimpArgs false
namespace Go.Proofs.YtppkknmgdahniabDoor
set_option maxRecDepth 100000
namespace Dm

def isD (c : UInt8) : Bool := decide (48 ≤ c.toNat ∧ c.toNat ≤ 57)
def dv (c : UInt8) : Nat := c.toNat - 48
def num (l : List UInt8) : Nat := l.foldl (fun n c => 10 * n + dv c) 0
def allD (l : List UInt8) : Prop := ∀ c ∈ l, isD c = true

theorem isD_iff {c : UInt8} : isD c = true ↔ 48 ≤ c.toNat ∧ c.toNat ≤ 57 := by simp [isD]
theorem dv_le {c : UInt8} (h : isD c = true) : dv c ≤ 9 := by have := isD_iff.1 h; unfold dv; omega
theorem dv_inj {c d : UInt8} (hc : isD c = true) (hd : isD d = true) (h : dv c = dv d) : c = d := by
  have := isD_iff.1 hc; have := isD_iff.1 hd
  unfold dv at h
  exact UInt8.toNat_inj.1 (by omega)
theorem dv_pos {c : UInt8} (h : isD c = true) (hn : c ≠ 48) : 1 ≤ dv c := by
  have := isD_iff.1 h
  have : c.toNat ≠ 48 := fun e => hn (UInt8.toNat_inj.1 (by simpa using e))
  unfold dv; omega
theorem dv_48 : dv 48 = 0 := rfl
theorem allD_nil : allD [] := by intro c h; cases h
theorem allD_cons {c : UInt8} {l : List UInt8} : allD (c :: l) ↔ isD c = true ∧ allD l := by simp [allD]
theorem allD_append {l m : List UInt8} : allD (l ++ m) ↔ allD l ∧ allD m := by
  simp only [allD, List.mem_append]
  exact ⟨fun h => ⟨fun c hc => h c (.inl hc), fun c hc => h c (.inr hc)⟩, fun h c hc => hc.elim (h.1 c) (h.2 c)⟩
theorem allD_zeros (k : Nat) : allD (List.replicate k 48) := by
  intro c h; rw [List.mem_replicate] at h; rw [h.2]; rfl

theorem fold_eq (m : List UInt8) : ∀ a : Nat, m.foldl (fun n c => 10 * n + dv c) a = a * 10 ^ m.length + num m := by
  induction m with
  | nil => intro a; simp [num]
  | cons c t ih =>
    intro a
    have h1 := ih (10 * a + dv c)
    have h2 := ih (10 * 0 + dv c)
    simp only [num, List.foldl_cons, List.length_cons] at *
    rw [h1, h2, Nat.pow_succ, Nat.add_mul]
    simp only [Nat.mul_zero, Nat.zero_add]
    have : 10 * a * 10 ^ t.length = a * (10 ^ t.length * 10) := by
      rw [Nat.mul_comm 10 a, Nat.mul_assoc, Nat.mul_comm 10]
    omega
theorem num_nil : num [] = 0 := rfl
theorem num_append (l m : List UInt8) : num (l ++ m) = num l * 10 ^ m.length + num m := by
  rw [num, List.foldl_append]; exact fold_eq m _
theorem num_one (c : UInt8) : num [c] = dv c := by simp [num]
theorem num_cons (c : UInt8) (l : List UInt8) : num (c :: l) = dv c * 10 ^ l.length + num l := by
  have := num_append [c] l
  rwa [num_one] at this
theorem num_snoc (l : List UInt8) (c : UInt8) : num (l ++ [c]) = 10 * num l + dv c := by
  rw [num_append, num_one]; simp; omega
theorem num_48 (l : List UInt8) : num (48 :: l) = num l := by rw [num_cons, dv_48]; simp
theorem num_zeros (k : Nat) : num (List.replicate k 48) = 0 := by
  induction k with
  | zero => rfl
  | succ k ih => rw [List.replicate_succ, num_48, ih]
theorem num_zeros_append (k : Nat) (l : List UInt8) : num (List.replicate k 48 ++ l) = num l := by
  rw [num_append, num_zeros]; simp
theorem num_append_zeros (l : List UInt8) (k : Nat) : num (l ++ List.replicate k 48) = num l * 10 ^ k := by
  rw [num_append, num_zeros]; simp
theorem num_lt {l : List UInt8} (h : allD l) : num l < 10 ^ l.length := by
  induction l with
  | nil => simp [num]
  | cons c t ih =>
    rw [allD_cons] at h
    have h1 := dv_le h.1
    have h2 := ih h.2
    rw [num_cons, List.length_cons, Nat.pow_succ]
    have : dv c * 10 ^ t.length ≤ 9 * 10 ^ t.length := Nat.mul_le_mul_right _ h1
    omega
theorem num_ge {c : UInt8} {l : List UInt8} (h : isD c = true) (hc : c ≠ 48) : 10 ^ l.length ≤ num (c :: l) := by
  rw [num_cons]
  have : 1 * 10 ^ l.length ≤ dv c * 10 ^ l.length := Nat.mul_le_mul_right _ (dv_pos h hc)
  omega
theorem num_inj {l m : List UInt8} (hl : allD l) (hm : allD m) (hn : l.length = m.length) (h : num l = num m) : l = m := by
  induction l generalizing m with
  | nil => cases m with
    | nil => rfl
    | cons c t => simp at hn
  | cons c t ih => cases m with
    | nil => simp at hn
    | cons d u =>
      rw [allD_cons] at hl hm
      simp only [List.length_cons, Nat.add_right_cancel_iff] at hn
      rw [num_cons, num_cons, hn] at h
      have h1 := num_lt hl.2
      have h2 := num_lt hm.2
      rw [hn] at h1
      have e : dv c = dv d := by
        rcases Nat.lt_trichotomy (dv c) (dv d) with g | g | g
        · have : (dv c + 1) * 10 ^ u.length ≤ dv d * 10 ^ u.length := Nat.mul_le_mul_right _ g
          rw [Nat.add_mul] at this; omega
        · exact g
        · have : (dv d + 1) * 10 ^ u.length ≤ dv c * 10 ^ u.length := Nat.mul_le_mul_right _ g
          rw [Nat.add_mul] at this; omega
      rw [e] at h
      rw [dv_inj hl.1 hm.1 e, ih hl.2 hm.2 hn (by omega)]
theorem pow_lt {a b : Nat} (h : a < b) : 10 ^ a * 10 ≤ 10 ^ b := by
  rw [← Nat.pow_succ]; exact Nat.pow_le_pow_right (by omega) h
theorem pow_pos' (a : Nat) : 0 < 10 ^ a := Nat.pow_pos (by omega)

/-- A list of digits that has no nought ahead. -/
def noLead (l : List UInt8) : Prop := ∃ c t, l = c :: t ∧ c ≠ 48
theorem lead_len {l m : List UInt8} (hl : allD l) (hm : allD m) (ll : noLead l) (lm : noLead m) (h : num l = num m) : l.length = m.length := by
  obtain ⟨c, t, rfl, hc⟩ := ll
  obtain ⟨d, u, rfl, hd⟩ := lm
  have a1 := num_lt hl
  have a2 := num_lt hm
  have b1 := num_ge (l := t) (allD_cons.1 hl).1 hc
  have b2 := num_ge (l := u) (allD_cons.1 hm).1 hd
  simp only [List.length_cons] at *
  rcases Nat.lt_trichotomy t.length u.length with g | g | g
  · have := Nat.pow_le_pow_right (n := 10) (by omega) g
    omega
  · omega
  · have := Nat.pow_le_pow_right (n := 10) (by omega) g
    omega
theorem lead_inj {l m : List UInt8} (hl : allD l) (hm : allD m) (ll : noLead l) (lm : noLead m) (h : num l = num m) : l = m :=
  num_inj hl hm (lead_len hl hm ll lm h) h
theorem lead_pos {l : List UInt8} (hl : allD l) (ll : noLead l) : 1 ≤ num l := by
  obtain ⟨c, t, rfl, hc⟩ := ll
  have := num_ge (l := t) (allD_cons.1 hl).1 hc
  have := pow_pos' t.length
  omega

/-- A decimal: below 0, digits, scale. -/
structure D where
  ng : Bool
  ds : List UInt8
  sc : Nat

/-- The last digit is no nought. -/
def noTail (l : List UInt8) : Prop := ∃ t c, l = t ++ [c] ∧ c ≠ 48
theorem tail_mod {l : List UInt8} (hl : allD l) (h : noTail l) : num l % 10 ≠ 0 := by
  obtain ⟨t, c, rfl, hc⟩ := h
  have hd : isD c = true := hl c (by simp)
  have := dv_pos hd hc
  have := dv_le hd
  rw [num_snoc]; omega

def May (d : D) : Prop := allD d.ds ∧ d.ds.length ≤ 60 ∧ d.sc ≤ 60 ∧ ((d.ds = [48] ∧ d.sc = 0 ∧ d.ng = false) ∨ (noLead d.ds ∧ (d.sc = 0 ∨ noTail d.ds)))

def p10 (k : Nat) : Int := ((10 ^ k : Nat) : Int)
theorem p10_add (a b : Nat) : p10 (a + b) = p10 a * p10 b := by simp [p10, Nat.pow_add]
theorem p10_pos (k : Nat) : 0 < p10 k := by have := pow_pos' k; unfold p10; omega
theorem p10_zero : p10 0 = 1 := rfl
theorem p10_succ (k : Nat) : p10 (k + 1) = p10 k * 10 := by rw [p10_add]; rfl
theorem p10_cancel {a b : Int} {k : Nat} (h : a * p10 k = b * p10 k) : a = b :=
  Int.eq_of_mul_eq_mul_right (by have := p10_pos k; omega) h

def sgn (b : Bool) (n : Nat) : Int := if b then -(n : Int) else n
theorem sgn_mul (b : Bool) (n m : Nat) : sgn b (n * m) = sgn b n * (m : Int) := by
  cases b <;> simp [sgn, Int.neg_mul]
theorem sgn_abs (b : Bool) (n : Nat) : (sgn b n).natAbs = n := by cases b <;> simp [sgn]
theorem sgn_zero (b : Bool) : sgn b 0 = 0 := by cases b <;> rfl
def sg (d : D) : Int := sgn d.ng (num d.ds)

theorem num_zero_of_may {d : D} (h : May d) : num d.ds = 0 ↔ d.ds = [48] := by
  obtain ⟨h1, _, _, h4⟩ := h
  rcases h4 with ⟨h, _, _⟩ | ⟨h, _⟩
  · rw [h]; simp [num, dv]
  · have := lead_pos h1 h
    constructor
    · omega
    · intro e; rw [e] at this; simp [num, dv] at this

theorem may_inj_le {d e : D} (hd : May d) (he : May e) (hs : d.sc ≤ e.sc) (h : sg d * p10 e.sc = sg e * p10 d.sc) : d = e := by
  obtain ⟨k, hk⟩ : ∃ k, e.sc = d.sc + k := ⟨e.sc - d.sc, by omega⟩
  have h1 : sg d * p10 k = sg e := by
    rw [hk, Nat.add_comm, p10_add, ← Int.mul_assoc] at h
    exact p10_cancel h
  have h2 : num d.ds * 10 ^ k = num e.ds := by
    have := congrArg Int.natAbs h1
    rw [Int.natAbs_mul] at this
    simpa [sg, sgn_abs, p10] using this
  have h0 := num_zero_of_may hd
  have h0' := num_zero_of_may he
  by_cases z : num d.ds = 0
  · have z' : num e.ds = 0 := by rw [← h2, z]; simp
    have a := h0.1 z
    have b := h0'.1 z'
    obtain ⟨_, _, _, hd4⟩ := hd
    obtain ⟨_, _, _, he4⟩ := he
    rcases hd4 with ⟨_, x1, x2⟩ | ⟨⟨c, t, x, y⟩, _⟩
    · rcases he4 with ⟨_, y1, y2⟩ | ⟨⟨c, t, x, y⟩, _⟩
      · cases d; cases e; simp_all
      · rw [b] at x; cases x; exact absurd rfl y
    · rw [a] at x; cases x; exact absurd rfl y
  · obtain ⟨d1, _, _, hd4⟩ := hd
    obtain ⟨e1, _, _, he4⟩ := he
    have pk := pow_pos' k
    have z' : num e.ds ≠ 0 := by
      rw [← h2]; intro hz
      rcases Nat.mul_eq_zero.1 hz with g | g
      · exact z g
      · omega
    have ld : noLead d.ds := by
      rcases hd4 with ⟨x, _⟩ | ⟨x, _⟩
      · exact absurd (h0.2 x) z
      · exact x
    have le : noLead e.ds ∧ (e.sc = 0 ∨ noTail e.ds) := by
      rcases he4 with ⟨x, _⟩ | x
      · exact absurd (h0'.2 x) z'
      · exact x
    have k0 : k = 0 := by
      rcases le.2 with g | g
      · omega
      · have := tail_mod e1 g
        cases k with
        | zero => rfl
        | succ j =>
          exfalso; apply this
          rw [← h2, Nat.pow_succ, ← Nat.mul_assoc, Nat.mul_mod_left]
    subst k0
    have hn : num d.ds = num e.ds := by simpa using h2
    have e1' := lead_inj d1 e1 ld le.1 hn
    have e2 : sg d = sg e := by simpa [p10] using h1
    have e3 : d.ng = e.ng := by
      simp only [sg, sgn, hn] at e2
      cases hdn : d.ng <;> cases hen : e.ng <;> simp [hdn, hen] at e2 ⊢ <;> omega
    have e4 : d.sc = e.sc := by omega
    cases d; cases e; simp_all
theorem may_inj {d e : D} (hd : May d) (he : May e) (h : sg d * p10 e.sc = sg e * p10 d.sc) : d = e := by
  by_cases g : d.sc ≤ e.sc
  · exact may_inj_le hd he g h
  · exact (may_inj_le he hd (by omega) h.symm).symm

/-- 'r' is the decimal of z divided by ten s times, or there is none. -/
def Rep (z : Int) (s : Nat) (r : Option D) : Prop :=
  match r with
  | some d => May d ∧ sg d * p10 s = z * p10 d.sc
  | none => ∀ d, May d → sg d * p10 s ≠ z * p10 d.sc

theorem eqv_trans {d e : D} {z : Int} {s : Nat} (h1 : sg d * p10 s = z * p10 d.sc) (h2 : sg e * p10 s = z * p10 e.sc) : sg d * p10 e.sc = sg e * p10 d.sc := by
  apply p10_cancel (k := s)
  rw [Int.mul_right_comm, h1, Int.mul_right_comm, Int.mul_right_comm (sg e), h2]
theorem Rep.uniq {z : Int} {s : Nat} {r r' : Option D} (h : Rep z s r) (h' : Rep z s r') : r = r' := by
  cases r with
  | none => cases r' with
    | none => rfl
    | some e => exact absurd h'.2 (h e h'.1)
  | some d => cases r' with
    | none => exact absurd h.2 (h' d h.1)
    | some e => rw [may_inj h.1 h'.1 (eqv_trans h.2 h'.2)]
theorem Rep.up {z : Int} {s : Nat} {r : Option D} (k : Nat) : Rep (z * p10 k) (s + k) r ↔ Rep z s r := by
  have key : ∀ d : D, sg d * p10 (s + k) = z * p10 k * p10 d.sc ↔ sg d * p10 s = z * p10 d.sc := by
    intro d
    rw [p10_add, ← Int.mul_assoc, Int.mul_right_comm z]
    exact ⟨fun h => p10_cancel h, fun h => by rw [h]⟩
  cases r with
  | none => simp only [Rep, ne_eq, key]
  | some d => simp only [Rep, key]
theorem Rep.of_may {d : D} (h : May d) : Rep (sg d) d.sc (some d) := ⟨h, rfl⟩
theorem Rep.of_eqv {d : D} {z : Int} {s : Nat} (h : May d) (e : sg d * p10 s = z * p10 d.sc) : Rep z s (some d) := ⟨h, e⟩

/-- The last step of both texts: digits without noughts ahead, and behind the point. -/
def fin (ng : Bool) (l : List UInt8) (s : Nat) : Option D := if 60 < l.length ∨ 60 < s then none else some ⟨ng, l, s⟩
theorem fin_rep {ng : Bool} {l : List UInt8} {s : Nat} (hl : allD l) (h1 : noLead l) (h2 : s = 0 ∨ noTail l) : Rep (sgn ng (num l)) s (fin ng l s) := by
  unfold fin
  by_cases h : 60 < l.length ∨ 60 < s
  · rw [if_pos h]
    intro d hd e
    have e' : num d.ds * 10 ^ s = num l * 10 ^ d.sc := by
      have := congrArg Int.natAbs e
      rw [Int.natAbs_mul, Int.natAbs_mul] at this
      simpa [sg, sgn_abs, p10] using this
    obtain ⟨m1, m2, m3, _⟩ := hd
    have hlt := num_lt m1
    have p60 : 10 ^ d.ds.length ≤ 10 ^ 60 := Nat.pow_le_pow_right (by omega) m2
    have hpos := lead_pos hl h1
    by_cases g : d.sc < s
    · obtain ⟨k, hk⟩ : ∃ k, s = d.sc + (k + 1) := ⟨s - d.sc - 1, by omega⟩
      have h3 : num d.ds * 10 ^ (k + 1) = num l := by
        rw [hk, Nat.pow_add, Nat.mul_comm (10 ^ d.sc), ← Nat.mul_assoc] at e'
        exact Nat.eq_of_mul_eq_mul_right (pow_pos' d.sc) e'
      rcases h2 with g2 | g2
      · omega
      · apply tail_mod hl g2
        rw [← h3, Nat.pow_succ, ← Nat.mul_assoc, Nat.mul_mod_left]
    · obtain ⟨k, hk⟩ : ∃ k, d.sc = s + k := ⟨d.sc - s, by omega⟩
      have h3 : num d.ds = num l * 10 ^ k := by
        rw [hk, Nat.pow_add, Nat.mul_comm (10 ^ s), ← Nat.mul_assoc] at e'
        exact Nat.eq_of_mul_eq_mul_right (pow_pos' s) e'
      have hl60 : 60 < l.length := by omega
      obtain ⟨c, t, rfl, hc⟩ := h1
      have b := num_ge (l := t) (allD_cons.1 hl).1 hc
      simp only [List.length_cons] at hl60
      have : 10 ^ 60 ≤ 10 ^ t.length := Nat.pow_le_pow_right (by omega) (by omega)
      have : num (c :: t) * 1 ≤ num (c :: t) * 10 ^ k := Nat.mul_le_mul_left _ (pow_pos' k)
      omega
  · rw [if_neg h]
    exact ⟨⟨hl, by simp; omega, by simp; omega, .inr ⟨h1, h2⟩⟩, rfl⟩
theorem zero_may : May ⟨false, [48], 0⟩ := ⟨by intro c h; simp at h; rw [h]; rfl, by simp, by simp, .inl ⟨rfl, rfl, rfl⟩⟩
theorem zero_rep (s : Nat) : Rep 0 s (some ⟨false, [48], 0⟩) := ⟨zero_may, by simp [sg, sgn, num, dv]⟩
end Dm
end Go.Proofs.YtppkknmgdahniabDoor
namespace Go.Proofs.YtppkknmgdahniabDoor
set_option maxRecDepth 100000
namespace Dm

def tl (l : List UInt8) : List UInt8 := l.dropWhile (fun c => c == 48)
def tr (l : List UInt8) : List UInt8 := (l.reverse.dropWhile (fun c => c == 48)).reverse

theorem dropZ (l : List UInt8) : ∃ j, l = List.replicate j 48 ++ l.dropWhile (fun c => c == 48) := by
  induction l with
  | nil => exact ⟨0, rfl⟩
  | cons c t ih =>
    by_cases h : c = 48
    · obtain ⟨j, hj⟩ := ih
      refine ⟨j + 1, ?_⟩
      subst h
      simp only [List.dropWhile_cons, beq_self_eq_true, ite_true, List.replicate_succ, List.cons_append]
      rw [← hj]
    · exact ⟨0, by simp [List.dropWhile_cons, h]⟩
theorem tl_spec (l : List UInt8) : ∃ j, l = List.replicate j 48 ++ tl l := dropZ l
theorem tl_lead (l : List UInt8) (h : tl l ≠ []) : noLead (tl l) := by
  unfold tl at *
  induction l with
  | nil => exact absurd rfl h
  | cons c t ih =>
    by_cases e : c = 48
    · subst e
      simp only [List.dropWhile_cons, beq_self_eq_true, ite_true] at h ⊢
      exact ih h
    · have : (c :: t).dropWhile (fun c => c == 48) = c :: t := by simp [List.dropWhile_cons, e]
      rw [this]; exact ⟨c, t, rfl, e⟩
theorem tr_spec (l : List UInt8) : l = tr l ++ List.replicate (l.length - (tr l).length) 48 := by
  obtain ⟨j, hj⟩ := dropZ l.reverse
  have h := congrArg List.reverse hj
  rw [List.reverse_reverse, List.reverse_append, List.reverse_replicate] at h
  have hl : l.length - (tr l).length = j := by
    have := congrArg List.length h
    simp only [List.length_append, List.length_replicate] at this
    unfold tr; omega
  rw [hl]; exact h
theorem tr_tail (l : List UInt8) (h : tr l ≠ []) : noTail (tr l) := by
  unfold tr at *
  have h' : tl l.reverse ≠ [] := fun e => h (by unfold tl at e; rw [e]; rfl)
  obtain ⟨c, t, e, hc⟩ := tl_lead _ h'
  unfold tl at e
  rw [e]
  exact ⟨t.reverse, c, by simp, hc⟩
theorem tr_le (l : List UInt8) : (tr l).length ≤ l.length := by
  have := congrArg List.length (tr_spec l)
  simp only [List.length_append, List.length_replicate] at this
  omega
theorem tr_lead {l : List UInt8} (h : noLead l) : noLead (tr l) := by
  obtain ⟨c, t, e, hc⟩ := h
  have hs := tr_spec l
  cases hk : tr l with
  | nil =>
    rw [hk] at hs
    simp only [List.nil_append, List.length_nil, Nat.sub_zero] at hs
    rw [e, List.length_cons, List.replicate_succ] at hs
    injection hs with h1
    exact absurd h1 hc
  | cons d u =>
    rw [hk, e] at hs
    injection hs with h1
    exact ⟨d, u, rfl, h1 ▸ hc⟩
theorem noLead_ne {l : List UInt8} (h : noLead l) : l ≠ [] := by obtain ⟨c, t, rfl, _⟩ := h; exact fun e => by cases e
theorem tl_allD {l : List UInt8} (h : allD l) : allD (tl l) := by
  obtain ⟨j, hj⟩ := tl_spec l
  rw [hj] at h; exact (allD_append.1 h).2
theorem tr_allD {l : List UInt8} (h : allD l) : allD (tr l) := by
  rw [tr_spec l] at h; exact (allD_append.1 h).1
theorem tl_num (l : List UInt8) : num (tl l) = num l := by
  obtain ⟨j, hj⟩ := tl_spec l
  have := num_zeros_append j (tl l)
  rw [← hj] at this; exact this.symm

/-- What 'fit' comes to. -/
def fitL (ng : Bool) (l : List UInt8) (sc : Int) : Option D :=
  if tl l = [] then some ⟨false, [48], 0⟩ else
  if 60 < sc - ((tl l).length - (tr (tl l)).length : Nat) ∨ 60 < ((tr (tl l)).length : Int) + (-(sc - ((tl l).length - (tr (tl l)).length : Nat))).toNat then none
  else some ⟨ng, tr (tl l) ++ List.replicate (-(sc - ((tl l).length - (tr (tl l)).length : Nat))).toNat 48, (sc - ((tl l).length - (tr (tl l)).length : Nat)).toNat⟩

theorem fit_fin (ng : Bool) (l : List UInt8) (sc : Int) (h : tl l ≠ []) : fitL ng l sc = fin ng (tr (tl l) ++ List.replicate (-(sc - ((tl l).length - (tr (tl l)).length : Nat))).toNat 48) (sc - ((tl l).length - (tr (tl l)).length : Nat)).toNat := by
  unfold fitL fin
  rw [if_neg h]
  generalize sc - ((tl l).length - (tr (tl l)).length : Nat) = s
  have e : (60 < s ∨ 60 < ((tr (tl l)).length : Int) + (-s).toNat) ↔ (60 < (tr (tl l) ++ List.replicate (-s).toNat 48).length ∨ 60 < s.toNat) := by
    simp only [List.length_append, List.length_replicate]; omega
  by_cases g : 60 < s ∨ 60 < ((tr (tl l)).length : Int) + (-s).toNat
  · rw [if_pos g, if_pos (e.1 g)]
  · rw [if_neg g, if_neg (fun x => g (e.2 x))]

theorem fit_rep (ng : Bool) {l : List UInt8} (hl : allD l) (sc : Int) : Rep (sgn ng (num l) * p10 (-sc).toNat) sc.toNat (fitL ng l sc) := by
  by_cases h : tl l = []
  · have z : num l = 0 := by rw [← tl_num, h]; rfl
    unfold fitL
    rw [if_pos h, z, sgn_zero, Int.zero_mul]
    exact zero_rep _
  · have hlead := tl_lead l h
    have hk := tr_lead hlead
    have hkn := noLead_ne hk
    have ht := tr_tail (tl l) hkn
    have hd := tr_allD (tl_allD hl)
    have hsp := tr_spec (tl l)
    have hnum : num l = num (tr (tl l)) * 10 ^ ((tl l).length - (tr (tl l)).length) := by
      rw [← num_append_zeros, ← hsp, tl_num]
    rw [fit_fin ng l sc h]
    generalize (tl l).length - (tr (tl l)).length = j at *
    generalize hkk : tr (tl l) = k at *
    have hf := fin_rep (ng := ng) (l := k ++ List.replicate (-(sc - (j : Nat))).toNat 48) (s := (sc - (j : Nat)).toNat) (allD_append.2 ⟨hd, allD_zeros _⟩)
      (by obtain ⟨c, t, e, hc⟩ := hk; exact ⟨c, t ++ _, by rw [e]; rfl, hc⟩)
      (by
        by_cases g : sc - (j : Nat) ≤ 0
        · left; omega
        · right
          have : (-(sc - (j : Nat))).toNat = 0 := by omega
          rw [this]; simpa using ht)
    rw [num_append_zeros] at hf
    have hu := (Rep.up (sc.toNat - (sc - (j : Nat)).toNat)).2 hf
    have e1 : (sc - (j : Nat)).toNat + (sc.toNat - (sc - (j : Nat)).toNat) = sc.toNat := by omega
    rw [e1] at hu
    have e2 : sgn ng (num k * 10 ^ (-(sc - (j : Nat))).toNat) * p10 (sc.toNat - (sc - (j : Nat)).toNat) = sgn ng (num l) * p10 (-sc).toNat := by
      rw [hnum, sgn_mul, sgn_mul, Int.mul_assoc, Int.mul_assoc]
      show sgn ng (num k) * (p10 _ * p10 _) = sgn ng (num k) * (p10 _ * p10 _)
      rw [← p10_add, ← p10_add]
      congr 2
      omega
    rw [e2] at hu
    exact hu

/-- What 'May' comes to. -/
def mayB (ng : Bool) (l : List UInt8) (s : Int) : Bool :=
  decide (1 ≤ l.length ∧ l.length ≤ 60 ∧ 0 ≤ s ∧ s ≤ 60) && l.all isD && (if l = [48] then (decide (s = 0) && !ng) else (l.headD 0 != 48 && (decide (s = 0) || l.getLastD 0 != 48)))

theorem allD_all {l : List UInt8} : l.all isD = true ↔ allD l := by simp [allD, List.all_eq_true]
theorem noLead_iff {l : List UInt8} (h : 1 ≤ l.length) : (l.headD 0 != 48) = true ↔ noLead l := by
  cases l with
  | nil => simp at h
  | cons c t =>
    simp only [List.headD_cons, bne_iff_ne, ne_eq]
    exact ⟨fun e => ⟨c, t, rfl, e⟩, fun ⟨d, u, e, hd⟩ => by cases e; exact hd⟩
theorem noTail_iff {l : List UInt8} (h : 1 ≤ l.length) : (l.getLastD 0 != 48) = true ↔ noTail l := by
  rcases List.eq_nil_or_concat l with rfl | ⟨t, c, rfl⟩
  · simp at h
  · have : (t ++ [c]).getLastD 0 = c := by simp [List.getLastD_eq_getLast?]
    rw [List.concat_eq_append, this]
    simp only [bne_iff_ne, ne_eq]
    refine ⟨fun e => ⟨t, c, rfl, e⟩, fun ⟨u, d, e, hd⟩ => ?_⟩
    have := List.append_inj' e rfl
    simp at this
    rw [this.2]; exact hd
theorem mayB_iff {ng : Bool} {l : List UInt8} {s : Int} : mayB ng l s = true ↔ 0 ≤ s ∧ May ⟨ng, l, s.toNat⟩ := by
  unfold mayB
  simp only [Bool.and_eq_true, decide_eq_true_eq, allD_all]
  constructor
  · rintro ⟨⟨⟨h1, h2, h3, h4⟩, h5⟩, h6⟩
    refine ⟨h3, h5, h2, by simp; omega, ?_⟩
    by_cases e : l = [48]
    · rw [if_pos e] at h6
      simp only [Bool.and_eq_true, decide_eq_true_eq, Bool.not_eq_true'] at h6
      exact .inl ⟨e, by simp; omega, h6.2⟩
    · rw [if_neg e] at h6
      simp only [Bool.and_eq_true, Bool.or_eq_true, decide_eq_true_eq, noLead_iff h1, noTail_iff h1] at h6
      exact .inr ⟨h6.1, h6.2.elim (fun x => .inl (by simp; omega)) .inr⟩
  · rintro ⟨h3, h5, h2, h4, h6⟩
    simp only at h5 h2 h4 h6
    have h1 : 1 ≤ l.length := by
      rcases h6 with ⟨e, _⟩ | ⟨⟨c, t, e, _⟩, _⟩ <;> rw [e] <;> simp
    refine ⟨⟨⟨h1, h2, h3, by omega⟩, h5⟩, ?_⟩
    rcases h6 with ⟨e, e1, e2⟩ | ⟨e1, e2⟩
    · rw [if_pos e]; simp only [Bool.and_eq_true, decide_eq_true_eq, Bool.not_eq_true']; exact ⟨by omega, e2⟩
    · have : l ≠ [48] := by rintro rfl; obtain ⟨c, t, e, hc⟩ := e1; cases e; exact hc rfl
      rw [if_neg this]
      simp only [Bool.and_eq_true, Bool.or_eq_true, decide_eq_true_eq, noLead_iff h1, noTail_iff h1]
      exact ⟨e1, e2.elim (fun x => .inl (by omega)) .inr⟩

/-- A decimal that may be is fitted to itself, whatever noughts stand ahead. -/
theorem fit_may {d : D} (h : May d) (k : Nat) : fitL d.ng (List.replicate k 48 ++ d.ds) d.sc = some d := by
  have hr := fit_rep d.ng (allD_append.2 ⟨allD_zeros k, h.1⟩) (d.sc : Int)
  rw [num_zeros_append] at hr
  have e : sgn d.ng (num d.ds) * p10 (-(d.sc : Int)).toNat = sg d := by
    rw [show (-(d.sc : Int)).toNat = 0 by omega, p10_zero, Int.mul_one]; rfl
  rw [e, Int.toNat_natCast] at hr
  exact hr.uniq (Rep.of_may h)

/-- What 'Print' comes to. -/
def printL (d : D) : List UInt8 :=
  (if d.ng then [45] else []) ++ (if d.ds.length ≤ d.sc then [48, 46] ++ List.replicate (d.sc - d.ds.length) 48 ++ d.ds else d.ds.take (d.ds.length - d.sc) ++ (if 0 < d.sc then 46 :: d.ds.drop (d.ds.length - d.sc) else []))

/-- What 'exponent' comes to. -/
def expL (l : List UInt8) : Option Int :=
  match l with
  | [] => some 0
  | c :: t =>
    if c ≠ 101 ∧ c ≠ 69 then none else
    let below := t.head? == some 45
    let u := if t.head? == some 45 || t.head? == some 43 then t.tail else t
    if u.length < 1 ∨ 2 < u.length then none else
    if u.all isD then some (if below then -(num u : Int) else (num u : Int)) else none

/-- What 'Parse' comes to: no number; too big; or a decimal. -/
def parseU (ng : Bool) (u : List UInt8) : Option (Option D) :=
  if u.takeWhile isD = [] ∨ (1 < (u.takeWhile isD).length ∧ (u.takeWhile isD).headD 0 = 48) then none else
  if (u.dropWhile isD).headD 0 = 46 then
    if (u.dropWhile isD).tail.takeWhile isD = [] then none else
    (expL ((u.dropWhile isD).tail.dropWhile isD)).map fun t => fitL ng (u.takeWhile isD ++ (u.dropWhile isD).tail.takeWhile isD) (((u.dropWhile isD).tail.takeWhile isD).length - t)
  else (expL (u.dropWhile isD)).map fun t => fitL ng (u.takeWhile isD) (0 - t)
def parseL (l : List UInt8) : Option (Option D) :=
  if l.headD 0 = 45 then parseU true l.tail else parseU false l

theorem takeWhile_all {l m : List UInt8} (h : allD l) (hm : ∀ c t, m = c :: t → isD c = false) : (l ++ m).takeWhile isD = l ∧ (l ++ m).dropWhile isD = m := by
  induction l with
  | nil =>
    cases m with
    | nil => exact ⟨rfl, rfl⟩
    | cons c t => have := hm c t rfl; simp [List.takeWhile_cons, List.dropWhile_cons, this]
  | cons c t ih =>
    rw [allD_cons] at h
    have := ih h.2
    simp [List.takeWhile_cons, List.dropWhile_cons, h.1, this.1, this.2]
theorem takeWhile_allD (l : List UInt8) : allD (l.takeWhile isD) := by
  induction l with
  | nil => exact allD_nil
  | cons c t ih =>
    rw [List.takeWhile_cons]
    cases h : isD c with
    | true => rw [if_pos rfl]; exact allD_cons.2 ⟨h, ih⟩
    | false => rw [if_neg (by simp)]; exact allD_nil

theorem parseU_may {ng : Bool} {u : List UInt8} {d : D} (h : parseU ng u = some (some d)) : May d := by
  have key : ∀ (l : List UInt8) (sc : Int), allD l → fitL ng l sc = some d → May d := by
    intro l sc hl hf
    have := fit_rep ng hl sc
    rw [hf] at this; exact this.1
  unfold parseU at h
  split at h
  · cases h
  · split at h
    · split at h
      · cases h
      · obtain ⟨t, _, ht⟩ := Option.map_eq_some_iff.1 h
        exact key _ _ (allD_append.2 ⟨takeWhile_allD _, takeWhile_allD _⟩) ht
    · obtain ⟨t, _, ht⟩ := Option.map_eq_some_iff.1 h
      exact key _ _ (takeWhile_allD _) ht
theorem parse_may {l : List UInt8} {d : D} (h : parseL l = some (some d)) : May d := by
  unfold parseL at h
  split at h
  · exact parseU_may h
  · exact parseU_may h

theorem parseU_whole {ng : Bool} {w : List UInt8} (hw : allD w) (h1 : w ≠ []) (h2 : w.length = 1 ∨ w.headD 0 ≠ 48) : parseU ng w = some (fitL ng w 0) := by
  have a := takeWhile_all (m := []) hw (by simp)
  rw [List.append_nil] at a
  unfold parseU
  rw [a.1, a.2, if_neg, if_neg]
  · simp [expL]
  · simp
  · rintro (e | ⟨e, e'⟩)
    · exact h1 e
    · rcases h2 with g | g
      · omega
      · exact g e'
theorem parseU_point {ng : Bool} {w p : List UInt8} (hw : allD w) (hp : allD p) (h1 : w ≠ []) (h2 : w.length = 1 ∨ w.headD 0 ≠ 48) (h3 : p ≠ []) : parseU ng (w ++ 46 :: p) = some (fitL ng (w ++ p) p.length) := by
  have a := takeWhile_all (m := 46 :: p) hw (by intro c t e; cases e; rfl)
  have b := takeWhile_all (m := []) hp (by simp)
  rw [List.append_nil] at b
  unfold parseU
  rw [a.1, a.2, if_neg, if_pos (by rfl), List.tail_cons, b.1, b.2, if_neg h3]
  · simp [expL]
  · rintro (e | ⟨e, e'⟩)
    · exact h1 e
    · rcases h2 with g | g
      · omega
      · exact g e'
theorem headD_digit {w : List UInt8} (hw : allD w) (h1 : w ≠ []) (m : List UInt8) : (w ++ m).headD 0 ≠ 45 := by
  cases w with
  | nil => exact absurd rfl h1
  | cons c t =>
    have := isD_iff.1 (allD_cons.1 hw).1
    simp only [List.cons_append, List.headD_cons]
    rintro rfl
    simp at this
theorem parse_sign (ng : Bool) {w m : List UInt8} (hw : allD w) (h1 : w ≠ []) : parseL ((if ng then [45] else []) ++ (w ++ m)) = parseU ng (w ++ m) := by
  unfold parseL
  cases ng with
  | true => simp
  | false => simp only [Bool.false_eq_true, if_false, List.nil_append]; rw [if_neg (headD_digit hw h1 m)]

theorem parse_print {d : D} (h : May d) : parseL (printL d) = some (some d) := by
  have hm := h
  obtain ⟨h1, h2, h3, h4⟩ := h
  have hne : d.ds ≠ [] := by
    rcases h4 with ⟨e, _⟩ | ⟨e, _⟩
    · rw [e]; simp
    · exact noLead_ne e
  have hlead : d.ds.length = 1 ∨ d.ds.headD 0 ≠ 48 := by
    rcases h4 with ⟨e, _⟩ | ⟨⟨c, t, e, hc⟩, _⟩
    · left; rw [e]; rfl
    · right; rw [e]; exact hc
  have hpos : 1 ≤ d.ds.length := by
    cases hd : d.ds with
    | nil => exact absurd hd hne
    | cons => simp
  unfold printL
  by_cases hs : d.ds.length ≤ d.sc
  · rw [if_pos hs]
    have e : [48, 46] ++ List.replicate (d.sc - d.ds.length) 48 ++ d.ds = [48] ++ 46 :: (List.replicate (d.sc - d.ds.length) 48 ++ d.ds) := by simp
    have h48 : allD [48] := by intro c hc; simp at hc; rw [hc]; rfl
    rw [e, parse_sign d.ng h48 (by simp), parseU_point h48 (allD_append.2 ⟨allD_zeros _, h1⟩) (by simp) (.inl rfl) (by simp [hne])]
    have e2 : [48] ++ (List.replicate (d.sc - d.ds.length) 48 ++ d.ds) = List.replicate (d.sc - d.ds.length + 1) 48 ++ d.ds := by
      rw [List.replicate_succ]; rfl
    have e3 : ((List.replicate (d.sc - d.ds.length) 48 ++ d.ds).length : Int) = d.sc := by simp; omega
    rw [e2, e3, fit_may hm]
  · rw [if_neg hs]
    by_cases h0 : 0 < d.sc
    · rw [if_pos h0]
      have ha : allD (d.ds.take (d.ds.length - d.sc)) := fun c hc => h1 c (List.mem_of_mem_take hc)
      have hb : allD (d.ds.drop (d.ds.length - d.sc)) := fun c hc => h1 c (List.mem_of_mem_drop hc)
      have hn : d.ds.take (d.ds.length - d.sc) ≠ [] := by
        intro e
        have := congrArg List.length e
        simp at this; omega
      have hl : (d.ds.take (d.ds.length - d.sc)).length = 1 ∨ (d.ds.take (d.ds.length - d.sc)).headD 0 ≠ 48 := by
        rcases h4 with ⟨_, e, _⟩ | ⟨⟨c, t, e, hc⟩, _⟩
        · omega
        · right
          obtain ⟨n, hn'⟩ : ∃ n, d.ds.length - d.sc = n + 1 := ⟨d.ds.length - d.sc - 1, by omega⟩
          rw [hn', e]; exact hc
      rw [parse_sign d.ng ha hn, parseU_point ha hb hn hl (by intro e; have := congrArg List.length e; simp at this; omega)]
      rw [List.take_append_drop]
      have e3 : ((d.ds.drop (d.ds.length - d.sc)).length : Int) = d.sc := by simp; omega
      rw [e3]
      exact congrArg some (fit_may hm 0)
    · rw [if_neg h0]
      have e0 : d.sc = 0 := by omega
      have e1 : d.ds.take (d.ds.length - d.sc) = d.ds := by rw [e0]; simp
      rw [e1, parse_sign d.ng h1 hne, List.append_nil, parseU_whole h1 hne hlead]
      have := fit_may hm 0
      rw [e0] at this
      exact congrArg some this
end Dm
end Go.Proofs.YtppkknmgdahniabDoor

set_option linter.unusedSimpArgs false
set_option linter.unusedVariables false
namespace Go.Proofs.YtppkknmgdahniabDoor
set_option maxRecDepth 100000
namespace Dm

/-- The digit that has i others behind it. -/
def dAt (l : List UInt8) (i : Int) : Nat := if 0 ≤ i ∧ i < (l.length : Int) then dv (l.getD (l.length - 1 - i.toNat) 48) else 0

theorem digit_mid (p : List UInt8) (c : UInt8) (q : List UInt8) (hc : isD c = true) (hq : allD q) : num (p ++ c :: q) / 10 ^ q.length % 10 = dv c := by
  have h1 := num_lt hq
  have h2 := dv_le hc
  have hp := pow_pos' q.length
  have e : num (p ++ c :: q) = num q + 10 ^ q.length * (num p * 10 + dv c) := by
    rw [num_append, num_cons, List.length_cons, Nat.pow_succ]
    have e1 : num p * (10 ^ q.length * 10) = 10 ^ q.length * (num p * 10) := by
      rw [← Nat.mul_assoc, Nat.mul_comm (num p), Nat.mul_assoc]
    have e2 : dv c * 10 ^ q.length = 10 ^ q.length * dv c := Nat.mul_comm _ _
    rw [e1, e2, Nat.mul_add]; omega
  rw [e, Nat.add_mul_div_left _ _ hp, Nat.div_eq_of_lt h1]
  omega
theorem digit_nat {l : List UInt8} (h : allD l) (j : Nat) : num l / 10 ^ j % 10 = if j < l.length then dv (l.getD (l.length - 1 - j) 48) else 0 := by
  by_cases g : j < l.length
  · rw [if_pos g]
    have hi : l.length - 1 - j < l.length := by omega
    have hd := List.drop_eq_getElem_cons hi
    have hl : l = l.take (l.length - 1 - j) ++ l[l.length - 1 - j] :: l.drop (l.length - 1 - j + 1) := by
      rw [← hd, List.take_append_drop]
    have hq : (l.drop (l.length - 1 - j + 1)).length = j := by rw [List.length_drop]; omega
    have := digit_mid (l.take (l.length - 1 - j)) l[l.length - 1 - j] (l.drop (l.length - 1 - j + 1)) (h _ (List.getElem_mem hi)) (fun c hc => h c (List.mem_of_mem_drop hc))
    rw [hq, ← hl] at this
    rw [this]
    simp [List.getD, List.getElem?_eq_getElem hi]
  · rw [if_neg g]
    have h1 := num_lt h
    have : 10 ^ l.length ≤ 10 ^ j := Nat.pow_le_pow_right (by omega) (by omega)
    rw [Nat.div_eq_of_lt (by omega)]
theorem dAt_nat {l : List UInt8} (h : allD l) (m k : Nat) : dAt l ((k : Int) - (m : Int)) = num l * 10 ^ m / 10 ^ k % 10 := by
  by_cases g : k < m
  · obtain ⟨d, rfl⟩ : ∃ d, m = k + 1 + d := ⟨m - k - 1, by omega⟩
    have e : num l * 10 ^ (k + 1 + d) = 10 ^ k * (num l * 10 ^ d * 10) := by
      rw [Nat.pow_add, Nat.pow_succ]
      simp only [Nat.mul_comm, Nat.mul_left_comm, Nat.mul_assoc]
    rw [e, Nat.mul_div_cancel_left _ (pow_pos' k), Nat.mul_mod_left]
    unfold dAt
    rw [if_neg (by omega)]
  · obtain ⟨j, rfl⟩ : ∃ j, k = m + j := ⟨k - m, by omega⟩
    have e : num l * 10 ^ m / 10 ^ (m + j) = num l / 10 ^ j := by
      rw [Nat.pow_add, ← Nat.div_div_eq_div_mul, Nat.mul_div_cancel _ (pow_pos' m)]
    rw [e, digit_nat h j]
    unfold dAt
    by_cases g2 : j < l.length
    · rw [if_pos (by omega), if_pos g2]
      congr 2
      omega
    · rw [if_neg (by omega), if_neg g2]
theorem dAt_le {l : List UInt8} (h : allD l) (i : Int) : dAt l i ≤ 9 := by
  unfold dAt
  by_cases g : 0 ≤ i ∧ i < (l.length : Int)
  · rw [if_pos g]
    have hi : l.length - 1 - i.toNat < l.length := by omega
    apply dv_le
    simp only [List.getD, List.getElem?_eq_getElem hi, Option.getD_some]
    exact h _ (List.getElem_mem hi)
  · rw [if_neg g]; omega

/-- One step of adding, or of taking off, digit by digit. -/
theorem step_add {A B k low : Nat} {s c t : Int} (h : ((A % 10 ^ k : Nat) : Int) + s * ((B % 10 ^ k : Nat) : Int) = (low : Int) + c * p10 k)
    (ht : t = ((A / 10 ^ k % 10 : Nat) : Int) + s * ((B / 10 ^ k % 10 : Nat) : Int) + c + 10) (h0 : 0 ≤ t) :
    ((A % 10 ^ (k + 1) : Nat) : Int) + s * ((B % 10 ^ (k + 1) : Nat) : Int) = (((t % 10).toNat * 10 ^ k + low : Nat) : Int) + (t / 10 - 1) * p10 (k + 1) := by
  have eA : A % 10 ^ (k + 1) = A % 10 ^ k + 10 ^ k * (A / 10 ^ k % 10) := Nat.mod_pow_succ
  have eB : B % 10 ^ (k + 1) = B % 10 ^ k + 10 ^ k * (B / 10 ^ k % 10) := Nat.mod_pow_succ
  have hp : p10 (k + 1) = p10 k * 10 := p10_succ k
  rw [eA, eB, hp]
  have hk : ((10 ^ k : Nat) : Int) = p10 k := rfl
  generalize A % 10 ^ k = a at *
  generalize B % 10 ^ k = b at *
  generalize A / 10 ^ k % 10 = da at *
  generalize B / 10 ^ k % 10 = db at *
  generalize 10 ^ k = q at *
  generalize p10 k = P at *
  subst hk
  have e1 : (((t % 10).toNat * q + low : Nat) : Int) = (t % 10) * (q : Int) + (low : Int) := by
    rw [Int.natCast_add, Int.natCast_mul, Int.toNat_of_nonneg (by omega)]
  rw [e1, Int.natCast_add, Int.natCast_add, Int.natCast_mul, Int.natCast_mul]
  have e2 : t % 10 = t - 10 * (t / 10) := by omega
  rw [e2]
  have e3 : (a : Int) + (q : Int) * (da : Int) + s * ((b : Int) + (q : Int) * (db : Int)) = ((a : Int) + s * (b : Int)) + (q : Int) * ((da : Int) + s * (db : Int)) := by
    rw [Int.mul_add, Int.mul_add, Int.mul_left_comm]; omega
  rw [e3, h]
  have e4 : (da : Int) + s * (db : Int) = t - c - 10 := by omega
  rw [e4, Int.mul_sub, Int.mul_sub, Int.sub_mul, Int.sub_mul, Int.mul_comm (q : Int) t, Int.mul_comm (q : Int) c, Int.mul_comm (q : Int) 10]
  have e5 : t / 10 * (10 * (q : Int)) = 10 * (t / 10) * (q : Int) := by
    rw [← Int.mul_assoc, Int.mul_comm (t / 10) 10]
  rw [e5]
  generalize 10 * (t / 10) * (q : Int) = z1
  generalize t * (q : Int) = z2
  generalize c * (q : Int) = z3
  omega

/-- One step of a product: of each place, what stands there and what is carried. -/
theorem step_mul {S k low c t : Nat} {x : Nat} (h : S = low + c * 10 ^ k) (ht : t = x + c) :
    S + x * 10 ^ k = (t % 10 * 10 ^ k + low) + t / 10 * 10 ^ (k + 1) := by
  have e : t = 10 * (t / 10) + t % 10 := by omega
  have e2 : t * 10 ^ k = 10 * (t / 10) * 10 ^ k + t % 10 * 10 ^ k := by
    conv => lhs; rw [e]
    rw [Nat.add_mul]
  have e3 : t / 10 * 10 ^ (k + 1) = 10 * (t / 10) * 10 ^ k := by
    rw [Nat.pow_succ, Nat.mul_comm (10 ^ k) 10, ← Nat.mul_assoc, Nat.mul_comm (t / 10) 10]
  rw [h, e3]
  have e4 : t * 10 ^ k = x * 10 ^ k + c * 10 ^ k := by rw [ht, Nat.add_mul]
  omega
theorem drop_set_len {l : List UInt8} {j : Nat} (hj : j < l.length) (c : UInt8) : (l.set j c).drop j = c :: l.drop (j + 1) := by
  have h1 : j < (l.set j c).length := by rw [List.length_set]; exact hj
  rw [List.drop_eq_getElem_cons h1]
  congr 1
  · simp
  · rw [List.drop_set_of_lt (by omega)]
end Dm
end Go.Proofs.YtppkknmgdahniabDoor

set_option linter.unusedSimpArgs false
set_option linter.unusedVariables false
namespace Go.Proofs.YtppkknmgdahniabDoor
set_option maxRecDepth 100000
namespace Dm

/-- What sums of places are worth, the lowest place first. -/
def V : List Nat → Nat
  | [] => 0
  | x :: t => x + 10 * V t
theorem V_set (S : List Nat) (p x : Nat) (h : p < S.length) : V (S.set p (S.getD p 0 + x)) = V S + x * 10 ^ p := by
  induction S generalizing p with
  | nil => simp at h
  | cons y t ih =>
    cases p with
    | zero => simp [V]; omega
    | succ p =>
      have := ih p (by simpa using h)
      simp only [List.set_cons_succ, V, List.getD_cons_succ, this, Nat.pow_succ]
      have e : x * (10 ^ p * 10) = 10 * (x * 10 ^ p) := by rw [← Nat.mul_assoc, Nat.mul_comm]
      rw [e]; omega
theorem V_zero (n : Nat) : V (List.replicate n 0) = 0 := by
  induction n with
  | zero => rfl
  | succ n ih => simp [List.replicate_succ, V, ih]
theorem V_append (S T : List Nat) : V (S ++ T) = V S + V T * 10 ^ S.length := by
  induction S with
  | nil => simp [V]
  | cons y t ih =>
    simp only [List.cons_append, V, ih, List.length_cons, Nat.pow_succ]
    have e : V T * (10 ^ t.length * 10) = 10 * (V T * 10 ^ t.length) := by rw [← Nat.mul_assoc, Nat.mul_comm]
    rw [e]; omega
theorem V_take_succ (S : List Nat) (k : Nat) (h : k < S.length) : V (S.take (k + 1)) = V (S.take k) + S.getD k 0 * 10 ^ k := by
  rw [List.take_succ_eq_append_getElem h, V_append]
  have e : (S.take k).length = k := by rw [List.length_take]; omega
  have e2 : S.getD k 0 = S[k] := by simp [List.getD, h]
  rw [e, e2]
  simp [V]
/-- One more digit of the first number. -/
theorem mul_outer {A B i X : Nat} (h : X = A % 10 ^ i * B) : X + A / 10 ^ i % 10 * 10 ^ i * B = A % 10 ^ (i + 1) * B := by
  have e : A % 10 ^ (i + 1) = A % 10 ^ i + 10 ^ i * (A / 10 ^ i % 10) := Nat.mod_pow_succ
  rw [e, Nat.add_mul, h, Nat.mul_comm (10 ^ i)]
/-- One more digit of the second. -/
theorem mul_inner {B i j X d : Nat} : X + d * 10 ^ i * (B % 10 ^ j) + d * (B / 10 ^ j % 10) * 10 ^ (i + j) = X + d * 10 ^ i * (B % 10 ^ (j + 1)) := by
  have e : B % 10 ^ (j + 1) = B % 10 ^ j + 10 ^ j * (B / 10 ^ j % 10) := Nat.mod_pow_succ
  rw [e, Nat.mul_add, Nat.pow_add]
  have e2 : d * (B / 10 ^ j % 10) * (10 ^ i * 10 ^ j) = d * 10 ^ i * (10 ^ j * (B / 10 ^ j % 10)) := by
    generalize B / 10 ^ j % 10 = q
    rw [Nat.mul_assoc, Nat.mul_assoc]
    congr 1
    rw [Nat.mul_left_comm, Nat.mul_comm q]
  omega
end Dm
end Go.Proofs.YtppkknmgdahniabDoor

set_option linter.unusedSimpArgs false
set_option linter.unusedVariables false
namespace Go.Proofs.YtppkknmgdahniabDoor
set_option maxRecDepth 100000
namespace Dm

/-- Which of two is the lesser. -/
def cmpN (A B : Nat) : Int := if A < B then -1 else if B < A then 1 else 0
def szP (l : List UInt8) (j : Nat) : Int := if l = [48] then -9223372036854775808 else (l.length : Int) - (j : Int)
def szD (l : List UInt8) : List UInt8 := if l = [48] then [] else tr l
def cmpB : List UInt8 → List UInt8 → Int
  | [], [] => 0
  | [], _ :: _ => -1
  | _ :: _, [] => 1
  | a :: as, b :: bs => if a < b then -1 else if b < a then 1 else cmpB as bs
def cmpI (x y : Int) : Int := if x < y then -1 else if x > y then 1 else 0

theorem dv_lt {c d : UInt8} (hc : isD c = true) (hd : isD d = true) : c < d ↔ dv c < dv d := by
  have := isD_iff.1 hc; have := isD_iff.1 hd
  rw [UInt8.lt_iff_toNat_lt]; unfold dv; omega
theorem tail_pos {l : List UInt8} (h : allD l) (ht : noTail l) : 1 ≤ num l := by
  have := tail_mod h ht
  omega
theorem noTail_cons {c : UInt8} {l : List UInt8} (h : noTail (c :: l)) : l = [] ∨ noTail l := by
  obtain ⟨t, d, e, hd⟩ := h
  cases t with
  | nil => left; simp at e; exact e.2
  | cons x t => right; injection e with _ e; exact ⟨t, d, e, hd⟩
theorem cmpB_num : ∀ (x y : List UInt8) (p q : Nat), allD x → allD y → (x = [] ∨ noTail x) → (y = [] ∨ noTail y) → x.length + p = y.length + q →
    cmpB x y = cmpN (num x * 10 ^ p) (num y * 10 ^ q) := by
  intro x
  induction x with
  | nil =>
    intro y p q _ hy _ hy2 _
    cases y with
    | nil => simp [cmpB, cmpN, num]
    | cons d t =>
      rcases hy2 with h | h
      · cases h
      · have h1 := tail_pos hy h
        have h2 : num (d :: t) * 10 ^ q ≥ 1 := Nat.mul_pos h1 (pow_pos' q)
        unfold cmpB cmpN
        rw [if_pos (by rw [num_nil, Nat.zero_mul]; omega)]
  | cons c x ih =>
    intro y p q hx hy hx2 hy2 hl
    cases y with
    | nil =>
      rcases hx2 with h | h
      · cases h
      · have h1 := tail_pos hx h
        have h2 : num (c :: x) * 10 ^ p ≥ 1 := Nat.mul_pos h1 (pow_pos' p)
        unfold cmpB cmpN
        rw [num_nil, Nat.zero_mul, if_neg (by omega), if_pos (by omega)]
    | cons d t =>
      have hx' := allD_cons.1 hx
      have hy' := allD_cons.1 hy
      simp only [List.length_cons] at hl
      have hl' : x.length + p = t.length + q := by omega
      have e1 : num (c :: x) * 10 ^ p = dv c * 10 ^ (x.length + p) + num x * 10 ^ p := by rw [num_cons, Nat.add_mul, Nat.mul_assoc, ← Nat.pow_add]
      have e2 : num (d :: t) * 10 ^ q = dv d * 10 ^ (x.length + p) + num t * 10 ^ q := by rw [num_cons, Nat.add_mul, Nat.mul_assoc, ← Nat.pow_add, hl']
      have b1 : num x * 10 ^ p < 10 ^ (x.length + p) := by
        rw [Nat.pow_add]; exact Nat.mul_lt_mul_of_pos_right (num_lt hx'.2) (pow_pos' p)
      have b2 : num t * 10 ^ q < 10 ^ (x.length + p) := by
        rw [hl', Nat.pow_add]; exact Nat.mul_lt_mul_of_pos_right (num_lt hy'.2) (pow_pos' q)
      rw [e1, e2]
      generalize 10 ^ (x.length + p) = T at *
      unfold cmpB
      by_cases g : c < d
      · rw [if_pos g]
        have := (dv_lt hx'.1 hy'.1).1 g
        have h3 : (dv c + 1) * T ≤ dv d * T := Nat.mul_le_mul_right _ this
        rw [Nat.add_mul] at h3
        unfold cmpN
        rw [if_pos (by omega)]
      · by_cases g2 : d < c
        · rw [if_neg g, if_pos g2]
          have := (dv_lt hy'.1 hx'.1).1 g2
          have h3 : (dv d + 1) * T ≤ dv c * T := Nat.mul_le_mul_right _ this
          rw [Nat.add_mul] at h3
          unfold cmpN
          rw [if_neg (by omega), if_pos (by omega)]
        · rw [if_neg g, if_neg g2]
          have g' : ¬ dv c < dv d := fun h => g ((dv_lt hx'.1 hy'.1).2 h)
          have g2' : ¬ dv d < dv c := fun h => g2 ((dv_lt hy'.1 hx'.1).2 h)
          have e3 : dv c = dv d := by omega
          have := ih t p q hx'.2 hy'.2 (hx2.elim (fun h => by cases h) noTail_cons) (hy2.elim (fun h => by cases h) noTail_cons) hl'
          rw [this, e3]
          unfold cmpN
          generalize dv d * T = z
          by_cases k1 : num x * 10 ^ p < num t * 10 ^ q
          · rw [if_pos k1, if_pos (by omega)]
          · by_cases k2 : num t * 10 ^ q < num x * 10 ^ p
            · rw [if_neg k1, if_pos k2, if_neg (by omega), if_pos (by omega)]
            · rw [if_neg k1, if_neg k2, if_neg (by omega), if_neg (by omega)]

theorem may_cases {d : D} (h : May d) : (d.ds = [48] ∧ d.sc = 0 ∧ d.ng = false ∧ num d.ds = 0) ∨ (d.ds ≠ [48] ∧ noLead d.ds ∧ 10 ^ (d.ds.length - 1) ≤ num d.ds ∧ 1 ≤ d.ds.length) := by
  rcases h.2.2.2 with ⟨e, e2, e3⟩ | ⟨e, _⟩
  · exact .inl ⟨e, e2, e3, by rw [e]; rfl⟩
  · right
    obtain ⟨c, t, e1, hc⟩ := id e
    refine ⟨?_, e, ?_, ?_⟩
    · rw [e1]; intro h; injection h with h; exact hc h
    · have h1 : allD (c :: t) := by rw [← e1]; exact h.1
      have := num_ge (l := t) (allD_cons.1 h1).1 hc
      rw [e1]; simpa using this
    · rw [e1]; simp

/-- Which of the sizes is the lesser, as the text finds it. -/
theorem sizes_cmp {a b : D} (ha : May a) (hb : May b) :
    (if cmpI (szP a.ds a.sc) (szP b.ds b.sc) ≠ 0 then cmpI (szP a.ds a.sc) (szP b.ds b.sc) else cmpB (szD a.ds) (szD b.ds)) = cmpN (num a.ds * 10 ^ b.sc) (num b.ds * 10 ^ a.sc) := by
  have la := ha.2.2.1
  have lb := hb.2.2.1
  have na := ha.2.1
  have nb := hb.2.1
  rcases may_cases ha with ⟨a1, a2, a3, a4⟩ | ⟨a1, a2, a3, a4⟩
  · rcases may_cases hb with ⟨b1, b2, b3, b4⟩ | ⟨b1, b2, b3, b4⟩
    · simp [szP, szD, a1, b1, cmpI, cmpB, cmpN, num, dv]
    · have h1 : num b.ds * 10 ^ a.sc ≥ 1 := Nat.mul_pos (by have := pow_pos' (b.ds.length - 1); omega) (pow_pos' _)
      unfold szP
      rw [if_pos a1, if_neg b1]
      unfold cmpI cmpN
      rw [if_pos (by omega), if_pos (by omega), a4, Nat.zero_mul, if_pos (by omega)]
  · rcases may_cases hb with ⟨b1, b2, b3, b4⟩ | ⟨b1, b2, b3, b4⟩
    · have h1 : num a.ds * 10 ^ b.sc ≥ 1 := Nat.mul_pos (by have := pow_pos' (a.ds.length - 1); omega) (pow_pos' _)
      unfold szP
      rw [if_neg a1, if_pos b1]
      have e0 : cmpI ((a.ds.length : Int) - (a.sc : Int)) (-9223372036854775808) = 1 := by unfold cmpI; rw [if_neg (by omega), if_pos (by omega)]
      rw [e0, if_pos (by decide)]
      unfold cmpN
      rw [b4, Nat.zero_mul, if_neg (by omega), if_pos (by omega)]
    · have ua := num_lt ha.1
      have ub := num_lt hb.1
      have eA : ∀ m, 10 ^ (a.ds.length - 1 + m) ≤ num a.ds * 10 ^ m ∧ num a.ds * 10 ^ m < 10 ^ (a.ds.length + m) := fun m => by
        rw [Nat.pow_add, Nat.pow_add]
        exact ⟨Nat.mul_le_mul_right _ a3, Nat.mul_lt_mul_of_pos_right ua (pow_pos' m)⟩
      have eB : ∀ m, 10 ^ (b.ds.length - 1 + m) ≤ num b.ds * 10 ^ m ∧ num b.ds * 10 ^ m < 10 ^ (b.ds.length + m) := fun m => by
        rw [Nat.pow_add, Nat.pow_add]
        exact ⟨Nat.mul_le_mul_right _ b3, Nat.mul_lt_mul_of_pos_right ub (pow_pos' m)⟩
      have xA := eA b.sc
      have xB := eB a.sc
      unfold szP szD
      rw [if_neg a1, if_neg b1, if_neg a1, if_neg b1]
      by_cases g : a.ds.length + b.sc < b.ds.length + a.sc
      · have : 10 ^ (a.ds.length + b.sc) ≤ 10 ^ (b.ds.length - 1 + a.sc) := Nat.pow_le_pow_right (by omega) (by omega)
        have e0 : cmpI ((a.ds.length : Int) - (a.sc : Int)) ((b.ds.length : Int) - (b.sc : Int)) = -1 := by unfold cmpI; rw [if_pos (by omega)]
        rw [e0, if_pos (by decide)]
        unfold cmpN
        rw [if_pos (by omega)]
      · by_cases g2 : b.ds.length + a.sc < a.ds.length + b.sc
        · have : 10 ^ (b.ds.length + a.sc) ≤ 10 ^ (a.ds.length - 1 + b.sc) := Nat.pow_le_pow_right (by omega) (by omega)
          have e0 : cmpI ((a.ds.length : Int) - (a.sc : Int)) ((b.ds.length : Int) - (b.sc : Int)) = 1 := by unfold cmpI; rw [if_neg (by omega), if_pos (by omega)]
          rw [e0, if_pos (by decide)]
          unfold cmpN
          rw [if_neg (by omega), if_pos (by omega)]
        · have e0 : cmpI ((a.ds.length : Int) - (a.sc : Int)) ((b.ds.length : Int) - (b.sc : Int)) = 0 := by unfold cmpI; rw [if_neg (by omega), if_neg (by omega)]
          rw [e0, if_neg (by omega)]
          have sa := tr_spec a.ds
          have sb := tr_spec b.ds
          have ta := tr_le a.ds
          have tb := tr_le b.ds
          have ka := tr_lead a2
          have kb := tr_lead b2
          have := cmpB_num (tr a.ds) (tr b.ds) (a.ds.length - (tr a.ds).length + b.sc) (b.ds.length - (tr b.ds).length + a.sc) (tr_allD ha.1) (tr_allD hb.1) (.inr (tr_tail _ (noLead_ne ka))) (.inr (tr_tail _ (noLead_ne kb))) (by omega)
          have ea : num (tr a.ds) * 10 ^ (a.ds.length - (tr a.ds).length) = num a.ds := by rw [← num_append_zeros, ← sa]
          have eb : num (tr b.ds) * 10 ^ (b.ds.length - (tr b.ds).length) = num b.ds := by rw [← num_append_zeros, ← sb]
          rw [this, Nat.pow_add, Nat.pow_add, ← Nat.mul_assoc, ← Nat.mul_assoc, ea, eb]
theorem sizes_range {a b : D} : cmpN (num a.ds * 10 ^ b.sc) (num b.ds * 10 ^ a.sc) = -1 ∨ cmpN (num a.ds * 10 ^ b.sc) (num b.ds * 10 ^ a.sc) = 0 ∨ cmpN (num a.ds * 10 ^ b.sc) (num b.ds * 10 ^ a.sc) = 1 := by
  unfold cmpN
  split
  · exact .inl rfl
  · split
    · exact .inr (.inr rfl)
    · exact .inr (.inl rfl)
end Dm
end Go.Proofs.YtppkknmgdahniabDoor

set_option linter.unusedSimpArgs false
set_option linter.unusedVariables false
namespace Go.Proofs.YtppkknmgdahniabDoor
set_option maxRecDepth 100000
namespace Dm

theorem print_shape {d : D} (h : May d) : ∃ w p, allD w ∧ w ≠ [] ∧ (w.length = 1 ∨ w.headD 0 ≠ 48) ∧ allD p ∧ p.length = d.sc ∧
    printL d = (if d.ng then [45] else []) ++ (w ++ (if 0 < d.sc then 46 :: p else [])) ∧ num (w ++ p) = num d.ds := by
  have hm := h
  obtain ⟨h1, h2, h3, h4⟩ := h
  have hne : d.ds ≠ [] := by
    rcases h4 with ⟨e, _⟩ | ⟨e, _⟩
    · rw [e]; simp
    · exact noLead_ne e
  have hlead : d.ds.length = 1 ∨ d.ds.headD 0 ≠ 48 := by
    rcases h4 with ⟨e, _⟩ | ⟨⟨c, t, e, hc⟩, _⟩
    · left; rw [e]; rfl
    · right; rw [e]; exact hc
  have hpos : 1 ≤ d.ds.length := by
    cases hd : d.ds with
    | nil => exact absurd hd hne
    | cons => simp
  unfold printL
  by_cases hs : d.ds.length ≤ d.sc
  · have h0 : 0 < d.sc := by omega
    rw [if_pos hs]
    simp only [if_pos h0]
    refine ⟨[48], List.replicate (d.sc - d.ds.length) 48 ++ d.ds, ?_, by simp, .inl rfl, allD_append.2 ⟨allD_zeros _, h1⟩, by simp; omega, by simp, ?_⟩
    · intro c hc; simp at hc; rw [hc]; rfl
    · have e2 : [48] ++ (List.replicate (d.sc - d.ds.length) 48 ++ d.ds) = List.replicate (d.sc - d.ds.length + 1) 48 ++ d.ds := by
        rw [List.replicate_succ]; rfl
      rw [e2, num_zeros_append]
  · rw [if_neg hs]
    have ha : allD (d.ds.take (d.ds.length - d.sc)) := fun c hc => h1 c (List.mem_of_mem_take hc)
    have hb : allD (d.ds.drop (d.ds.length - d.sc)) := fun c hc => h1 c (List.mem_of_mem_drop hc)
    have hn : d.ds.take (d.ds.length - d.sc) ≠ [] := by
      intro e
      have := congrArg List.length e
      simp at this; omega
    have hl : (d.ds.take (d.ds.length - d.sc)).length = 1 ∨ (d.ds.take (d.ds.length - d.sc)).headD 0 ≠ 48 := by
      rcases hlead with e | e
      · left; simp; omega
      · right
        cases hd : d.ds with
        | nil => exact absurd hd hne
        | cons c t =>
          rw [hd] at e hs
          cases hk : (c :: t).length - d.sc with
          | zero => omega
          | succ k => simpa using e
    exact ⟨d.ds.take (d.ds.length - d.sc), d.ds.drop (d.ds.length - d.sc), ha, hn, hl, hb, by simp; omega, rfl, by rw [List.take_append_drop]⟩

theorem digit_ne {l : List UInt8} (h : allD l) (i : Nat) (hi : i < l.length) : l.getD i 0 ≠ 46 := by
  have : l.getD i 0 = l[i] := by simp [List.getD, hi]
  rw [this]
  intro e
  have := h _ (List.getElem_mem hi)
  rw [e] at this
  exact absurd this (by decide)
theorem getD_app (l m : List UInt8) (i : Nat) : (l ++ m).getD i 0 = if i < l.length then l.getD i 0 else m.getD (i - l.length) 0 := by
  by_cases h : i < l.length
  · rw [if_pos h]; simp [List.getD, List.getElem?_append_left h]
  · rw [if_neg h]; simp [List.getD, List.getElem?_append_right (Nat.le_of_not_lt h)]
theorem print_facts {d : D} (h : May d) : ∃ P, (∀ i, i < (printL d).length → ((printL d).getD i 0 = 46 ↔ i = P)) ∧ (d.sc = 0 → P = (printL d).length) ∧ (0 < d.sc → P + 1 + d.sc = (printL d).length) ∧ 0 < (printL d).length ∧ ((printL d).getD 0 0 = 45 ↔ d.ng = true) := by
  obtain ⟨w, p, hw, hn, _, hp, hpl, e, _⟩ := print_shape h
  have hw0 : 0 < w.length := List.length_pos_iff.2 hn
  rw [e]
  have key : ∀ g : List UInt8, (g = [] ∨ g = [45]) → ∃ P, (∀ i, i < (g ++ (w ++ (if 0 < d.sc then 46 :: p else []))).length → ((g ++ (w ++ (if 0 < d.sc then 46 :: p else []))).getD i 0 = 46 ↔ i = P)) ∧ (d.sc = 0 → P = (g ++ (w ++ (if 0 < d.sc then 46 :: p else []))).length) ∧ (0 < d.sc → P + 1 + d.sc = (g ++ (w ++ (if 0 < d.sc then 46 :: p else []))).length) ∧ 0 < (g ++ (w ++ (if 0 < d.sc then 46 :: p else []))).length := by
    intro g hg
    have hg1 : ∀ i, i < g.length → g.getD i 0 ≠ 46 := by
      rcases hg with rfl | rfl
      · intro i hi; simp at hi
      · intro i hi
        have : i = 0 := by simpa using hi
        subst this; simp
    refine ⟨g.length + w.length, ?_, ?_, ?_, ?_⟩
    · intro i hi
      rw [getD_app]
      by_cases h1 : i < g.length
      · rw [if_pos h1]
        exact ⟨fun x => absurd x (hg1 i h1), fun x => by omega⟩
      · rw [if_neg h1, getD_app]
        by_cases h2 : i - g.length < w.length
        · rw [if_pos h2]
          exact ⟨fun x => absurd x (digit_ne hw _ h2), fun x => by omega⟩
        · rw [if_neg h2]
          by_cases h3 : 0 < d.sc
          · rw [if_pos h3] at hi ⊢
            simp only [List.length_append, List.length_cons] at hi
            by_cases h4 : i = g.length + w.length
            · subst h4
              have : g.length + w.length - g.length - w.length = 0 := by omega
              rw [this]; simp
            · obtain ⟨j, hj⟩ : ∃ j, i - g.length - w.length = j + 1 := ⟨i - g.length - w.length - 1, by omega⟩
              rw [hj, List.getD_cons_succ]
              exact ⟨fun x => absurd x (digit_ne hp _ (by omega)), fun x => absurd x h4⟩
          · rw [if_neg h3] at hi
            simp only [List.length_append, List.length_nil] at hi
            omega
    · intro h0; rw [if_neg (by omega)]; simp
    · intro h0; rw [if_pos h0]; simp [hpl]; omega
    · simp only [List.length_append]; omega
  cases hng : d.ng with
  | true =>
    simp only [if_true]
    obtain ⟨P, a, b, c, f⟩ := key [45] (.inr rfl)
    exact ⟨P, a, b, c, f, by simp⟩
  | false =>
    simp only [Bool.false_eq_true, if_false]
    obtain ⟨P, a, b, c, f⟩ := key [] (.inl rfl)
    refine ⟨P, a, b, c, f, ?_⟩
    simp only [List.nil_append, iff_false]
    rw [getD_app, if_pos hw0]
    have : w.getD 0 0 = w[0] := by simp [List.getD, hw0]
    rw [this]
    intro e
    have := hw _ (List.getElem_mem hw0)
    rw [e] at this
    exact absurd this (by decide)

theorem exp_one {x : UInt8} (h : isD x = true) : expL [101, x] = some (dv x : Int) := by
  have h1 : x ≠ 45 := by rintro rfl; exact absurd h (by decide)
  have h2 : x ≠ 43 := by rintro rfl; exact absurd h (by decide)
  simp [expL, h1, h2, h, num_one]
theorem parseU_whole_e {ng : Bool} {w : List UInt8} {x : UInt8} (hw : allD w) (h1 : w ≠ []) (h2 : w.length = 1 ∨ w.headD 0 ≠ 48) (hx : isD x = true) : parseU ng (w ++ [101, x]) = some (fitL ng w (0 - (dv x : Int))) := by
  have a := takeWhile_all (m := [101, x]) hw (by intro c t e; cases e; rfl)
  unfold parseU
  rw [a.1, a.2, if_neg, if_neg]
  · rw [exp_one hx]; rfl
  · simp
  · rintro (e | ⟨e, e'⟩)
    · exact h1 e
    · rcases h2 with g | g
      · omega
      · exact g e'
theorem parseU_point_e {ng : Bool} {w p : List UInt8} {x : UInt8} (hw : allD w) (hp : allD p) (h1 : w ≠ []) (h2 : w.length = 1 ∨ w.headD 0 ≠ 48) (h3 : p ≠ []) (hx : isD x = true) : parseU ng (w ++ 46 :: (p ++ [101, x])) = some (fitL ng (w ++ p) ((p.length : Int) - (dv x : Int))) := by
  have a := takeWhile_all (m := 46 :: (p ++ [101, x])) hw (by intro c t e; cases e; rfl)
  have b := takeWhile_all (m := [101, x]) hp (by intro c t e; cases e; rfl)
  unfold parseU
  rw [a.1, a.2, if_neg, if_pos (by rfl), List.tail_cons, b.1, b.2, if_neg h3]
  · rw [exp_one hx]; rfl
  · rintro (e | ⟨e, e'⟩)
    · exact h1 e
    · rcases h2 with g | g
      · omega
      · exact g e'
/-- A printed decimal with one digit of an exponent behind. -/
theorem parse_print_e {d : D} {x : UInt8} (h : May d) (hx : isD x = true) : ∃ r, parseL (printL d ++ [101, x]) = some r ∧ Rep (sg d * p10 (dv x)) d.sc r := by
  obtain ⟨w, p, hw, hn, hl, hp, hpl, e, hnum⟩ := print_shape h
  refine ⟨fitL d.ng (w ++ p) ((d.sc : Int) - (dv x : Int)), ?_, ?_⟩
  · rw [e, List.append_assoc, List.append_assoc, parse_sign d.ng hw hn]
    by_cases h0 : 0 < d.sc
    · rw [if_pos h0]
      have hpn : p ≠ [] := by rintro rfl; simp at hpl; omega
      rw [List.cons_append, parseU_point_e hw hp hn hl hpn hx, hpl]
    · rw [if_neg h0]
      have hp0 : p = [] := by cases p with
        | nil => rfl
        | cons => simp at hpl; omega
      rw [List.nil_append, parseU_whole_e hw hn hl hx, hp0, List.append_nil, show d.sc = 0 by omega]; rfl
  · have hr := fit_rep d.ng (allD_append.2 ⟨hw, hp⟩) ((d.sc : Int) - (dv x : Int))
    rw [hnum] at hr
    have hu := (Rep.up (min d.sc (dv x))).2 hr
    have e1 : ((d.sc : Int) - (dv x : Int)).toNat + min d.sc (dv x) = d.sc := by omega
    have e2 : (-((d.sc : Int) - (dv x : Int))).toNat + min d.sc (dv x) = dv x := by omega
    rw [e1, Int.mul_assoc, ← p10_add, e2] at hu
    exact hu

theorem step_key {z : Int} {s : Nat} {y : D} (h : sg y * p10 s = z * p10 y.sc) (m : Int) (d : D) : sg d * p10 y.sc = sg y * m * p10 d.sc ↔ sg d * p10 s = z * m * p10 d.sc := by
  have e : sg y * m * p10 d.sc * p10 s = z * m * p10 d.sc * p10 y.sc := by
    rw [Int.mul_right_comm (sg y * m), Int.mul_right_comm (sg y), h, Int.mul_right_comm z, Int.mul_right_comm (z * m)]
  constructor
  · intro g
    apply p10_cancel (k := y.sc)
    rw [Int.mul_right_comm, g, e]
  · intro g
    apply p10_cancel (k := s)
    rw [Int.mul_right_comm, g, e]
theorem Rep.times {z : Int} {s : Nat} {y : D} {r : Option D} {m : Int} (h : Rep z s (some y)) : Rep (sg y * m) y.sc r ↔ Rep (z * m) s r := by
  cases r with
  | none => simp only [Rep, ne_eq, step_key h.2]
  | some d => simp only [Rep, step_key h.2]
theorem ten_none {y : D} (h : May y) (hr : Rep (sg y * 10) y.sc none) : y.sc = 0 ∧ y.ds.length = 60 ∧ noLead y.ds := by
  obtain ⟨h1, h2, h3, h4⟩ := id h
  rcases h4 with ⟨e1, e2, e3⟩ | ⟨hl, ht⟩
  · exfalso
    refine hr ⟨false, [48], 0⟩ zero_may ?_
    have : sg y = 0 := by unfold sg; rw [e1, e3]; rfl
    rw [this]; simp [sg, sgn, num, dv]
  · by_cases g : 0 < y.sc
    · exfalso
      refine hr ⟨y.ng, y.ds, y.sc - 1⟩ ⟨h1, h2, by simp only; omega, .inr ⟨hl, .inr (ht.resolve_left (by omega))⟩⟩ ?_
      show sg y * p10 y.sc = sg y * 10 * p10 (y.sc - 1)
      obtain ⟨k, hk⟩ : ∃ k, y.sc = k + 1 := ⟨y.sc - 1, by omega⟩
      rw [hk, p10_succ, Nat.add_sub_cancel, Int.mul_assoc, Int.mul_comm 10]
    · refine ⟨by omega, ?_, hl⟩
      apply Classical.byContradiction
      intro g2
      refine hr ⟨y.ng, y.ds ++ [48], 0⟩ ⟨allD_append.2 ⟨h1, by intro c hc; simp at hc; rw [hc]; rfl⟩, by simp; omega, by simp, .inr ⟨?_, .inl rfl⟩⟩ ?_
      · obtain ⟨c, t, e, hc⟩ := hl
        exact ⟨c, t ++ [48], by rw [e]; rfl, hc⟩
      · show sgn y.ng (num (y.ds ++ [48])) * p10 y.sc = sg y * 10 * p10 0
        have : num (y.ds ++ [48]) = num y.ds * 10 := by rw [num_append, num_one]; rfl
        rw [this, sgn_mul, show y.sc = 0 by omega]; rfl
theorem ten_more {y : D} (h : May y) (hr : Rep (sg y * 10) y.sc none) (m : Nat) : Rep (sg y * (10 * p10 m)) y.sc none := by
  obtain ⟨e1, e2, c, t, e3, hc⟩ := ten_none h hr
  intro d hd e
  rw [e1] at e
  have e' : num d.ds = num y.ds * (10 * 10 ^ m) * 10 ^ d.sc := by
    have := congrArg Int.natAbs e
    rw [Int.natAbs_mul, Int.natAbs_mul, Int.natAbs_mul, Int.natAbs_mul] at this
    simpa [sg, sgn_abs, p10] using this
  have hlt := num_lt hd.1
  have p60 : 10 ^ d.ds.length ≤ 10 ^ 60 := Nat.pow_le_pow_right (by omega) hd.2.1
  have hge : 10 ^ t.length ≤ num y.ds := by
    rw [e3]
    have : allD (c :: t) := by rw [← e3]; exact h.1
    exact num_ge (allD_cons.1 this).1 hc
  have ht : t.length = 59 := by rw [e3] at e2; simpa using e2
  rw [ht] at hge
  have a1 : 10 ^ 59 * 10 ≤ num y.ds * (10 * 10 ^ m) := Nat.mul_le_mul hge (by have := pow_pos' m; omega)
  have a2 : 10 ^ 59 * 10 * 1 ≤ num y.ds * (10 * 10 ^ m) * 10 ^ d.sc := Nat.mul_le_mul a1 (pow_pos' d.sc)
  rw [← e'] at a2
  omega
theorem next_some {g : Int} {k s : Nat} {y : D} {r : Option D} (h : Rep (g * p10 k) s (some y)) (hr : Rep (sg y * 10) y.sc r) : Rep (g * p10 (k + 1)) s r := by
  rw [p10_succ, ← Int.mul_assoc]
  exact (Rep.times h).1 hr
theorem next_none {g : Int} {k K s : Nat} {y : D} (h : Rep (g * p10 k) s (some y)) (hr : Rep (sg y * 10) y.sc none) (hk : k < K) : Rep (g * p10 K) s none := by
  obtain ⟨m, hm⟩ : ∃ m, K = k + 1 + m := ⟨K - (k + 1), by omega⟩
  have := (Rep.times h).1 (ten_more h.1 hr m)
  rw [hm, p10_add, p10_succ]
  rw [Int.mul_assoc, ← Int.mul_assoc (p10 k)] at this
  exact this
end Dm
end Go.Proofs.YtppkknmgdahniabDoor
