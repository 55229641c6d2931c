/- What is proved here: plain facts on which of two decimals is the lesser; conditions: none. It imports nothing of any program but plain facts. -/
import Derived.Test.YtmlmplmghlbdmaaGreatDoorM
set_option linter.unusedSimpArgs false
set_option linter.unusedVariables false
namespace Go.Proofs.YtmlmplmghlbdmaaGreatDoor
namespace Dm

/-- Which of two is the lesser. -/
def cmpN (A B : Nat) : Int := if A < B then -1 else if B < A then 1 else 0
def szP (l : List UInt8) (j : Nat) : Int := if l = [48] then -9223372036854775808 else (l.length : Int) - (j : Int)
def szD (l : List UInt8) : List UInt8 := if l = [48] then [] else tr l
def cmpB : List UInt8 → List UInt8 → Int
  | [], [] => 0
  | [], _ :: _ => -1
  | _ :: _, [] => 1
  | a :: as, b :: bs => if a < b then -1 else if b < a then 1 else cmpB as bs
def cmpI (x y : Int) : Int := if x < y then -1 else if x > y then 1 else 0

theorem dv_lt {c d : UInt8} (hc : isD c = true) (hd : isD d = true) : c < d ↔ dv c < dv d := by
  have := isD_iff.1 hc; have := isD_iff.1 hd
  rw [UInt8.lt_iff_toNat_lt]; unfold dv; omega
theorem tail_pos {l : List UInt8} (h : allD l) (ht : noTail l) : 1 ≤ num l := by
  have := tail_mod h ht
  omega
theorem noTail_cons {c : UInt8} {l : List UInt8} (h : noTail (c :: l)) : l = [] ∨ noTail l := by
  obtain ⟨t, d, e, hd⟩ := h
  cases t with
  | nil => left; simp at e; exact e.2
  | cons x t => right; injection e with _ e; exact ⟨t, d, e, hd⟩
theorem cmpB_num : ∀ (x y : List UInt8) (p q : Nat), allD x → allD y → (x = [] ∨ noTail x) → (y = [] ∨ noTail y) → x.length + p = y.length + q →
    cmpB x y = cmpN (num x * 10 ^ p) (num y * 10 ^ q) := by
  intro x
  induction x with
  | nil =>
    intro y p q _ hy _ hy2 _
    cases y with
    | nil => simp [cmpB, cmpN, num]
    | cons d t =>
      rcases hy2 with h | h
      · cases h
      · have h1 := tail_pos hy h
        have h2 : num (d :: t) * 10 ^ q ≥ 1 := Nat.mul_pos h1 (pow_pos' q)
        unfold cmpB cmpN
        rw [if_pos (by rw [num_nil, Nat.zero_mul]; omega)]
  | cons c x ih =>
    intro y p q hx hy hx2 hy2 hl
    cases y with
    | nil =>
      rcases hx2 with h | h
      · cases h
      · have h1 := tail_pos hx h
        have h2 : num (c :: x) * 10 ^ p ≥ 1 := Nat.mul_pos h1 (pow_pos' p)
        unfold cmpB cmpN
        rw [num_nil, Nat.zero_mul, if_neg (by omega), if_pos (by omega)]
    | cons d t =>
      have hx' := allD_cons.1 hx
      have hy' := allD_cons.1 hy
      simp only [List.length_cons] at hl
      have hl' : x.length + p = t.length + q := by omega
      have e1 : num (c :: x) * 10 ^ p = dv c * 10 ^ (x.length + p) + num x * 10 ^ p := by rw [num_cons, Nat.add_mul, Nat.mul_assoc, ← Nat.pow_add]
      have e2 : num (d :: t) * 10 ^ q = dv d * 10 ^ (x.length + p) + num t * 10 ^ q := by rw [num_cons, Nat.add_mul, Nat.mul_assoc, ← Nat.pow_add, hl']
      have b1 : num x * 10 ^ p < 10 ^ (x.length + p) := by
        rw [Nat.pow_add]; exact Nat.mul_lt_mul_of_pos_right (num_lt hx'.2) (pow_pos' p)
      have b2 : num t * 10 ^ q < 10 ^ (x.length + p) := by
        rw [hl', Nat.pow_add]; exact Nat.mul_lt_mul_of_pos_right (num_lt hy'.2) (pow_pos' q)
      rw [e1, e2]
      generalize 10 ^ (x.length + p) = T at *
      unfold cmpB
      by_cases g : c < d
      · rw [if_pos g]
        have := (dv_lt hx'.1 hy'.1).1 g
        have h3 : (dv c + 1) * T ≤ dv d * T := Nat.mul_le_mul_right _ this
        rw [Nat.add_mul] at h3
        unfold cmpN
        rw [if_pos (by omega)]
      · by_cases g2 : d < c
        · rw [if_neg g, if_pos g2]
          have := (dv_lt hy'.1 hx'.1).1 g2
          have h3 : (dv d + 1) * T ≤ dv c * T := Nat.mul_le_mul_right _ this
          rw [Nat.add_mul] at h3
          unfold cmpN
          rw [if_neg (by omega), if_pos (by omega)]
        · rw [if_neg g, if_neg g2]
          have g' : ¬ dv c < dv d := fun h => g ((dv_lt hx'.1 hy'.1).2 h)
          have g2' : ¬ dv d < dv c := fun h => g2 ((dv_lt hy'.1 hx'.1).2 h)
          have e3 : dv c = dv d := by omega
          have := ih t p q hx'.2 hy'.2 (hx2.elim (fun h => by cases h) noTail_cons) (hy2.elim (fun h => by cases h) noTail_cons) hl'
          rw [this, e3]
          unfold cmpN
          generalize dv d * T = z
          by_cases k1 : num x * 10 ^ p < num t * 10 ^ q
          · rw [if_pos k1, if_pos (by omega)]
          · by_cases k2 : num t * 10 ^ q < num x * 10 ^ p
            · rw [if_neg k1, if_pos k2, if_neg (by omega), if_pos (by omega)]
            · rw [if_neg k1, if_neg k2, if_neg (by omega), if_neg (by omega)]

theorem may_cases {d : D} (h : May d) : (d.ds = [48] ∧ d.sc = 0 ∧ d.ng = false ∧ num d.ds = 0) ∨ (d.ds ≠ [48] ∧ noLead d.ds ∧ 10 ^ (d.ds.length - 1) ≤ num d.ds ∧ 1 ≤ d.ds.length) := by
  rcases h.2.2.2 with ⟨e, e2, e3⟩ | ⟨e, _⟩
  · exact .inl ⟨e, e2, e3, by rw [e]; rfl⟩
  · right
    obtain ⟨c, t, e1, hc⟩ := id e
    refine ⟨?_, e, ?_, ?_⟩
    · rw [e1]; intro h; injection h with h; exact hc h
    · have h1 : allD (c :: t) := by rw [← e1]; exact h.1
      have := num_ge (l := t) (allD_cons.1 h1).1 hc
      rw [e1]; simpa using this
    · rw [e1]; simp

/-- Which of the sizes is the lesser, as the text finds it. -/
theorem sizes_cmp {a b : D} (ha : May a) (hb : May b) :
    (if cmpI (szP a.ds a.sc) (szP b.ds b.sc) ≠ 0 then cmpI (szP a.ds a.sc) (szP b.ds b.sc) else cmpB (szD a.ds) (szD b.ds)) = cmpN (num a.ds * 10 ^ b.sc) (num b.ds * 10 ^ a.sc) := by
  have la := ha.2.2.1
  have lb := hb.2.2.1
  have na := ha.2.1
  have nb := hb.2.1
  rcases may_cases ha with ⟨a1, a2, a3, a4⟩ | ⟨a1, a2, a3, a4⟩
  · rcases may_cases hb with ⟨b1, b2, b3, b4⟩ | ⟨b1, b2, b3, b4⟩
    · simp [szP, szD, a1, b1, cmpI, cmpB, cmpN, num, dv]
    · have h1 : num b.ds * 10 ^ a.sc ≥ 1 := Nat.mul_pos (by have := pow_pos' (b.ds.length - 1); omega) (pow_pos' _)
      unfold szP
      rw [if_pos a1, if_neg b1]
      unfold cmpI cmpN
      rw [if_pos (by omega), if_pos (by omega), a4, Nat.zero_mul, if_pos (by omega)]
  · rcases may_cases hb with ⟨b1, b2, b3, b4⟩ | ⟨b1, b2, b3, b4⟩
    · have h1 : num a.ds * 10 ^ b.sc ≥ 1 := Nat.mul_pos (by have := pow_pos' (a.ds.length - 1); omega) (pow_pos' _)
      unfold szP
      rw [if_neg a1, if_pos b1]
      have e0 : cmpI ((a.ds.length : Int) - (a.sc : Int)) (-9223372036854775808) = 1 := by unfold cmpI; rw [if_neg (by omega), if_pos (by omega)]
      rw [e0, if_pos (by decide)]
      unfold cmpN
      rw [b4, Nat.zero_mul, if_neg (by omega), if_pos (by omega)]
    · have ua := num_lt ha.1
      have ub := num_lt hb.1
      have eA : ∀ m, 10 ^ (a.ds.length - 1 + m) ≤ num a.ds * 10 ^ m ∧ num a.ds * 10 ^ m < 10 ^ (a.ds.length + m) := fun m => by
        rw [Nat.pow_add, Nat.pow_add]
        exact ⟨Nat.mul_le_mul_right _ a3, Nat.mul_lt_mul_of_pos_right ua (pow_pos' m)⟩
      have eB : ∀ m, 10 ^ (b.ds.length - 1 + m) ≤ num b.ds * 10 ^ m ∧ num b.ds * 10 ^ m < 10 ^ (b.ds.length + m) := fun m => by
        rw [Nat.pow_add, Nat.pow_add]
        exact ⟨Nat.mul_le_mul_right _ b3, Nat.mul_lt_mul_of_pos_right ub (pow_pos' m)⟩
      have xA := eA b.sc
      have xB := eB a.sc
      unfold szP szD
      rw [if_neg a1, if_neg b1, if_neg a1, if_neg b1]
      by_cases g : a.ds.length + b.sc < b.ds.length + a.sc
      · have : 10 ^ (a.ds.length + b.sc) ≤ 10 ^ (b.ds.length - 1 + a.sc) := Nat.pow_le_pow_right (by omega) (by omega)
        have e0 : cmpI ((a.ds.length : Int) - (a.sc : Int)) ((b.ds.length : Int) - (b.sc : Int)) = -1 := by unfold cmpI; rw [if_pos (by omega)]
        rw [e0, if_pos (by decide)]
        unfold cmpN
        rw [if_pos (by omega)]
      · by_cases g2 : b.ds.length + a.sc < a.ds.length + b.sc
        · have : 10 ^ (b.ds.length + a.sc) ≤ 10 ^ (a.ds.length - 1 + b.sc) := Nat.pow_le_pow_right (by omega) (by omega)
          have e0 : cmpI ((a.ds.length : Int) - (a.sc : Int)) ((b.ds.length : Int) - (b.sc : Int)) = 1 := by unfold cmpI; rw [if_neg (by omega), if_pos (by omega)]
          rw [e0, if_pos (by decide)]
          unfold cmpN
          rw [if_neg (by omega), if_pos (by omega)]
        · have e0 : cmpI ((a.ds.length : Int) - (a.sc : Int)) ((b.ds.length : Int) - (b.sc : Int)) = 0 := by unfold cmpI; rw [if_neg (by omega), if_neg (by omega)]
          rw [e0, if_neg (by omega)]
          have sa := tr_spec a.ds
          have sb := tr_spec b.ds
          have ta := tr_le a.ds
          have tb := tr_le b.ds
          have ka := tr_lead a2
          have kb := tr_lead b2
          have := cmpB_num (tr a.ds) (tr b.ds) (a.ds.length - (tr a.ds).length + b.sc) (b.ds.length - (tr b.ds).length + a.sc) (tr_allD ha.1) (tr_allD hb.1) (.inr (tr_tail _ (noLead_ne ka))) (.inr (tr_tail _ (noLead_ne kb))) (by omega)
          have ea : num (tr a.ds) * 10 ^ (a.ds.length - (tr a.ds).length) = num a.ds := by rw [← num_append_zeros, ← sa]
          have eb : num (tr b.ds) * 10 ^ (b.ds.length - (tr b.ds).length) = num b.ds := by rw [← num_append_zeros, ← sb]
          rw [this, Nat.pow_add, Nat.pow_add, ← Nat.mul_assoc, ← Nat.mul_assoc, ea, eb]
theorem sizes_range {a b : D} : cmpN (num a.ds * 10 ^ b.sc) (num b.ds * 10 ^ a.sc) = -1 ∨ cmpN (num a.ds * 10 ^ b.sc) (num b.ds * 10 ^ a.sc) = 0 ∨ cmpN (num a.ds * 10 ^ b.sc) (num b.ds * 10 ^ a.sc) = 1 := by
  unfold cmpN
  split
  · exact .inl rfl
  · split
    · exact .inr (.inr rfl)
    · exact .inr (.inl rfl)
end Dm
end Go.Proofs.YtmlmplmghlbdmaaGreatDoor
