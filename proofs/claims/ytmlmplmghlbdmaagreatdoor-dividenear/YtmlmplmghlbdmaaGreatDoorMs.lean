/- What is proved here: the quotient of package divide in the words of numbers: its digits, its sign, and that of a product the first is left; conditions: as each theorem states. -/
import Derived.Test.YtmlmplmghlbdmaaGreatDoorMr
set_option linter.unusedSimpArgs false
set_option linter.unusedVariables false
namespace Go.Proofs.YtmlmplmghlbdmaaGreatDoor
namespace Dm

theorem digits_exist (n : Nat) : ∃ l, allD l ∧ num l = n := by
  induction n using Nat.strongRecOn with
  | ind n ih =>
    by_cases h : n < 10
    · refine ⟨[UInt8.ofNat (48 + n)], ?_, ?_⟩
      · intro c hc
        simp only [List.mem_singleton] at hc
        rw [hc, isD_iff, UInt8.toNat_ofNat']
        omega
      · rw [num_one, dv, UInt8.toNat_ofNat']; omega
    · obtain ⟨l, hl, e⟩ := ih (n / 10) (by omega)
      refine ⟨l ++ [UInt8.ofNat (48 + n % 10)], allD_append.2 ⟨hl, ?_⟩, ?_⟩
      · intro c hc
        simp only [List.mem_singleton] at hc
        rw [hc, isD_iff, UInt8.toNat_ofNat']
        omega
      · rw [num_snoc, e, dv, UInt8.toNat_ofNat']; omega
theorem rep_nat {ng : Bool} {n : Nat} {r : Option D} (h : Rep (sgn ng n) 0 r) (hn : n < 10 ^ 60) (h0 : 0 < n) : ∃ ds, r = some ⟨ng, ds, 0⟩ ∧ May ⟨ng, ds, 0⟩ ∧ num ds = n ∧ noLead ds := by
  obtain ⟨l, hl, e⟩ := digits_exist n
  have hT := tl_allD hl
  have hTn : num (tl l) = n := by rw [tl_num, e]
  have hne : tl l ≠ [] := by
    intro h
    rw [h, num_nil] at hTn
    omega
  have hld := tl_lead l hne
  have hf := fin_rep (ng := ng) (s := 0) hT hld (.inl rfl)
  rw [hTn] at hf
  have hlen : (tl l).length ≤ 60 := by
    obtain ⟨c, t, ec, hc⟩ := hld
    rw [ec] at hT hTn ⊢
    have := num_ge (l := t) (allD_cons.1 hT).1 hc
    rw [hTn] at this
    simp only [List.length_cons]
    rcases Nat.lt_or_ge t.length 60 with g | g
    · omega
    · have := Nat.pow_le_pow_right (n := 10) (by omega) g
      omega
  have e2 : fin ng (tl l) 0 = some ⟨ng, tl l, 0⟩ := by
    unfold fin
    rw [if_neg (by omega)]
  rw [e2] at hf
  exact ⟨tl l, h.uniq hf, hf.1, hTn, hld⟩
theorem rep_zero {ng : Bool} {s : Nat} {r : Option D} (h : Rep (sgn ng 0) s r) : r = some ⟨false, [48], 0⟩ := by
  have : sgn ng 0 = 0 := by unfold sgn; cases ng <;> rfl
  rw [this] at h
  exact h.uniq (zero_rep s)

/-- How many digits are dropped. -/
def DropT (W t : Nat) : Prop := (W = 0 ∧ t = 0) ∨ (1 ≤ t ∧ 10 ^ (t + 33) ≤ W ∧ W < 10 ^ (t + 34))
theorem DropT.uniq {W t t' : Nat} (h : DropT W t) (h' : DropT W t') : t = t' := by
  have key : ∀ a b : Nat, 10 ^ (a + 33) ≤ W → W < 10 ^ (b + 34) → a ≤ b := by
    intro a b h1 h2
    have h3 : 10 ^ (a + 33) < 10 ^ (b + 34) := by omega
    have := (Nat.pow_lt_pow_iff_right (a := 10) (by omega)).1 h3
    omega
  rcases h with ⟨h1, h2⟩ | ⟨h1, h2, h3⟩ <;> rcases h' with ⟨g1, g2⟩ | ⟨g1, g2, g3⟩
  · omega
  · have := pow_pos' (t' + 33); omega
  · have := pow_pos' (t + 33); omega
  · have := key _ _ h2 g3
    have := key _ _ g2 h3
    omega
/-- The quotient: of digits y with z behind the point by y2 with z2. -/
def DivRep (s : Bool) (y : List UInt8) (z : Nat) (y2 : List UInt8) (z2 : Nat) (r : Option D) : Prop :=
  ∃ n t : Nat, (n : Int) = max 0 (35 + (y2.length : Int) - (y.length : Int)) ∧ DropT (num y * 10 ^ n / num y2) t ∧
    Rep (sgn s (nearN t (y2.length + 1) (num y * 10 ^ n / num y2) (num y * 10 ^ n % num y2)) * p10 (-((z : Int) + n - z2 - t)).toNat) ((z : Int) + n - z2 - t).toNat r
theorem DivRep.uniq {s : Bool} {y y2 : List UInt8} {z z2 : Nat} {r r' : Option D} (h : DivRep s y z y2 z2 r) (h' : DivRep s y z y2 z2 r') : r = r' := by
  obtain ⟨n, t, hn, ht, hr⟩ := h
  obtain ⟨n', t', hn', ht', hr'⟩ := h'
  obtain rfl : n = n' := by omega
  obtain rfl := ht.uniq ht'
  exact hr.uniq hr'
/-- The other sign. -/
def turnR : Option D → Option D
  | some d => some (if d.ds = [48] then d else ⟨!d.ng, d.ds, d.sc⟩)
  | none => none
theorem sgn_not (s : Bool) (n : Nat) : sgn (!s) n = - sgn s n := by cases s <;> simp [sgn]
theorem turn_may {d : D} (h : May d) : May (if d.ds = [48] then d else ⟨!d.ng, d.ds, d.sc⟩) := by
  by_cases e : d.ds = [48]
  · rw [if_pos e]; exact h
  · rw [if_neg e]
    obtain ⟨h1, h2, h3, h4⟩ := h
    refine ⟨h1, h2, h3, .inr ?_⟩
    rcases h4 with ⟨g, _⟩ | g
    · exact absurd g e
    · exact g
theorem turn_sg (d : D) : sg (if d.ds = [48] then d else ⟨!d.ng, d.ds, d.sc⟩) = - sg d ∧ (if d.ds = [48] then d else (⟨!d.ng, d.ds, d.sc⟩ : D)).sc = d.sc := by
  by_cases e : d.ds = [48]
  · rw [if_pos e]
    refine ⟨?_, rfl⟩
    unfold sg
    rw [e, show num [48] = 0 from rfl]
    unfold sgn
    cases d.ng <;> rfl
  · rw [if_neg e]
    exact ⟨sgn_not d.ng (num d.ds), rfl⟩
theorem turn_turn {d : D} (e : D) (he : e = if d.ds = [48] then d else ⟨!d.ng, d.ds, d.sc⟩) : (if e.ds = [48] then e else ⟨!e.ng, e.ds, e.sc⟩) = d := by
  by_cases h : d.ds = [48]
  · rw [if_pos h] at he
    subst he
    rw [if_pos h]
  · rw [if_neg h] at he
    subst he
    rw [if_neg h]
    simp
theorem Rep.turn {z : Int} {s : Nat} {r : Option D} (h : Rep z s r) : Rep (-z) s (turnR r) := by
  cases r with
  | none =>
    intro d hd he
    obtain ⟨e1, e2⟩ := turn_sg d
    refine h _ (turn_may hd) ?_
    rw [e1, e2, Int.neg_mul, he, Int.neg_mul, Int.neg_neg]
  | some d =>
    obtain ⟨e1, e2⟩ := turn_sg d
    refine ⟨turn_may h.1, ?_⟩
    rw [e1, e2, Int.neg_mul, h.2, Int.neg_mul]
theorem DivRep.turn {s : Bool} {y y2 : List UInt8} {z z2 : Nat} {r : Option D} (h : DivRep s y z y2 z2 r) : DivRep (!s) y z y2 z2 (turnR r) := by
  obtain ⟨n, t, hn, ht, hr⟩ := h
  refine ⟨n, t, hn, ht, ?_⟩
  rw [sgn_not, Int.neg_mul]
  exact hr.turn
theorem big_quot {y y2 : List UInt8} {n : Nat} (hd : allD y) (hl : noLead y) (hd2 : allD y2) (hn : (n : Int) = max 0 (35 + (y2.length : Int) - (y.length : Int))) (h2 : 0 < num y2) : 10 ^ 34 ≤ num y * 10 ^ n / num y2 := by
  obtain ⟨c, t, e, hc⟩ := hl
  have h1 : 10 ^ t.length ≤ num y := by
    rw [e] at hd ⊢
    exact num_ge (allD_cons.1 hd).1 hc
  have hlen : y.length = t.length + 1 := by rw [e]; rfl
  have h3 := num_lt hd2
  rw [Nat.le_div_iff_mul_le h2]
  have a1 : 10 ^ 34 * num y2 ≤ 10 ^ 34 * 10 ^ y2.length := Nat.mul_le_mul_left _ (by omega)
  have a2 : 10 ^ 34 * 10 ^ y2.length ≤ 10 ^ t.length * 10 ^ n := by
    rw [← Nat.pow_add, ← Nat.pow_add]
    exact Nat.pow_le_pow_right (by omega) (by omega)
  have a3 : 10 ^ t.length * 10 ^ n ≤ num y * 10 ^ n := Nat.mul_le_mul_right _ h1
  omega
end Dm
end Go.Proofs.YtmlmplmghlbdmaaGreatDoor
