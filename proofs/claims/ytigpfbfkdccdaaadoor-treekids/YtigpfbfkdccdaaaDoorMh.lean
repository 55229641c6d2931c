/- What is proved here: how whole numbers are written as decimals, plain mathematics; conditions: as each theorem states. What is proved here: plain mathematics of the document's own answers for decimals; conditions: as each theorem states. -/
import Derived.Test.YtigpfbfkdccdaaaDoorM
import Derived.Lib.ItoaMem
import Derived.Lib.ItoaLen
import Derived.Lib.Strings
namespace Go.Proofs.YtigpfbfkdccdaaaDoor
set_option linter.unusedVariables false
set_option linter.unusedSimpArgs false
namespace Dm

theorem byte_digit {k : Nat} (h : k < 10) : isD (UInt8.ofNat (48 + k)) = true ∧ dv (UInt8.ofNat (48 + k)) = k := by
  have e : (UInt8.ofNat (48 + k)).toNat = 48 + k := by
    rw [UInt8.toNat_ofNat']; exact Nat.mod_eq_of_lt (by omega)
  exact ⟨isD_iff.2 (by omega), by unfold dv; omega⟩
theorem dec_allD (u : Nat) : allD (Lib.decDigits u) ∧ num (Lib.decDigits u) = u := by
  induction u using Nat.strongRecOn with
  | _ u ih =>
    rw [Lib.decDigits]
    by_cases h : u < 10
    · rw [dif_pos h]
      obtain ⟨a, b⟩ := byte_digit h
      exact ⟨allD_cons.2 ⟨a, allD_nil⟩, by rw [num_one, b]⟩
    · rw [dif_neg h]
      obtain ⟨a, b⟩ := ih (u / 10) (by omega)
      obtain ⟨c, d⟩ := byte_digit (k := u % 10) (by omega)
      refine ⟨allD_append.2 ⟨a, allD_cons.2 ⟨c, allD_nil⟩⟩, ?_⟩
      rw [num_snoc, b, d]; omega
theorem dec_lead (u : Nat) (h0 : 0 < u) : noLead (Lib.decDigits u) := by
  induction u using Nat.strongRecOn with
  | _ u ih =>
    rw [Lib.decDigits]
    by_cases h : u < 10
    · rw [dif_pos h]
      refine ⟨_, [], rfl, ?_⟩
      intro e
      have := (byte_digit h).2
      rw [e, dv_48] at this; omega
    · rw [dif_neg h]
      obtain ⟨c, t, e, hc⟩ := ih (u / 10) (by omega) (by omega)
      exact ⟨c, t ++ _, by rw [e]; rfl, hc⟩
theorem dec_zero : Lib.decDigits 0 = [48] := by rw [Lib.decDigits]; rfl
theorem dec_head (u : Nat) : ∃ c t, Lib.decDigits u = c :: t ∧ c ≠ 45 := by
  have h := (dec_allD u).1
  rcases Nat.eq_zero_or_pos u with rfl | g
  · exact ⟨48, [], dec_zero, by decide⟩
  · obtain ⟨c, t, e, _⟩ := dec_lead u g
    rw [e] at h
    refine ⟨c, t, e, ?_⟩
    intro e'
    have := (allD_cons.1 h).1
    rw [e'] at this; cases this
/-- The decimal that is a number. -/
def ofInt (n : Int) : D := ⟨decide (n < 0), Lib.decDigits n.natAbs, 0⟩
theorem ofInt_sg (n : Int) : sg (ofInt n) = n := by
  unfold sg ofInt sgn
  rw [(dec_allD _).2]
  by_cases h : n < 0
  · rw [if_pos (decide_eq_true h)]; omega
  · rw [if_neg (by simpa using h)]; omega
theorem ofInt_may (n : Int) (h : n.natAbs < 18446744073709551616) : May (ofInt n) := by
  refine ⟨(dec_allD _).1, ?_, Nat.zero_le _, ?_⟩
  · show (Lib.decDigits n.natAbs).length ≤ 60
    rw [Lib.decDigits_length]
    have := Lib.nDigits_le20 n.natAbs h
    omega
  · rcases Nat.eq_zero_or_pos n.natAbs with g | g
    · left
      have : n = 0 := by omega
      subst this
      exact ⟨dec_zero, rfl, rfl⟩
    · right
      exact ⟨dec_lead _ g, .inl rfl⟩
theorem ofInt_rep {n : Int} {r : Option D} (h : n.natAbs < 18446744073709551616) : Rep n 0 r ↔ r = some (ofInt n) := by
  have e : Rep n 0 (some (ofInt n)) := ⟨ofInt_may n h, by rw [ofInt_sg]; rfl⟩
  exact ⟨fun g => g.uniq e, fun g => g ▸ e⟩
theorem itoa_cut (n : Int) : Lib.trimPrefix (Lib.itoa n) [45] = (ofInt n).ds ∧ Lib.hasPrefix (Lib.itoa n) [45] = (ofInt n).ng := by
  unfold Lib.itoa ofInt
  by_cases h : n < 0
  · rw [if_pos h]
    have e : n.natAbs = n.natAbs := rfl
    simp [Lib.trimPrefix, Lib.hasPrefix, List.isPrefixOf, h]
  · rw [if_neg h]
    obtain ⟨c, t, e, hc⟩ := dec_head n.toNat
    have e2 : n.natAbs = n.toNat := by omega
    rw [e2]
    have hb : (45 == c) = false := by rw [beq_eq_false_iff_ne]; exact fun g => hc g.symm
    simp [Lib.trimPrefix, Lib.hasPrefix, e, List.isPrefixOf, hb, h]
end Dm
end Go.Proofs.YtigpfbfkdccdaaaDoor

namespace Go.Proofs.YtigpfbfkdccdaaaDoor
set_option linter.unusedVariables false
set_option linter.unusedSimpArgs false
namespace Dm

theorem tl_zeros {l : List UInt8} {k : Nat} (h : tl l = List.replicate k 48) : tl l = [] := by
  by_cases g : tl l = []
  · exact g
  · obtain ⟨c, t, e, hc⟩ := tl_lead l g
    rw [h] at e
    cases k with
    | zero => simp at e
    | succ k => rw [List.replicate_succ] at e; injection e with e1 _; exact absurd e1.symm hc
theorem norm_zero {ng : Bool} {l : List UInt8} (s : Nat) (h : tl l = []) : Rep (sgn ng (num l)) s (some ⟨false, [48], 0⟩) := by
  have e : num l = 0 := by rw [← tl_num, h]; rfl
  rw [e, sgn_zero]; exact zero_rep s
theorem norm_rep {ng : Bool} {l d : List UInt8} {s s' : Nat} (hl : allD l) (hs : s' ≤ s) (h : tl l = d ++ List.replicate (s - s') 48) (hne : d ≠ []) (h2 : s' = 0 ∨ noTail d) : Rep (sgn ng (num l)) s (fin ng d s') := by
  have ha : allD (tl l) := tl_allD hl
  rw [h] at ha
  have hd : allD d := (allD_append.1 ha).1
  have hlead : noLead d := by
    have hn : tl l ≠ [] := by rw [h]; intro e; exact hne (List.append_eq_nil_iff.1 e).1
    obtain ⟨c, t, e, hc⟩ := tl_lead l hn
    rw [h] at e
    cases d with
    | nil => exact absurd rfl hne
    | cons c' t' => injection e with e1 _; exact ⟨c', t', rfl, e1 ▸ hc⟩
  have e : num l = num d * 10 ^ (s - s') := by rw [← tl_num, h, num_append_zeros]
  have := (Rep.up (z := sgn ng (num d)) (s := s') (r := fin ng d s') (s - s')).2 (fin_rep hd hlead h2)
  rw [Nat.add_sub_cancel' hs] at this
  rw [e, sgn_mul]; exact this
theorem tl_step {c : UInt8} {t : List UInt8} (h : c = 48) : tl (c :: t) = tl t := by
  subst h; simp [tl]
theorem tl_stop {l : List UInt8} (h : l = [] ∨ ∃ c t, l = c :: t ∧ c ≠ 48) : tl l = l := by
  rcases h with rfl | ⟨c, t, rfl, h⟩
  · rfl
  · have : (c == 48) = false := beq_eq_false_iff_ne.2 h
    simp [tl, List.dropWhile_cons, this]
theorem back_step {d : List UInt8} {k : Nat} (h0 : 0 < d.length) (h : d[d.length - 1]'(by omega) = 48) : d ++ List.replicate k 48 = d.take (d.length - 1) ++ List.replicate (k + 1) 48 := by
  have e : d = d.take (d.length - 1) ++ [48] := by
    have := List.take_append_getElem (l := d) (i := d.length - 1) (by omega)
    rw [h, show d.length - 1 + 1 = d.length by omega, List.take_length] at this
    exact this.symm
  rw [List.replicate_succ, ← List.singleton_append, ← List.append_assoc, ← e]
theorem back_stop {d : List UInt8} (h0 : 0 < d.length) (h : d[d.length - 1]'(by omega) ≠ 48) : noTail d := by
  have := List.take_append_getElem (l := d) (i := d.length - 1) (by omega)
  rw [show d.length - 1 + 1 = d.length by omega, List.take_length] at this
  exact ⟨_, _, this.symm, h⟩
/-- Digits of one length are in the order of their numbers. -/
theorem num_lex : ∀ (x y : List UInt8), allD x → allD y → x.length = y.length → (num x < num y ↔ x < y)
  | [], [], _, _, _ => by simp [num]
  | [], _ :: _, _, _, h => by simp at h
  | _ :: _, [], _, _, h => by simp at h
  | c :: t, d :: u, hx, hy, h => by
    obtain ⟨hc, ht⟩ := allD_cons.1 hx
    obtain ⟨hd, hu⟩ := allD_cons.1 hy
    have hl : t.length = u.length := by simpa using h
    have ih := num_lex t u ht hu hl
    have b1 := num_lt ht
    have b2 := num_lt hu
    rw [hl] at b1
    rw [List.cons_lt_cons_iff, ← ih, dv_lt hc hd, num_cons, num_cons, hl]
    rcases Nat.lt_trichotomy (dv c) (dv d) with g | g | g
    · have : (dv c + 1) * 10 ^ u.length ≤ dv d * 10 ^ u.length := Nat.mul_le_mul_right _ g
      rw [Nat.add_mul] at this
      exact ⟨fun _ => .inl g, fun _ => by omega⟩
    · have e := dv_inj hc hd g
      rw [g]
      constructor
      · intro q; exact .inr ⟨e, by omega⟩
      · rintro (q | ⟨_, q⟩)
        · omega
        · omega
    · have : (dv d + 1) * 10 ^ u.length ≤ dv c * 10 ^ u.length := Nat.mul_le_mul_right _ g
      rw [Nat.add_mul] at this
      constructor
      · intro q; omega
      · rintro (q | ⟨q, _⟩)
        · omega
        · subst q; omega
theorem num_drop {l : List UInt8} {k : Nat} (h : k < l.length) : num (l.drop (l.length - 1 - k)) = dv (l[l.length - 1 - k]'(by omega)) * 10 ^ k + num (l.drop (l.length - k)) := by
  rw [List.drop_eq_getElem_cons (show l.length - 1 - k < l.length by omega), num_cons, List.length_drop, show l.length - 1 - k + 1 = l.length - k by omega]
  congr 3
  omega
end Dm
end Go.Proofs.YtigpfbfkdccdaaaDoor
