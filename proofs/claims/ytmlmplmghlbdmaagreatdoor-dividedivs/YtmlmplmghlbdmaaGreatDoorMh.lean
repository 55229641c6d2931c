/- What is proved here: plain mathematics of the document's own answers for decimals; conditions: as each theorem states. -/
import Derived.Test.YtmlmplmghlbdmaaGreatDoorMg
namespace Go.Proofs.YtmlmplmghlbdmaaGreatDoor
set_option linter.unusedVariables false
set_option linter.unusedSimpArgs false
namespace Dm

theorem tl_zeros {l : List UInt8} {k : Nat} (h : tl l = List.replicate k 48) : tl l = [] := by
  by_cases g : tl l = []
  · exact g
  · obtain ⟨c, t, e, hc⟩ := tl_lead l g
    rw [h] at e
    cases k with
    | zero => simp at e
    | succ k => rw [List.replicate_succ] at e; injection e with e1 _; exact absurd e1.symm hc
theorem norm_zero {ng : Bool} {l : List UInt8} (s : Nat) (h : tl l = []) : Rep (sgn ng (num l)) s (some ⟨false, [48], 0⟩) := by
  have e : num l = 0 := by rw [← tl_num, h]; rfl
  rw [e, sgn_zero]; exact zero_rep s
theorem norm_rep {ng : Bool} {l d : List UInt8} {s s' : Nat} (hl : allD l) (hs : s' ≤ s) (h : tl l = d ++ List.replicate (s - s') 48) (hne : d ≠ []) (h2 : s' = 0 ∨ noTail d) : Rep (sgn ng (num l)) s (fin ng d s') := by
  have ha : allD (tl l) := tl_allD hl
  rw [h] at ha
  have hd : allD d := (allD_append.1 ha).1
  have hlead : noLead d := by
    have hn : tl l ≠ [] := by rw [h]; intro e; exact hne (List.append_eq_nil_iff.1 e).1
    obtain ⟨c, t, e, hc⟩ := tl_lead l hn
    rw [h] at e
    cases d with
    | nil => exact absurd rfl hne
    | cons c' t' => injection e with e1 _; exact ⟨c', t', rfl, e1 ▸ hc⟩
  have e : num l = num d * 10 ^ (s - s') := by rw [← tl_num, h, num_append_zeros]
  have := (Rep.up (z := sgn ng (num d)) (s := s') (r := fin ng d s') (s - s')).2 (fin_rep hd hlead h2)
  rw [Nat.add_sub_cancel' hs] at this
  rw [e, sgn_mul]; exact this
theorem tl_step {c : UInt8} {t : List UInt8} (h : c = 48) : tl (c :: t) = tl t := by
  subst h; simp [tl]
theorem tl_stop {l : List UInt8} (h : l = [] ∨ ∃ c t, l = c :: t ∧ c ≠ 48) : tl l = l := by
  rcases h with rfl | ⟨c, t, rfl, h⟩
  · rfl
  · have : (c == 48) = false := beq_eq_false_iff_ne.2 h
    simp [tl, List.dropWhile_cons, this]
theorem back_step {d : List UInt8} {k : Nat} (h0 : 0 < d.length) (h : d[d.length - 1]'(by omega) = 48) : d ++ List.replicate k 48 = d.take (d.length - 1) ++ List.replicate (k + 1) 48 := by
  have e : d = d.take (d.length - 1) ++ [48] := by
    have := List.take_append_getElem (l := d) (i := d.length - 1) (by omega)
    rw [h, show d.length - 1 + 1 = d.length by omega, List.take_length] at this
    exact this.symm
  rw [List.replicate_succ, ← List.singleton_append, ← List.append_assoc, ← e]
theorem back_stop {d : List UInt8} (h0 : 0 < d.length) (h : d[d.length - 1]'(by omega) ≠ 48) : noTail d := by
  have := List.take_append_getElem (l := d) (i := d.length - 1) (by omega)
  rw [show d.length - 1 + 1 = d.length by omega, List.take_length] at this
  exact ⟨_, _, this.symm, h⟩
/-- Digits of one length are in the order of their numbers. -/
theorem num_lex : ∀ (x y : List UInt8), allD x → allD y → x.length = y.length → (num x < num y ↔ x < y)
  | [], [], _, _, _ => by simp [num]
  | [], _ :: _, _, _, h => by simp at h
  | _ :: _, [], _, _, h => by simp at h
  | c :: t, d :: u, hx, hy, h => by
    obtain ⟨hc, ht⟩ := allD_cons.1 hx
    obtain ⟨hd, hu⟩ := allD_cons.1 hy
    have hl : t.length = u.length := by simpa using h
    have ih := num_lex t u ht hu hl
    have b1 := num_lt ht
    have b2 := num_lt hu
    rw [hl] at b1
    rw [List.cons_lt_cons_iff, ← ih, dv_lt hc hd, num_cons, num_cons, hl]
    rcases Nat.lt_trichotomy (dv c) (dv d) with g | g | g
    · have : (dv c + 1) * 10 ^ u.length ≤ dv d * 10 ^ u.length := Nat.mul_le_mul_right _ g
      rw [Nat.add_mul] at this
      exact ⟨fun _ => .inl g, fun _ => by omega⟩
    · have e := dv_inj hc hd g
      rw [g]
      constructor
      · intro q; exact .inr ⟨e, by omega⟩
      · rintro (q | ⟨_, q⟩)
        · omega
        · omega
    · have : (dv d + 1) * 10 ^ u.length ≤ dv c * 10 ^ u.length := Nat.mul_le_mul_right _ g
      rw [Nat.add_mul] at this
      constructor
      · intro q; omega
      · rintro (q | ⟨q, _⟩)
        · omega
        · subst q; omega
theorem num_drop {l : List UInt8} {k : Nat} (h : k < l.length) : num (l.drop (l.length - 1 - k)) = dv (l[l.length - 1 - k]'(by omega)) * 10 ^ k + num (l.drop (l.length - k)) := by
  rw [List.drop_eq_getElem_cons (show l.length - 1 - k < l.length by omega), num_cons, List.length_drop, show l.length - 1 - k + 1 = l.length - k by omega]
  congr 3
  omega
end Dm
end Go.Proofs.YtmlmplmghlbdmaaGreatDoor
