/- What is proved here: what Parse comes to, said by the places of a text, as the document's own answer goes along it; conditions: as each theorem states. -/
import Derived.Test.YtigpfbfkdccdaaaDoorWd
import Derived.Test.YtigpfbfkdccdaaaDoorUa
namespace Go.Proofs.YtigpfbfkdccdaaaDoor
open Go.RowKit
set_option linter.unusedVariables false
set_option linter.unusedSimpArgs false

theorem tw_take (u : List UInt8) : u.takeWhile Dm.isD = u.take (u.takeWhile Dm.isD).length ∧ u.dropWhile Dm.isD = u.drop (u.takeWhile Dm.isD).length := by
  have h := List.takeWhile_append_dropWhile (p := Dm.isD) (l := u)
  generalize u.takeWhile Dm.isD = x at *
  generalize u.dropWhile Dm.isD = y at *
  subst h
  exact ⟨by simp, by simp⟩
theorem tw_le (u : List UInt8) : (u.takeWhile Dm.isD).length ≤ u.length := by
  have h := List.takeWhile_append_dropWhile (p := Dm.isD) (l := u)
  have := congrArg List.length h
  rw [List.length_append] at this; omega
theorem headD_at (s : ByteArray) (k : Nat) (h : k < s.size) : (s.data.toList.drop k).headD 0 = s[k] := by
  rw [List.drop_eq_getElem_cons (by rw [← size_len]; exact h)]; rfl
theorem headD_end (s : ByteArray) (k : Nat) (h : ¬ k < s.size) : (s.data.toList.drop k).headD 0 = 0 := by
  rw [List.drop_of_length_le (by rw [← size_len]; omega)]; rfl
theorem intc {c : UInt8} (n : Nat) (hn : n < 256) : ((c.toNat : Int) = (n : Int)) ↔ c = UInt8.ofNat n := by
  constructor
  · intro h
    apply UInt8.toNat_inj.1
    have : (UInt8.ofNat n).toNat = n := by simp; omega
    omega
  · rintro rfl
    have : (UInt8.ofNat n).toNat = n := by simp; omega
    omega
/-- Below 0, or not: where the digits begin. -/
theorem parse_start (s : ByteArray) : ∃ (a : Nat) (ng : Bool), Dm.parseL s.data.toList = Dm.parseU ng (s.data.toList.drop a) ∧ a ≤ s.size ∧ a ≤ 1 ∧
    ((¬ (0 : Int) < (s.size : Int) ∧ a = 0 ∧ ng = false) ∨ (∃ g : 0 < s.size, ¬ (s[0].toNat : Int) = 45 ∧ a = 0 ∧ ng = false) ∨ (∃ g : 0 < s.size, (s[0].toNat : Int) = 45 ∧ a = 1 ∧ ng = true)) := by
  by_cases g : 0 < s.size
  · have hh := headD_at s 0 g
    rw [List.drop_zero] at hh
    by_cases h : (s[0].toNat : Int) = 45
    · refine ⟨1, true, ?_, g, by omega, .inr (.inr ⟨g, h, rfl, rfl⟩)⟩
      have h2 := (intc 45 (by omega)).1 h
      unfold Dm.parseL
      rw [hh, if_pos (show s[0] = 45 from h2), List.drop_one]
    · refine ⟨0, false, ?_, by omega, by omega, .inr (.inl ⟨g, h, rfl, rfl⟩)⟩
      unfold Dm.parseL
      rw [hh, if_neg (fun e : s[0] = 45 => h ((intc 45 (by omega)).2 e)), List.drop_zero]
  · refine ⟨0, false, ?_, by omega, by omega, .inl ⟨by omega, rfl, rfl⟩⟩
    have := headD_end s 0 g
    rw [List.drop_zero] at this
    unfold Dm.parseL
    rw [this, if_neg (by decide), List.drop_zero]
theorem pu_none {ng : Bool} {u : List UInt8} (h : (u.takeWhile Dm.isD).length = 0) : Dm.parseU ng u = none := by
  unfold Dm.parseU
  rw [if_pos (.inl (List.eq_nil_of_length_eq_zero h))]
theorem tw_head {u : List UInt8} {n : Nat} (h : (u.takeWhile Dm.isD).length = n) (h0 : 0 < n) : (u.takeWhile Dm.isD).headD 0 = u.headD 0 := by
  cases u with
  | nil => simp at h; omega
  | cons c t =>
    rw [List.takeWhile_cons] at h ⊢
    cases hc : Dm.isD c with
    | true => simp
    | false => rw [hc] at h; simp at h; omega
theorem pu_nought {ng : Bool} {u : List UInt8} {n : Nat} (h : (u.takeWhile Dm.isD).length = n) (h1 : 1 < n) (h48 : u.headD 0 = 48) : Dm.parseU ng u = none := by
  unfold Dm.parseU
  rw [if_pos (.inr ⟨by omega, by rw [tw_head h (by omega)]; exact h48⟩)]
theorem pu_first {ng : Bool} {u : List UInt8} {n : Nat} (h : (u.takeWhile Dm.isD).length = n) (h0 : 0 < n) (hz : ¬ 1 < n ∨ u.headD 0 ≠ 48) : ¬ (u.takeWhile Dm.isD = [] ∨ (1 < (u.takeWhile Dm.isD).length ∧ (u.takeWhile Dm.isD).headD 0 = 48)) := by
  rintro (e | ⟨e, e'⟩)
  · rw [e] at h; simp at h; omega
  · rw [tw_head h h0] at e'
    rcases hz with g | g
    · omega
    · exact g e'
theorem pu_plain {ng : Bool} {u : List UInt8} {n : Nat} (h : (u.takeWhile Dm.isD).length = n) (h0 : 0 < n) (hz : ¬ 1 < n ∨ u.headD 0 ≠ 48) (hp : (u.drop n).headD 0 ≠ 46) :
    Dm.parseU ng u = (Dm.expL (u.drop n)).map fun t => Dm.fitL ng (u.take n) (((0 : Nat) : Int) - t) := by
  obtain ⟨e1, e2⟩ := tw_take u
  rw [h] at e1 e2
  unfold Dm.parseU
  rw [if_neg (pu_first (ng := ng) h h0 hz), if_neg (by rw [e2]; exact hp), e1, e2]
  rfl
theorem pu_point {ng : Bool} {u : List UInt8} {n k : Nat} (h : (u.takeWhile Dm.isD).length = n) (h0 : 0 < n) (hz : ¬ 1 < n ∨ u.headD 0 ≠ 48) (hp : (u.drop n).headD 0 = 46) (hk : ((u.drop (n + 1)).takeWhile Dm.isD).length = k) (hk0 : 0 < k) :
    Dm.parseU ng u = (Dm.expL (u.drop (n + 1 + k))).map fun t => Dm.fitL ng (u.take n ++ (u.drop (n + 1)).take k) ((k : Int) - t) := by
  obtain ⟨e1, e2⟩ := tw_take u
  rw [h] at e1 e2
  obtain ⟨f1, f2⟩ := tw_take (u.drop (n + 1))
  rw [hk] at f1 f2
  have e3 : (u.drop n).tail = u.drop (n + 1) := by rw [List.tail_drop]
  unfold Dm.parseU
  rw [if_neg (pu_first (ng := ng) h h0 hz), if_pos (by rw [e2]; exact hp), e2, e3, if_neg (by intro e; rw [e] at hk; simp at hk; omega), f2, hk, e1, f1, List.drop_drop]
theorem pu_point_none {ng : Bool} {u : List UInt8} {n : Nat} (h : (u.takeWhile Dm.isD).length = n) (h0 : 0 < n) (hz : ¬ 1 < n ∨ u.headD 0 ≠ 48) (hp : (u.drop n).headD 0 = 46) (hk : ((u.drop (n + 1)).takeWhile Dm.isD).length = 0) :
    Dm.parseU ng u = none := by
  obtain ⟨e1, e2⟩ := tw_take u
  rw [h] at e1 e2
  have e3 : (u.drop n).tail = u.drop (n + 1) := by rw [List.tail_drop]
  unfold Dm.parseU
  rw [if_neg (pu_first (ng := ng) h h0 hz), if_pos (by rw [e2]; exact hp), e2, e3, if_pos (List.eq_nil_of_length_eq_zero hk)]
/-- What stands at the end of a number: its place, and whether it is below 0. -/
theorem exp_start (s : ByteArray) (b : Nat) (g : b < s.size) (he : (s[b].toNat : Int) = 101 ∨ (s[b].toNat : Int) = 69) : ∃ (c : Nat) (dn : Bool), Dm.expL (s.data.toList.drop b) = expU dn (s.data.toList.drop c) ∧ c ≤ s.size ∧
    ((¬ ((b + 1 : Nat) : Int) < (s.size : Int) ∧ c = b + 1 ∧ dn = false) ∨ (∃ g : b + 1 < s.size, ¬ (s[b + 1].toNat : Int) = 45 ∧ ¬ (s[b + 1].toNat : Int) = 43 ∧ c = b + 1 ∧ dn = false) ∨ (∃ g : b + 1 < s.size, (s[b + 1].toNat : Int) = 43 ∧ ¬ (s[b + 1].toNat : Int) = 45 ∧ c = b + 2 ∧ dn = false) ∨ (∃ g : b + 1 < s.size, (s[b + 1].toNat : Int) = 45 ∧ c = b + 2 ∧ dn = true)) := by
  have hl : b < s.data.toList.length := by rw [← size_len]; exact g
  have e0 : s.data.toList.drop b = s[b] :: s.data.toList.drop (b + 1) := List.drop_eq_getElem_cons hl
  have hc : s[b] = 101 ∨ s[b] = 69 := he.elim (fun h => .inl ((intc 101 (by omega)).1 h)) (fun h => .inr ((intc 69 (by omega)).1 h))
  rw [e0]
  by_cases g1 : b + 1 < s.size
  · have e1 : s.data.toList.drop (b + 1) = s[b + 1] :: s.data.toList.drop (b + 2) := List.drop_eq_getElem_cons (by rw [← size_len]; exact g1)
    by_cases h45 : (s[b + 1].toNat : Int) = 45
    · refine ⟨b + 2, true, ?_, by omega, .inr (.inr (.inr ⟨g1, h45, rfl, rfl⟩))⟩
      rw [e1, show s[b + 1] = 45 from (intc 45 (by omega)).1 h45]
      exact expL_minus hc
    · by_cases h43 : (s[b + 1].toNat : Int) = 43
      · refine ⟨b + 2, false, ?_, by omega, .inr (.inr (.inl ⟨g1, h43, h45, rfl, rfl⟩))⟩
        rw [e1, show s[b + 1] = 43 from (intc 43 (by omega)).1 h43]
        exact expL_plus hc
      · refine ⟨b + 1, false, ?_, by omega, .inr (.inl ⟨g1, h45, h43, rfl, rfl⟩)⟩
        refine expL_bare hc ?_ ?_
        · rw [e1]; intro e; injection e with e; exact h45 ((intc 45 (by omega)).2 e)
        · rw [e1]; intro e; injection e with e; exact h43 ((intc 43 (by omega)).2 e)
  · refine ⟨b + 1, false, ?_, by omega, .inl ⟨by omega, rfl, rfl⟩⟩
    have e1 : s.data.toList.drop (b + 1) = [] := List.drop_of_length_le (by rw [← size_len]; omega)
    refine expL_bare hc ?_ ?_ <;> rw [e1] <;> simp
theorem exp_none (s : ByteArray) (b : Nat) (g : b < s.size) (h1 : ¬ (s[b].toNat : Int) = 101) (h2 : ¬ (s[b].toNat : Int) = 69) : Dm.expL (s.data.toList.drop b) = none := by
  rw [List.drop_eq_getElem_cons (by rw [← size_len]; exact g)]
  exact expL_no ⟨fun e => h1 ((intc 101 (by omega)).2 e), fun e => h2 ((intc 69 (by omega)).2 e)⟩
theorem exp_end (s : ByteArray) (b : Nat) (g : b = s.size) : Dm.expL (s.data.toList.drop b) = some 0 := by
  rw [List.drop_of_length_le (by rw [← size_len]; omega)]; rfl
theorem tw_next {u : List UInt8} {n : Nat} (h : (u.takeWhile Dm.isD).length = n) (g : n < u.length) : Dm.isD u[n] = false := by
  obtain ⟨_, e2⟩ := tw_take u
  rw [h, List.drop_eq_getElem_cons g] at e2
  have := List.head?_dropWhile_not Dm.isD u
  rw [e2] at this
  simp only [List.head?_cons] at this
  exact this
theorem tw_allD (u : List UInt8) {n : Nat} (h : (u.takeWhile Dm.isD).length = n) : Dm.allD (u.take n) := by
  obtain ⟨e1, _⟩ := tw_take u
  rw [h] at e1
  rw [← e1]; exact Dm.takeWhile_allD u
theorem expU_few {dn : Bool} {u : List UInt8} {n : Nat} (h : (u.takeWhile Dm.isD).length = n) (hn : n < 1 ∨ 2 < n) : expU dn u = none := by
  have hle := tw_le u
  rcases hn with g | g
  · by_cases hu : 0 < u.length
    · exact expU_bad (k := n) (by omega) (tw_next h (by omega))
    · exact expU_len (.inl (by omega))
  · exact expU_len (.inr (by omega))
theorem expU_more {dn : Bool} {u : List UInt8} {n : Nat} (h : (u.takeWhile Dm.isD).length = n) (hn : n < u.length) : expU dn u = none := expU_bad hn (tw_next h hn)
theorem expU_all {dn : Bool} {u : List UInt8} {n : Nat} (h : (u.takeWhile Dm.isD).length = n) (hn : 1 ≤ n ∧ n ≤ 2) (hu : u.length = n) : expU dn u = some (if dn then -(Dm.num (u.take n) : Int) else (Dm.num (u.take n) : Int)) := by
  have hd := tw_allD u h
  rw [List.take_of_length_le (by omega)] at hd ⊢
  exact expU_ok (by omega) hd
/-- The last step. -/
theorem parse_last {ng : Bool} {D : List UInt8} {sc : Int} {r : Option Dm.D} (hd : Dm.allD D) (h : Dm.Rep (Dm.sgn ng (Dm.num D) * Dm.p10 (-sc).toNat) sc.toNat r) : r = Dm.fitL ng D sc :=
  h.uniq (Dm.fit_rep ng hd sc)
theorem sgn_zeros (ng : Bool) (D : List UInt8) (k : Nat) : Dm.sgn ng (Dm.num (D ++ List.replicate k 48)) = Dm.sgn ng (Dm.num D) * Dm.p10 k := by
  rw [Dm.num_append_zeros, Dm.sgn_mul]; rfl
/-- Whether a byte stands at a place. -/
theorem at_case (s : ByteArray) (k : Nat) (c : UInt8) (z : Int) (hz : z = (c.toNat : Int)) : ∃ p : Bool, (p = true ∧ (s.data.toList.drop k).headD 0 = c ∧ (∃ g : k < s.size, (k : Int) < (s.size : Int) ∧ ((s[k].toNat : Int) == z) = true)) ∨ (p = false ∧ (c = 0 ∨ (s.data.toList.drop k).headD 0 ≠ c) ∧ (¬ (k : Int) < (s.size : Int) ∨ (∃ g : k < s.size, (k : Int) < (s.size : Int) ∧ ((s[k].toNat : Int) == z) = false))) := by
  subst hz
  by_cases g : k < s.size
  · have hh := headD_at s k g
    by_cases h : s[k] = c
    · exact ⟨true, .inl ⟨rfl, by rw [hh, h], g, by omega, by rw [h]; exact beq_iff_eq.2 rfl⟩⟩
    · refine ⟨false, .inr ⟨rfl, .inr (by rw [hh]; exact h), .inr ⟨g, by omega, ?_⟩⟩⟩
      rw [beq_eq_false_iff_ne]
      intro e
      exact h (UInt8.toNat_inj.1 (by omega))
  · refine ⟨false, .inr ⟨rfl, ?_, .inl (by omega)⟩⟩
    have := headD_end s k g
    by_cases hc : c = 0
    · exact .inl hc
    · exact .inr (by rw [this]; exact fun e => hc e.symm)
theorem ext_take (s : ByteArray) (a b n : Nat) (h : b = a + n) : s.extract a b = ⟨((s.data.toList.drop a).take n).toArray⟩ := by
  subst h
  apply str_ext
  rw [Go.Lib.extract_data]
  congr 1
  omega
end Go.Proofs.YtigpfbfkdccdaaaDoor
