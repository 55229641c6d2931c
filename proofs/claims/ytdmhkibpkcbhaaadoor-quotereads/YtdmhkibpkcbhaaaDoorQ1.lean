/- What is proved here: what the document's own escape answers, walked; conditions: the text has at most 1000000 bytes, the place is within it. -/
import Derived.Test.YtdmhkibpkcbhaaaDoorQz
namespace Go.Proofs.YtdmhkibpkcbhaaaDoor
open Go.RowKit
set_option linter.unusedVariables false
set_option linter.unusedSimpArgs false

/-- What stands behind a backslash: the text, and how many bytes it has. -/
def escR (l : List UInt8) : List UInt8 × Nat := match Qm.nextL (92 :: l) with | none => ([], 0) | some (r, k) => (Lib.encodeRune (r : Int), k - 1)
/-- The number of u and four digits; -1: there are none. -/
def uZ (l : List UInt8) : Int := match Qm.unitL l with | none => -1 | some b => (b : Int)
theorem escR_nil : escR [] = ([], 0) := rfl
theorem nextL_two (c : UInt8) (l : List UInt8) : Qm.nextL (92 :: c :: l) = match Qm.escL c.toNat with | some r => some (r, 2) | none => Qm.numL (92 :: c :: l) := by
  unfold Qm.nextL
  rw [if_neg (by simp), if_pos (by simp), if_neg (by simp)]
  rfl
theorem escR_lit (c : UInt8) (l : List UInt8) (r : Nat) (h : Qm.escL c.toNat = some r) : escR (c :: l) = (Lib.encodeRune (r : Int), 1) := by
  unfold escR
  rw [nextL_two, h]
theorem escR_num (c : UInt8) (l : List UInt8) (h : Qm.escL c.toNat = none) : escR (c :: l) = match Qm.numL (92 :: c :: l) with | none => ([], 0) | some (r, k) => (Lib.encodeRune (r : Int), k - 1) := by
  unfold escR
  rw [nextL_two, h]
theorem escR_other (c : UInt8) (l : List UInt8) (h : Qm.escL c.toNat = none) (hc : c.toNat ≠ 117) : escR (c :: l) = ([], 0) := by
  rw [escR_num c l h]
  have : Qm.unitL (92 :: c :: l) = none := by
    unfold Qm.unitL
    rw [if_neg]
    rintro ⟨_, _, g⟩
    simp at g
    exact hc (by rw [g]; rfl)
  unfold Qm.numL
  rw [this]
theorem uZ_four (l : List UInt8) : uZ (92 :: 117 :: l) = fourZ l := by
  unfold uZ Qm.unitL fourZ
  by_cases h : l.length < 4
  · rw [if_pos h, if_neg (by simp; omega)]
  · rw [if_neg h, if_pos ⟨by simp; omega, by simp, by simp⟩]
    rfl
theorem uZ_no (l : List UInt8) (h : ¬ (l.getD 0 0 = 92 ∧ l.getD 1 0 = 117)) : uZ l = -1 := by
  unfold uZ Qm.unitL
  rw [if_neg]
  rintro ⟨_, g⟩
  exact h g
theorem uZ_short (l : List UInt8) (h : l.length < 6) : uZ l = -1 := by
  unfold uZ Qm.unitL
  rw [if_neg]
  rintro ⟨g, _⟩
  omega
theorem uZ_bound (l : List UInt8) : uZ l = -1 ∨ ∃ b : Nat, uZ l = (b : Int) ∧ b < 65536 := by
  unfold uZ
  cases h : Qm.unitL l with
  | none => exact .inl rfl
  | some b => exact .inr ⟨b, rfl, (Qm.unit_lt h).1⟩
theorem escL_u : Qm.escL (117 : UInt8).toNat = none := by decide
/-- The arms behind u. -/
theorem escR_u (l : List UInt8) : (fourZ l = -1 → escR (117 :: l) = ([], 0)) ∧
    (∀ a : Nat, fourZ l = (a : Int) → (a < 55296 ∨ 57344 ≤ a) → escR (117 :: l) = (Lib.encodeRune (a : Int), 5)) ∧
    (∀ a : Nat, fourZ l = (a : Int) → 56320 ≤ a → a < 57344 → escR (117 :: l) = ([], 0)) ∧
    (∀ a : Nat, fourZ l = (a : Int) → 55296 ≤ a → a < 57344 → uZ (l.drop 4) = -1 → escR (117 :: l) = ([], 0)) ∧
    (∀ a b : Nat, fourZ l = (a : Int) → 55296 ≤ a → a < 57344 → uZ (l.drop 4) = (b : Int) → (b < 56320 ∨ 57344 ≤ b) → escR (117 :: l) = ([], 0)) ∧
    (∀ a b : Nat, fourZ l = (a : Int) → 55296 ≤ a → a < 56320 → uZ (l.drop 4) = (b : Int) → 56320 ≤ b → b < 57344 → escR (117 :: l) = (Lib.encodeRune ((65536 + (a - 55296) * 1024 + (b - 56320) : Nat) : Int), 11)) := by
  rw [← uZ_four, escR_num _ _ escL_u]
  have hd : (92 :: 117 :: l).drop 6 = l.drop 4 := rfl
  unfold uZ Qm.numL
  rw [hd]
  cases h : Qm.unitL (92 :: 117 :: l) with
  | none =>
    refine ⟨fun _ => rfl, ?_, ?_, ?_, ?_, ?_⟩ <;> (intro a; intros; exfalso; dsimp only at *; omega)
  | some x =>
    dsimp only
    refine ⟨fun g => by omega, ?_, ?_, ?_, ?_, ?_⟩
    · intro a ha g
      obtain rfl : x = a := by omega
      rw [if_pos g]
    · intro a ha g1 g2
      obtain rfl : x = a := by omega
      rw [if_neg (by omega)]
      cases Qm.unitL (l.drop 4) with
      | none => rfl
      | some y => dsimp only; rw [if_neg (by omega)]
    · intro a ha g1 g2 g3
      obtain rfl : x = a := by omega
      rw [if_neg (by omega)]
      cases hy : Qm.unitL (l.drop 4) with
      | none => rfl
      | some y => rw [hy] at g3; dsimp only at g3; omega
    · intro a b ha g1 g2 g3 g4
      obtain rfl : x = a := by omega
      rw [if_neg (by omega)]
      cases hy : Qm.unitL (l.drop 4) with
      | none => rfl
      | some y => rw [hy] at g3; dsimp only at g3 ⊢; rw [if_neg (by omega)]
    · intro a b ha g1 g2 g3 g4 g5
      obtain rfl : x = a := by omega
      rw [if_neg (by omega)]
      cases hy : Qm.unitL (l.drop 4) with
      | none => rw [hy] at g3; dsimp only at g3; omega
      | some y =>
        rw [hy] at g3; dsimp only at g3 ⊢
        obtain rfl : y = b := by omega
        rw [if_pos (by omega)]
theorem fourZ_bound (l : List UInt8) : fourZ l = -1 ∨ ∃ b : Nat, fourZ l = (b : Int) ∧ b < 65536 := by
  rw [← uZ_four]
  exact uZ_bound _
theorem drop_cons_at (s : ByteArray) (p : Nat) (h : p < s.size) : s.data.toList.drop p = s[p]'h :: s.data.toList.drop (p + 1) := by
  have h2 : p < s.data.toList.length := by rw [← Lib.size_eq]; exact h
  rw [List.drop_eq_getElem_cons h2, list_atR s p h h2]
theorem pair_in {t : ByteArray} {l : List UInt8} {n m : Nat} (h : (l, m) = (t.data.toList, n)) : t = ⟨l.toArray⟩ ∧ n = m := by
  obtain ⟨h1, h2⟩ := Prod.mk.inj h
  refine ⟨bytes_eqR (by rw [← h1]), h2.symm⟩
theorem pair_enc {t : ByteArray} {l : List UInt8} {n m : Nat} (h : (l, m) = (t.data.toList, n)) : l = t.data.toList ∧ n = m := by
  obtain ⟨h1, h2⟩ := Prod.mk.inj h
  exact ⟨h1, h2.symm⟩

set_option maxHeartbeats 4000000 in
set_option maxRecDepth 1000000 in
theorem ref_escape (s : ByteArray) (p : Nat) (hs : s.size ≤ 1000000) (hp : p ≤ s.size) (t : ByteArray) (n : Nat) (h : escR (s.data.toList.drop p) = (t.data.toList, n)) (w : World) :
    Calls Tryd.prog 22 #[.string s, .int .i64 (p : Int)] w fun e w' => e = .returned (.tuple #[.string t, .int .i64 (n : Int)]) ∧ Below w.heap.size w w' := by
  by_cases hlt : p < s.size
  case neg =>
    rw [List.drop_eq_nil_of_le (by rw [← Lib.size_eq]; omega), escR_nil] at h
    obtain ⟨rfl, rfl⟩ := pair_in h
    have e1 : s.size ≤ p := by omega
    clear h hs hp hlt
    go_enter Tryd.func22, Tryd.ntmps22
    go_wp2
    go_ret2
    exact ⟨rfl, Below.refl _ _⟩
  rw [drop_cons_at s p hlt] at h
  by_cases c34 : (s[p]'hlt).toNat = 34
  · have hc := byte_is c34
    have hes : Qm.escL (s[p]'hlt).toNat = some 34 := by rw [c34]; decide
    rw [escR_lit _ _ _ hes, Qm.enc_low 34 (by decide)] at h
    obtain ⟨ht, rfl⟩ := pair_enc h
    obtain ⟨q, hq⟩ : ∃ q, p + 1 = q := ⟨_, rfl⟩
    have hx : s.extract p q = t := by
      apply bytes_eqR
      rw [Lib.extract_data, ← hq, Nat.add_sub_cancel_left, drop_cons_at s p hlt, List.take_succ_cons, List.take_zero, ← ht, hc]
    have w1 : IntKind.i64.wrap ((p : Int) + 1) = (q : Int) := by rw [IntKind.wrap_i64]; omega
    have l1 : p ≤ q := by omega
    have l2 : q ≤ s.size := by omega
    have e1 : (((s[p]'hlt).toNat : Nat) : Int) = 34 := by omega
    clear h hs hp hq ht hes hc c34
    go_enter Tryd.func22, Tryd.ntmps22
    go_wp2
    go_ret2
    exact ⟨rfl, Below.refl _ _⟩
  by_cases c92 : (s[p]'hlt).toNat = 92
  · have hc := byte_is c92
    have hes : Qm.escL (s[p]'hlt).toNat = some 92 := by rw [c92]; decide
    rw [escR_lit _ _ _ hes, Qm.enc_low 92 (by decide)] at h
    obtain ⟨ht, rfl⟩ := pair_enc h
    obtain ⟨q, hq⟩ : ∃ q, p + 1 = q := ⟨_, rfl⟩
    have hx : s.extract p q = t := by
      apply bytes_eqR
      rw [Lib.extract_data, ← hq, Nat.add_sub_cancel_left, drop_cons_at s p hlt, List.take_succ_cons, List.take_zero, ← ht, hc]
    have w1 : IntKind.i64.wrap ((p : Int) + 1) = (q : Int) := by rw [IntKind.wrap_i64]; omega
    have l1 : p ≤ q := by omega
    have l2 : q ≤ s.size := by omega
    have e1 : (((s[p]'hlt).toNat : Nat) : Int) = 92 := by omega
    clear h hs hp hq ht hes hc c92
    have d34 : (((s[p]'hlt).toNat : Int) == 34) = false := beq_eq_false_iff_ne.2 (by omega)
    go_enter Tryd.func22, Tryd.ntmps22
    go_wp2
    go_ret2
    exact ⟨rfl, Below.refl _ _⟩
  by_cases c47 : (s[p]'hlt).toNat = 47
  · have hc := byte_is c47
    have hes : Qm.escL (s[p]'hlt).toNat = some 47 := by rw [c47]; decide
    rw [escR_lit _ _ _ hes, Qm.enc_low 47 (by decide)] at h
    obtain ⟨ht, rfl⟩ := pair_enc h
    obtain ⟨q, hq⟩ : ∃ q, p + 1 = q := ⟨_, rfl⟩
    have hx : s.extract p q = t := by
      apply bytes_eqR
      rw [Lib.extract_data, ← hq, Nat.add_sub_cancel_left, drop_cons_at s p hlt, List.take_succ_cons, List.take_zero, ← ht, hc]
    have w1 : IntKind.i64.wrap ((p : Int) + 1) = (q : Int) := by rw [IntKind.wrap_i64]; omega
    have l1 : p ≤ q := by omega
    have l2 : q ≤ s.size := by omega
    have e1 : (((s[p]'hlt).toNat : Nat) : Int) = 47 := by omega
    clear h hs hp hq ht hes hc c47
    have d34 : (((s[p]'hlt).toNat : Int) == 34) = false := beq_eq_false_iff_ne.2 (by omega)
    have d92 : (((s[p]'hlt).toNat : Int) == 92) = false := beq_eq_false_iff_ne.2 (by omega)
    go_enter Tryd.func22, Tryd.ntmps22
    go_wp2
    go_ret2
    exact ⟨rfl, Below.refl _ _⟩
  by_cases c98 : (s[p]'hlt).toNat = 98
  · have hes : Qm.escL (s[p]'hlt).toNat = some 8 := by rw [c98]; decide
    rw [escR_lit _ _ _ hes, Qm.enc_low 8 (by decide)] at h
    obtain ⟨rfl, rfl⟩ := pair_in h
    have e1 : (((s[p]'hlt).toNat : Nat) : Int) = 98 := by omega
    have d34 : (((s[p]'hlt).toNat : Int) == 34) = false := beq_eq_false_iff_ne.2 (by omega)
    have d92 : (((s[p]'hlt).toNat : Int) == 92) = false := beq_eq_false_iff_ne.2 (by omega)
    have d47 : (((s[p]'hlt).toNat : Int) == 47) = false := beq_eq_false_iff_ne.2 (by omega)
    clear h hs hp hes c98
    go_enter Tryd.func22, Tryd.ntmps22
    go_wp2
    go_ret2
    exact ⟨rfl, Below.refl _ _⟩
  by_cases c102 : (s[p]'hlt).toNat = 102
  · have hes : Qm.escL (s[p]'hlt).toNat = some 12 := by rw [c102]; decide
    rw [escR_lit _ _ _ hes, Qm.enc_low 12 (by decide)] at h
    obtain ⟨rfl, rfl⟩ := pair_in h
    have e1 : (((s[p]'hlt).toNat : Nat) : Int) = 102 := by omega
    have d34 : (((s[p]'hlt).toNat : Int) == 34) = false := beq_eq_false_iff_ne.2 (by omega)
    have d92 : (((s[p]'hlt).toNat : Int) == 92) = false := beq_eq_false_iff_ne.2 (by omega)
    have d47 : (((s[p]'hlt).toNat : Int) == 47) = false := beq_eq_false_iff_ne.2 (by omega)
    have d98 : (((s[p]'hlt).toNat : Int) == 98) = false := beq_eq_false_iff_ne.2 (by omega)
    clear h hs hp hes c102
    go_enter Tryd.func22, Tryd.ntmps22
    go_wp2
    go_ret2
    exact ⟨rfl, Below.refl _ _⟩
  by_cases c110 : (s[p]'hlt).toNat = 110
  · have hes : Qm.escL (s[p]'hlt).toNat = some 10 := by rw [c110]; decide
    rw [escR_lit _ _ _ hes, Qm.enc_low 10 (by decide)] at h
    obtain ⟨rfl, rfl⟩ := pair_in h
    have e1 : (((s[p]'hlt).toNat : Nat) : Int) = 110 := by omega
    have d34 : (((s[p]'hlt).toNat : Int) == 34) = false := beq_eq_false_iff_ne.2 (by omega)
    have d92 : (((s[p]'hlt).toNat : Int) == 92) = false := beq_eq_false_iff_ne.2 (by omega)
    have d47 : (((s[p]'hlt).toNat : Int) == 47) = false := beq_eq_false_iff_ne.2 (by omega)
    have d98 : (((s[p]'hlt).toNat : Int) == 98) = false := beq_eq_false_iff_ne.2 (by omega)
    have d102 : (((s[p]'hlt).toNat : Int) == 102) = false := beq_eq_false_iff_ne.2 (by omega)
    clear h hs hp hes c110
    go_enter Tryd.func22, Tryd.ntmps22
    go_wp2
    go_ret2
    exact ⟨rfl, Below.refl _ _⟩
  by_cases c114 : (s[p]'hlt).toNat = 114
  · have hes : Qm.escL (s[p]'hlt).toNat = some 13 := by rw [c114]; decide
    rw [escR_lit _ _ _ hes, Qm.enc_low 13 (by decide)] at h
    obtain ⟨rfl, rfl⟩ := pair_in h
    have e1 : (((s[p]'hlt).toNat : Nat) : Int) = 114 := by omega
    have d34 : (((s[p]'hlt).toNat : Int) == 34) = false := beq_eq_false_iff_ne.2 (by omega)
    have d92 : (((s[p]'hlt).toNat : Int) == 92) = false := beq_eq_false_iff_ne.2 (by omega)
    have d47 : (((s[p]'hlt).toNat : Int) == 47) = false := beq_eq_false_iff_ne.2 (by omega)
    have d98 : (((s[p]'hlt).toNat : Int) == 98) = false := beq_eq_false_iff_ne.2 (by omega)
    have d102 : (((s[p]'hlt).toNat : Int) == 102) = false := beq_eq_false_iff_ne.2 (by omega)
    have d110 : (((s[p]'hlt).toNat : Int) == 110) = false := beq_eq_false_iff_ne.2 (by omega)
    clear h hs hp hes c114
    go_enter Tryd.func22, Tryd.ntmps22
    go_wp2
    go_ret2
    exact ⟨rfl, Below.refl _ _⟩
  by_cases c116 : (s[p]'hlt).toNat = 116
  · have hes : Qm.escL (s[p]'hlt).toNat = some 9 := by rw [c116]; decide
    rw [escR_lit _ _ _ hes, Qm.enc_low 9 (by decide)] at h
    obtain ⟨rfl, rfl⟩ := pair_in h
    have e1 : (((s[p]'hlt).toNat : Nat) : Int) = 116 := by omega
    have d34 : (((s[p]'hlt).toNat : Int) == 34) = false := beq_eq_false_iff_ne.2 (by omega)
    have d92 : (((s[p]'hlt).toNat : Int) == 92) = false := beq_eq_false_iff_ne.2 (by omega)
    have d47 : (((s[p]'hlt).toNat : Int) == 47) = false := beq_eq_false_iff_ne.2 (by omega)
    have d98 : (((s[p]'hlt).toNat : Int) == 98) = false := beq_eq_false_iff_ne.2 (by omega)
    have d102 : (((s[p]'hlt).toNat : Int) == 102) = false := beq_eq_false_iff_ne.2 (by omega)
    have d110 : (((s[p]'hlt).toNat : Int) == 110) = false := beq_eq_false_iff_ne.2 (by omega)
    have d114 : (((s[p]'hlt).toNat : Int) == 114) = false := beq_eq_false_iff_ne.2 (by omega)
    clear h hs hp hes c116
    go_enter Tryd.func22, Tryd.ntmps22
    go_wp2
    go_ret2
    exact ⟨rfl, Below.refl _ _⟩
  have d34 : (((s[p]'hlt).toNat : Int) == 34) = false := beq_eq_false_iff_ne.2 (by omega)
  have d92 : (((s[p]'hlt).toNat : Int) == 92) = false := beq_eq_false_iff_ne.2 (by omega)
  have d47 : (((s[p]'hlt).toNat : Int) == 47) = false := beq_eq_false_iff_ne.2 (by omega)
  have d98 : (((s[p]'hlt).toNat : Int) == 98) = false := beq_eq_false_iff_ne.2 (by omega)
  have d102 : (((s[p]'hlt).toNat : Int) == 102) = false := beq_eq_false_iff_ne.2 (by omega)
  have d110 : (((s[p]'hlt).toNat : Int) == 110) = false := beq_eq_false_iff_ne.2 (by omega)
  have d114 : (((s[p]'hlt).toNat : Int) == 114) = false := beq_eq_false_iff_ne.2 (by omega)
  have d116 : (((s[p]'hlt).toNat : Int) == 116) = false := beq_eq_false_iff_ne.2 (by omega)
  have hes : Qm.escL (s[p]'hlt).toNat = none := by unfold Qm.escL; rw [if_neg (by omega), if_neg (by omega), if_neg (by omega), if_neg (by omega), if_neg (by omega), if_neg (by omega)]
  clear c34 c92 c47 c98 c102 c110 c114 c116
  by_cases c117 : (s[p]'hlt).toNat = 117
  case neg =>
    rw [escR_other _ _ hes c117] at h
    obtain ⟨rfl, rfl⟩ := pair_in h
    have d117 : (((s[p]'hlt).toNat : Int) == 117) = false := beq_eq_false_iff_ne.2 (by omega)
    clear h hs hp hes c117
    go_enter Tryd.func22, Tryd.ntmps22
    go_wp2
    go_ret2
    exact ⟨rfl, Below.refl _ _⟩
  rw [byte_is c117] at h
  obtain ⟨q, hq⟩ : ∃ q, p + 1 = q := ⟨_, rfl⟩
  have d117 : (((s[p]'hlt).toNat : Nat) : Int) = 117 := by omega
  have w1 : IntKind.i64.wrap ((p : Int) + 1) = (q : Int) := by rw [IntKind.wrap_i64]; omega
  rw [hq] at h
  obtain ⟨E1, E2, E3, E4, E5, E6⟩ := escR_u (s.data.toList.drop q)
  have hdd : (s.data.toList.drop q).drop 4 = s.data.toList.drop (p + 5) := by rw [List.drop_drop, ← hq]
  rw [hdd] at E4 E5 E6
  change escR (117 :: s.data.toList.drop q) = _ at h
  clear d34 d92 d47 d98 d102 d110 d114 d116 hes
  have C1 := fun x hx => ref_four s q hs (by omega) x hx
  rcases fourZ_bound (s.data.toList.drop q) with hx | ⟨a, hx, ha9⟩
  · rw [E1 hx] at h
    obtain ⟨rfl, rfl⟩ := pair_in h
    replace C1 := C1 _ hx
    clear h hs hp hq c117 E1 E2 E3 E4 E5 E6 hdd hx
    go_enter Tryd.func22, Tryd.ntmps22
    go_wp2_with fail
    refine (C1 _).mono ?_
    rintro e W ⟨rfl, rfl⟩
    go_wp2
    go_ret2
    exact ⟨rfl, Below.refl _ _⟩
  replace C1 := C1 _ hx
  have t0 : decide ((a : Int) < 0) = false := decide_eq_false (by omega)
  by_cases a1 : a < 55296
  · rw [E2 a hx (.inl a1)] at h
    obtain ⟨ht, rfl⟩ := pair_enc h
    have t1 : decide ((56320 : Int) ≤ (a : Int)) = false := decide_eq_false (by omega)
    have t2 : decide ((a : Int) < 55296) = true := decide_eq_true (by omega)
    have C2 := fun W => ref_write a ⟨by omega, by omega⟩ t ht W
    clear h hs hp hq c117 E1 E2 E3 E4 E5 E6 hdd hx a1 ht
    go_enter Tryd.func22, Tryd.ntmps22
    go_wp2_with fail
    refine (C1 _).mono ?_
    rintro e W ⟨rfl, rfl⟩
    go_wp2_with fail
    refine (C2 _).mono ?_
    rintro e W1 ⟨rfl, hB⟩
    go_wp2
    go_ret2
    exact ⟨rfl, hB⟩
  by_cases a2 : 57344 ≤ a
  · rw [E2 a hx (.inr a2)] at h
    obtain ⟨ht, rfl⟩ := pair_enc h
    have t1 : decide ((56320 : Int) ≤ (a : Int)) = true := decide_eq_true (by omega)
    have t2 : decide ((a : Int) < 57344) = false := decide_eq_false (by omega)
    have t3 : decide ((a : Int) < 55296) = false := decide_eq_false (by omega)
    have t4 : decide ((57344 : Int) ≤ (a : Int)) = true := decide_eq_true (by omega)
    have C2 := fun W => ref_write a ⟨by omega, by omega⟩ t ht W
    clear h hs hp hq c117 E1 E2 E3 E4 E5 E6 hdd hx a1 a2 ht
    go_enter Tryd.func22, Tryd.ntmps22
    go_wp2_with fail
    refine (C1 _).mono ?_
    rintro e W ⟨rfl, rfl⟩
    go_wp2_with fail
    refine (C2 _).mono ?_
    rintro e W1 ⟨rfl, hB⟩
    go_wp2
    go_ret2
    exact ⟨rfl, hB⟩
  by_cases a3 : 56320 ≤ a
  · rw [E3 a hx a3 (by omega)] at h
    obtain ⟨rfl, rfl⟩ := pair_in h
    have t1 : decide ((56320 : Int) ≤ (a : Int)) = true := decide_eq_true (by omega)
    have t2 : decide ((a : Int) < 57344) = true := decide_eq_true (by omega)
    clear h hs hp hq c117 E1 E2 E3 E4 E5 E6 hdd hx a1 a2 a3
    go_enter Tryd.func22, Tryd.ntmps22
    go_wp2_with fail
    refine (C1 _).mono ?_
    rintro e W ⟨rfl, rfl⟩
    go_wp2
    go_ret2
    exact ⟨rfl, Below.refl _ _⟩
  have t1 : decide ((56320 : Int) ≤ (a : Int)) = false := decide_eq_false (by omega)
  have t3 : decide ((a : Int) < 55296) = false := decide_eq_false (by omega)
  have t4 : decide ((57344 : Int) ≤ (a : Int)) = false := decide_eq_false (by omega)
  obtain ⟨q5, hq5⟩ : ∃ q5, p + 5 = q5 := ⟨_, rfl⟩
  obtain ⟨q6, hq6⟩ : ∃ q6, p + 6 = q6 := ⟨_, rfl⟩
  obtain ⟨q7, hq7⟩ : ∃ q7, p + 7 = q7 := ⟨_, rfl⟩
  have w5 : IntKind.i64.wrap ((p : Int) + 5) = (q5 : Int) := by rw [IntKind.wrap_i64]; omega
  have w6 : IntKind.i64.wrap ((p : Int) + 6) = (q6 : Int) := by rw [IntKind.wrap_i64]; omega
  have w7 : IntKind.i64.wrap ((p : Int) + 7) = (q7 : Int) := by rw [IntKind.wrap_i64]; omega
  rw [hq5] at E4 E5 E6
  have hl5 : (s.data.toList.drop q5).length = s.size - q5 := by rw [List.length_drop, ← Lib.size_eq]
  by_cases b1 : q7 ≤ s.size
  case neg =>
    rw [E4 a hx (by omega) (by omega) (uZ_short _ (by omega))] at h
    obtain ⟨rfl, rfl⟩ := pair_in h
    have b2 : s.size < q7 := by omega
    clear h hs hp hq c117 E1 E2 E3 E4 E5 E6 hdd hx a1 a2 a3 hq5 hq6 hq7 hl5 b1
    go_enter Tryd.func22, Tryd.ntmps22
    go_wp2_with fail
    refine (C1 _).mono ?_
    rintro e W ⟨rfl, rfl⟩
    go_wp2
    go_ret2
    exact ⟨rfl, Below.refl _ _⟩
  have i5 : q5 < s.size := by omega
  have i6 : q6 < s.size := by omega
  have e5 := drop_cons_at s q5 i5
  have e6 := drop_cons_at s q6 i6
  rw [show q5 + 1 = q6 by omega] at e5
  rw [show q6 + 1 = q7 by omega] at e6
  by_cases b5 : (s[q5]'i5).toNat = 92
  case neg =>
    rw [E4 a hx (by omega) (by omega) (uZ_no _ (by rintro ⟨g, _⟩; rw [e5] at g; simp at g; rw [g] at b5; exact b5 rfl))] at h
    obtain ⟨rfl, rfl⟩ := pair_in h
    have f5 : (((s[q5]'i5).toNat : Int) == 92) = false := beq_eq_false_iff_ne.2 (by omega)
    clear h hs hp hq c117 E1 E2 E3 E4 E5 E6 hdd hx a1 a2 a3 hq5 hq6 hq7 hl5 b5 e5 e6
    go_enter Tryd.func22, Tryd.ntmps22
    go_wp2_with fail
    refine (C1 _).mono ?_
    rintro e W ⟨rfl, rfl⟩
    go_wp2
    go_ret2
    exact ⟨rfl, Below.refl _ _⟩
  have f5 : ((s[q5]'i5).toNat : Int) = 92 := by omega
  by_cases b6 : (s[q6]'i6).toNat = 117
  case neg =>
    rw [E4 a hx (by omega) (by omega) (uZ_no _ (by rintro ⟨_, g⟩; rw [e5, e6] at g; simp at g; rw [g] at b6; exact b6 rfl))] at h
    obtain ⟨rfl, rfl⟩ := pair_in h
    have f6 : (((s[q6]'i6).toNat : Int) == 117) = false := beq_eq_false_iff_ne.2 (by omega)
    clear h hs hp hq c117 E1 E2 E3 E4 E5 E6 hdd hx a1 a2 a3 hq5 hq6 hq7 hl5 b5 b6 e5 e6
    go_enter Tryd.func22, Tryd.ntmps22
    go_wp2_with fail
    refine (C1 _).mono ?_
    rintro e W ⟨rfl, rfl⟩
    go_wp2
    go_ret2
    exact ⟨rfl, Below.refl _ _⟩
  have f6 : ((s[q6]'i6).toNat : Int) = 117 := by omega
  have hu : uZ (s.data.toList.drop q5) = fourZ (s.data.toList.drop q7) := by
    rw [e5, e6, byte_is b5, byte_is b6]
    exact uZ_four _
  rw [hu] at E4 E5 E6
  have C3 := fun x hx => ref_four s q7 hs (by omega) x hx
  rcases fourZ_bound (s.data.toList.drop q7) with hy | ⟨b, hy, hb9⟩
  · rw [E4 a hx (by omega) (by omega) hy] at h
    obtain ⟨rfl, rfl⟩ := pair_in h
    replace C3 := C3 _ hy
    clear h hs hp hq c117 E1 E2 E3 E4 E5 E6 hdd hx a1 a2 a3 hq5 hq6 hq7 hl5 b5 b6 e5 e6 hu hy
    go_enter Tryd.func22, Tryd.ntmps22
    go_wp2_with fail
    refine (C1 _).mono ?_
    rintro e W ⟨rfl, rfl⟩
    go_wp2_with fail
    refine (C3 _).mono ?_
    rintro e W1 ⟨rfl, rfl⟩
    go_wp2
    go_ret2
    exact ⟨rfl, Below.refl _ _⟩
  replace C3 := C3 _ hy
  by_cases y1 : b < 56320
  · rw [E5 a b hx (by omega) (by omega) hy (.inl y1)] at h
    obtain ⟨rfl, rfl⟩ := pair_in h
    have u1 : decide ((b : Int) < 56320) = true := decide_eq_true (by omega)
    clear h hs hp hq c117 E1 E2 E3 E4 E5 E6 hdd hx a1 a2 a3 hq5 hq6 hq7 hl5 b5 b6 e5 e6 hu hy y1
    go_enter Tryd.func22, Tryd.ntmps22
    go_wp2_with fail
    refine (C1 _).mono ?_
    rintro e W ⟨rfl, rfl⟩
    go_wp2_with fail
    refine (C3 _).mono ?_
    rintro e W1 ⟨rfl, rfl⟩
    go_wp2
    go_ret2
    exact ⟨rfl, Below.refl _ _⟩
  have u1 : decide ((b : Int) < 56320) = false := decide_eq_false (by omega)
  by_cases y2 : 57344 ≤ b
  · rw [E5 a b hx (by omega) (by omega) hy (.inr y2)] at h
    obtain ⟨rfl, rfl⟩ := pair_in h
    have u2 : decide ((57344 : Int) ≤ (b : Int)) = true := decide_eq_true (by omega)
    clear h hs hp hq c117 E1 E2 E3 E4 E5 E6 hdd hx a1 a2 a3 hq5 hq6 hq7 hl5 b5 b6 e5 e6 hu hy y1 y2
    go_enter Tryd.func22, Tryd.ntmps22
    go_wp2_with fail
    refine (C1 _).mono ?_
    rintro e W ⟨rfl, rfl⟩
    go_wp2_with fail
    refine (C3 _).mono ?_
    rintro e W1 ⟨rfl, rfl⟩
    go_wp2
    go_ret2
    exact ⟨rfl, Below.refl _ _⟩
  have u2 : decide ((57344 : Int) ≤ (b : Int)) = false := decide_eq_false (by omega)
  rw [E6 a b hx (by omega) (by omega) hy (by omega) (by omega)] at h
  obtain ⟨ht, rfl⟩ := pair_enc h
  obtain ⟨r, hr⟩ : ∃ r, 65536 + (a - 55296) * 1024 + (b - 56320) = r := ⟨_, rfl⟩
  rw [hr] at ht
  obtain ⟨g1, hg1⟩ : ∃ g1, a - 55296 = g1 := ⟨_, rfl⟩
  obtain ⟨g2, hg2⟩ : ∃ g2, 1024 * g1 = g2 := ⟨_, rfl⟩
  obtain ⟨g3, hg3⟩ : ∃ g3, 65536 + g2 = g3 := ⟨_, rfl⟩
  obtain ⟨g4, hg4⟩ : ∃ g4, g3 + b = g4 := ⟨_, rfl⟩
  have v1 : IntKind.i64.wrap ((a : Int) - 55296) = (g1 : Int) := by rw [IntKind.wrap_i64]; omega
  have v2 : IntKind.i64.wrap (1024 * (g1 : Int)) = (g2 : Int) := by rw [IntKind.wrap_i64]; omega
  have v3 : IntKind.i64.wrap (65536 + (g2 : Int)) = (g3 : Int) := by rw [IntKind.wrap_i64]; omega
  have v4 : IntKind.i64.wrap ((g3 : Int) + (b : Int)) = (g4 : Int) := by rw [IntKind.wrap_i64]; omega
  have v5 : IntKind.i64.wrap ((g4 : Int) - 56320) = (r : Int) := by rw [IntKind.wrap_i64]; omega
  have C2 := fun W => ref_write r ⟨by omega, by omega⟩ t ht W
  clear h hs hp hq c117 E1 E2 E3 E4 E5 E6 hdd hx a1 a2 a3 hq5 hq6 hq7 hl5 b5 b6 e5 e6 hu hy y1 y2 ht hr hg1 hg2 hg3 hg4
  go_enter Tryd.func22, Tryd.ntmps22
  go_wp2_with fail
  refine (C1 _).mono ?_
  rintro e W ⟨rfl, rfl⟩
  go_wp2_with fail
  refine (C3 _).mono ?_
  rintro e W1 ⟨rfl, rfl⟩
  go_wp2_with fail
  refine (C2 _).mono ?_
  rintro e W2 ⟨rfl, hB⟩
  go_wp2
  go_ret2
  exact ⟨rfl, hB⟩
end Go.Proofs.YtdmhkibpkcbhaaaDoor
