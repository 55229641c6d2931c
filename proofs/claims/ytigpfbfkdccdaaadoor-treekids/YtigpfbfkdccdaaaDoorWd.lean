/- What is proved here: what exponent of package dec does, walked; conditions: as each theorem states. What is proved here: what exponent of package dec does at every text; conditions: the text is no longer than a text may be. -/
import Derived.Test.YtigpfbfkdccdaaaDoorWb
import Derived.Test.YtigpfbfkdccdaaaDoorShelf
namespace Go.Proofs.YtigpfbfkdccdaaaDoor
open Go.RowKit
set_option linter.unusedVariables false
set_option linter.unusedSimpArgs false

def expU (below : Bool) (u : List UInt8) : Option Int :=
  if u.length < 1 ∨ 2 < u.length then none else if u.all Dm.isD then some (if below then -(Dm.num u : Int) else (Dm.num u : Int)) else none
theorem expL_minus {c : UInt8} {u : List UInt8} (h : c = 101 ∨ c = 69) : Dm.expL (c :: 45 :: u) = expU true u := by
  simp only [Dm.expL, expU, if_neg (show ¬ (c ≠ 101 ∧ c ≠ 69) by rcases h with rfl | rfl <;> simp)]
  simp
theorem expL_plus {c : UInt8} {u : List UInt8} (h : c = 101 ∨ c = 69) : Dm.expL (c :: 43 :: u) = expU false u := by
  simp only [Dm.expL, expU, if_neg (show ¬ (c ≠ 101 ∧ c ≠ 69) by rcases h with rfl | rfl <;> simp)]
  simp
theorem expL_bare {c : UInt8} {t : List UInt8} (h : c = 101 ∨ c = 69) (h1 : t.head? ≠ some 45) (h2 : t.head? ≠ some 43) : Dm.expL (c :: t) = expU false t := by
  simp only [Dm.expL, expU, if_neg (show ¬ (c ≠ 101 ∧ c ≠ 69) by rcases h with rfl | rfl <;> simp)]
  have e1 : (t.head? == some 45) = false := by simpa using h1
  have e2 : (t.head? == some 43) = false := by simpa using h2
  simp only [e1, e2, Bool.or_self, Bool.false_eq_true, if_false]
theorem hasPrefix_one (t : List UInt8) (c : UInt8) (n : Nat) (hn : t.length ≤ n) : Lib.hasPrefix (List.take n t) [c] = (t.head? == some c) := by
  rw [List.take_of_length_le hn]
  unfold Lib.hasPrefix
  cases t with
  | nil => rfl
  | cons d u =>
    have : (c == d) = (d == c) := by rw [Bool.eq_iff_iff]; simp only [beq_iff_eq]; exact eq_comm
    simp [List.isPrefixOf, this]
theorem expU_len {b : Bool} {u : List UInt8} (h : u.length < 1 ∨ 2 < u.length) : expU b u = none := if_pos h
theorem expU_bad {b : Bool} {u : List UInt8} {k : Nat} (h : k < u.length) (hd : Dm.isD u[k] = false) : expU b u = none := by
  unfold expU
  have : u.all Dm.isD = false := by
    rw [List.all_eq_false]
    exact ⟨u[k], List.getElem_mem h, by rw [hd]; simp⟩
  rw [this]; simp
theorem expU_ok {b : Bool} {u : List UInt8} (h : 1 ≤ u.length ∧ u.length ≤ 2) (hd : Dm.allD u) : expU b u = some (if b then -(Dm.num u : Int) else (Dm.num u : Int)) := by
  unfold expU
  rw [if_neg (by omega), if_pos (Dm.allD_all.2 hd)]
theorem ret_exp {x : Int} {b : Bool} {r : Option Int} (h : x = r.getD 0) (g : b = r.isSome) : Ending.returned (.tuple #[.int .i64 x, .bool b]) = .returned (.tuple #[.int .i64 (r.getD 0), .bool r.isSome]) := by rw [h, g]
theorem num_take_succ {l : List UInt8} {k : Nat} (h : k < l.length) : Dm.num (l.take (k + 1)) = 10 * Dm.num (l.take k) + Dm.dv l[k] := by
  rw [List.take_succ_eq_append_getElem h, Dm.num_snoc]
theorem num_take_lt {l : List UInt8} {k : Nat} (h : k ≤ 2) (hd : Dm.allD (l.take k)) : Dm.num (l.take k) < 100 := by
  have := Dm.num_lt hd
  have h2 : (l.take k).length ≤ 2 := by rw [List.length_take]; omega
  have : 10 ^ (l.take k).length ≤ 10 ^ 2 := Nat.pow_le_pow_right (by omega) h2
  omega

end Go.Proofs.YtigpfbfkdccdaaaDoor

namespace Go.Proofs.YtigpfbfkdccdaaaDoor
open Go.RowKit
set_option linter.unusedVariables false
set_option linter.unusedSimpArgs false

theorem expL_no {c : UInt8} {t : List UInt8} (h : c ≠ 101 ∧ c ≠ 69) : Dm.expL (c :: t) = none := by
  simp only [Dm.expL, if_pos h]
theorem natne {c : UInt8} (n : Nat) (hn : n < 256) (h : c ≠ UInt8.ofNat n) : ¬ (c.toNat : Int) = (n : Int) := by
  intro e
  apply h
  apply UInt8.toNat_inj.1
  rw [UInt8.toNat_ofNat_of_lt' (by simpa using hn)]
  omega
end Go.Proofs.YtigpfbfkdccdaaaDoor
