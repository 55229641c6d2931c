/- What is proved here: plain facts on what the map from names to bits holds, round by round; conditions: none. It imports nothing of any program. -/
import Derived.Test.YtebmmnfjkckffaaCm
import Derived.Maps.OwnSet
namespace Go.Proofs.Ytebmmnfjkckffaa.Cm
open Go.Maps
set_option linter.unusedVariables false

theorem bitN_lt (i : Nat) : bitN i < 18446744073709551616 := by
  unfold bitN
  split
  · rename_i h
    exact Nat.pow_lt_pow_right (a := 2) (m := i) (n := 64) (by decide) h
  · decide
/-- The bits of a name among the first k categories. -/
def valK (L : List Tx) : Nat → Tx → Nat
  | 0, _ => 0
  | k + 1, x => if L[k]? = some x then valK L k x ||| bitN k else valK L k x
theorem valK_lt (L : List Tx) (x : Tx) : ∀ k, valK L k x < 18446744073709551616
  | 0 => by unfold valK; omega
  | k + 1 => by
    unfold valK
    split
    · exact Nat.or_lt_two_pow (n := 64) (valK_lt L x k) (bitN_lt k)
    · exact valK_lt L x k
theorem valK_none {L : List Tx} {x : Tx} : ∀ k, x ∉ L.take k → valK L k x = 0
  | 0, _ => rfl
  | k + 1, h => by
    unfold valK
    have h2 : x ∉ L.take k := fun e => h (by rw [List.take_add_one]; exact List.mem_append_left _ e)
    rw [if_neg, valK_none k h2]
    intro e
    apply h
    rw [List.take_add_one, e]
    simp
theorem valK_one {L : List Tx} (hd : L.Nodup) {i : Nat} {x : Tx} (hi : L[i]? = some x) : ∀ k, valK L k x = if i < k then bitN i else 0
  | 0 => by simp [valK]
  | k + 1 => by
    unfold valK
    rw [valK_one hd hi k]
    by_cases h : L[k]? = some x
    · have : i = k := by
        obtain ⟨h1, h2⟩ := List.getElem?_eq_some_iff.1 hi
        obtain ⟨h3, h4⟩ := List.getElem?_eq_some_iff.1 h
        rcases Nat.lt_trichotomy i k with g | g | g
        · exact absurd (h2.trans h4.symm) (List.pairwise_iff_getElem.1 hd i k h1 h3 g)
        · exact g
        · exact absurd (h4.trans h2.symm) (List.pairwise_iff_getElem.1 hd k i h3 h1 g)
      subst this
      rw [if_pos h, if_neg (by omega), if_pos (by omega), Nat.zero_or]
    · rw [if_neg h]
      have : i ≠ k := fun e => h (e ▸ hi)
      by_cases g : i < k
      · rw [if_pos g, if_pos (by omega)]
      · rw [if_neg g, if_neg (by omega)]

/-- What the map holds behind k rounds. -/
def BitsAt (D : DataW Unit) (L : List Tx) (k : Nat) : Prop :=
  (∀ x, has D (.string x) = decide (x ∈ L.take k)) ∧ (∀ x, D.atKey (.string x) (.lit (.int .u64 0)) = .lit (.int .u64 (valK L k x : Int))) ∧ size D ≤ k ∧ (size D = k ↔ (L.take k).Nodup)
theorem BitsAt.start (L : List Tx) : BitsAt (.map []) L 0 := ⟨fun x => by simp [has], fun x => rfl, Nat.le_refl _, by simp [size]⟩
theorem BitsAt.next {D : DataW Unit} {L : List Tx} {k : Nat} {x : Tx} (h : BitsAt D L k) (ht : Tidy D) (hx : L[k]? = some x) :
    BitsAt (D.put (.string x) (.lit (.int .u64 ((valK L k x ||| bitN k : Nat) : Int)))) L (k + 1) := by
  obtain ⟨h1, h2, h3, h4⟩ := h
  have hk : WideAt.IsKeyLit (.string x) := by first | trivial | exact ⟨_, rfl⟩ | simp [WideAt.IsKeyLit]
  have htk : L.take (k + 1) = L.take k ++ [x] := by rw [List.take_add_one, hx]; rfl
  refine ⟨fun y => ?_, fun y => ?_, ?_, ?_⟩
  · by_cases e : y = x
    · subst e
      rw [has_put_same ht.isMap hk, htk]
      simp
    · rw [has_put_other (by intro q; exact e (by injection q)), h1 y, htk]
      simp [e]
  · have hv : valK L (k + 1) y = if L[k]? = some y then valK L k y ||| bitN k else valK L k y := rfl
    rw [hv]
    by_cases e : y = x
    · subst e
      rw [atKey_put_same ht.isMap hk, if_pos hx]
    · rw [atKey_put_other (by intro q; exact e (by injection q)), h2 y, if_neg (by rw [hx]; intro q; exact e (by injection q with q; exact q.symm))]
  · rw [size_put ht]
    split <;> omega
  · rw [size_put ht, h1 x, htk, List.nodup_append]
    by_cases hm : x ∈ L.take k
    · rw [decide_eq_true hm, if_pos rfl]
      constructor
      · intro e; omega
      · rintro ⟨_, _, e⟩
        exact absurd rfl (e x hm x (by simp))
    · rw [decide_eq_false hm, if_neg (by simp)]
      constructor
      · intro e
        refine ⟨h4.1 (by omega), by simp, ?_⟩
        intro a ha b hb
        rw [List.mem_singleton.1 hb]
        rintro rfl
        exact hm ha
      · rintro ⟨e, _⟩
        rw [h4.2 e]
end Go.Proofs.Ytebmmnfjkckffaa.Cm
