/- What is proved here: what exponent of package dec does, walked; conditions: as each theorem states. What is proved here: what exponent of package dec does at every text; conditions: the text is no longer than a text may be. What is proved here: what fit of package dec does with digits that lie in memory, walked; conditions: as each theorem states. What is proved here: what append of a text's bytes to a text's converted bytes leaves in memory; conditions: both are short. What is proved here: what Parse of package dec does, walked; conditions: the text has at most 100000 bytes. What is proved here: what Parse comes to, said by the places of a text, as the document's own answer goes along it; conditions: as each theorem states. What is proved here: what Parse of package dec does where there is a point, walked; conditions: as each theorem states. What is proved here: what Parse of package dec does at every text; conditions: the text has at most 100000 bytes. What is proved here: what Print of package dec does with a decimal that may be, walked; conditions: as each theorem states. What is proved here: what Print of package dec does at every decimal that may be; conditions: the decimal may be. What is proved here: what digitAt and combine of package dec do, walked; conditions: as each theorem states. What is proved here: what multiply of package dec does, walked; conditions: both texts are digits, 60 at most. What is proved here: what Mul of package dec does with decimals that may be, walked; conditions: both may be. What is proved here: what Add of package dec does with decimals of one sign, walked; conditions: both may be. What is proved here: what size and signOf of package dec and cmp.Or of Go's library do, walked; conditions: as each theorem states. -/
import Derived.Test.YtppkknmgdahniaaDoorZDc
import Derived.Test.YtppkknmgdahniaaDoorZAc
import Derived.Laws.BytesArg
import Derived.RegionTactic
import Derived.Deep.RegionWith
import Derived.Deep.CutRange
import Derived.Deep.AppendSrc
import Derived.Lib.ConvBytes
import Derived.Laws.IdiomCopy
import Derived.Test.YtppkknmgdahniaaDoorZAa
import Derived.Deep.OwnRows
import Derived.Deep.RegionHeld3
namespace Go.Proofs.YtppkknmgdahniaaDoor
set_option maxRecDepth 100000
open Go.RowKit
set_option linter.unusedVariables false
set_option linter.unusedSimpArgs false

def expU (below : Bool) (u : List UInt8) : Option Int :=
  if u.length < 1 ∨ 2 < u.length then none else if u.all Dm.isD then some (if below then -(Dm.num u : Int) else (Dm.num u : Int)) else none
theorem expL_minus {c : UInt8} {u : List UInt8} (h : c = 101 ∨ c = 69) : Dm.expL (c :: 45 :: u) = expU true u := by
  simp only [Dm.expL, expU, if_neg (show ¬ (c ≠ 101 ∧ c ≠ 69) by rcases h with rfl | rfl <;> simp)]
  simp
theorem expL_plus {c : UInt8} {u : List UInt8} (h : c = 101 ∨ c = 69) : Dm.expL (c :: 43 :: u) = expU false u := by
  simp only [Dm.expL, expU, if_neg (show ¬ (c ≠ 101 ∧ c ≠ 69) by rcases h with rfl | rfl <;> simp)]
  simp
theorem expL_bare {c : UInt8} {t : List UInt8} (h : c = 101 ∨ c = 69) (h1 : t.head? ≠ some 45) (h2 : t.head? ≠ some 43) : Dm.expL (c :: t) = expU false t := by
  simp only [Dm.expL, expU, if_neg (show ¬ (c ≠ 101 ∧ c ≠ 69) by rcases h with rfl | rfl <;> simp)]
  have e1 : (t.head? == some 45) = false := by simpa using h1
  have e2 : (t.head? == some 43) = false := by simpa using h2
  simp only [e1, e2, Bool.or_self, Bool.false_eq_true, if_false]
theorem expU_len {b : Bool} {u : List UInt8} (h : u.length < 1 ∨ 2 < u.length) : expU b u = none := if_pos h
theorem expU_bad {b : Bool} {u : List UInt8} {k : Nat} (h : k < u.length) (hd : Dm.isD u[k] = false) : expU b u = none := by
  unfold expU
  have : u.all Dm.isD = false := by
    rw [List.all_eq_false]
    exact ⟨u[k], List.getElem_mem h, by rw [hd]; simp⟩
  rw [this]; simp
theorem expU_ok {b : Bool} {u : List UInt8} (h : 1 ≤ u.length ∧ u.length ≤ 2) (hd : Dm.allD u) : expU b u = some (if b then -(Dm.num u : Int) else (Dm.num u : Int)) := by
  unfold expU
  rw [if_neg (by omega), if_pos (Dm.allD_all.2 hd)]
theorem num_take_succ {l : List UInt8} {k : Nat} (h : k < l.length) : Dm.num (l.take (k + 1)) = 10 * Dm.num (l.take k) + Dm.dv l[k] := by
  rw [List.take_succ_eq_append_getElem h, Dm.num_snoc]
theorem num_take_lt {l : List UInt8} {k : Nat} (h : k ≤ 2) (hd : Dm.allD (l.take k)) : Dm.num (l.take k) < 100 := by
  have := Dm.num_lt hd
  have h2 : (l.take k).length ≤ 2 := by rw [List.length_take]; omega
  have : 10 ^ (l.take k).length ≤ 10 ^ 2 := Nat.pow_le_pow_right (by omega) h2
  omega

end Go.Proofs.YtppkknmgdahniaaDoor

namespace Go.Proofs.YtppkknmgdahniaaDoor
set_option maxRecDepth 100000
open Go.RowKit
set_option linter.unusedVariables false
set_option linter.unusedSimpArgs false

theorem expL_no {c : UInt8} {t : List UInt8} (h : c ≠ 101 ∧ c ≠ 69) : Dm.expL (c :: t) = none := by
  simp only [Dm.expL, if_pos h]
end Go.Proofs.YtppkknmgdahniaaDoor

namespace Go.Proofs.YtppkknmgdahniaaDoor
set_option maxRecDepth 100000
open Go.RowKit
set_option linter.unusedVariables false
set_option linter.unusedSimpArgs false

theorem repeatL_48 (n : Nat) : Lib.repeatL [48] n = List.replicate n 48 := by
  induction n with
  | zero => rfl
  | succ n ih => rw [List.replicate_succ, Lib.repeatL, ih]; rfl
set_option maxRecDepth 100000 in
theorem repeat_any (c : Int) (w : World) (h0 : 0 ≤ c) (h1 : c ≤ 1000) :
    Calls Tryd.prog 99 #[.string ⟨#[48]⟩, .int .i64 c] w fun e w' => e = .returned (.string ⟨(List.replicate c.toNat (48 : UInt8)).toArray⟩) ∧ Below w.heap.size w w' := by
  obtain ⟨n, rfl⟩ := Int.eq_ofNat_of_zero_le h0
  have hs : (⟨#[48]⟩ : ByteArray).size = 1 := rfl
  have := Tryd.strings_Repeat ⟨#[48]⟩ n w (by omega) (by rw [hs]; omega)
  refine this.mono ?_
  rintro e w' ⟨rfl, hb⟩
  refine ⟨?_, hb⟩
  rw [Int.toNat_natCast]
  have : (⟨#[48]⟩ : ByteArray).data.toList = [48] := rfl
  rw [this, repeatL_48]
theorem str_join (l : List UInt8) (n : Nat) : (⟨l.toArray⟩ ++ ⟨Array.replicate n 48⟩ : ByteArray) = ⟨(l ++ List.replicate n 48).toArray⟩ := by
  rw [← ByteArray.mk_append_mk]; simp
/-- A decimal as a value. -/
def dV (d : Dm.D) : Value := .agg #[.bool d.ng, .string ⟨d.ds.toArray⟩, .int .i64 (d.sc : Int)]
def zV : Value := .agg #[.bool false, .string ⟨#[]⟩, .int .i64 0]
/-- What a call hands back: a decimal and OK; or none and ErrBig. -/
def rV (r : Option Dm.D) : Value := match r with
  | some d => .tuple #[dV d, .int .i64 0]
  | none => .tuple #[zV, .int .i64 3]

end Go.Proofs.YtppkknmgdahniaaDoor

namespace Go.Proofs.YtppkknmgdahniaaDoor
set_option maxRecDepth 100000
open Go.RowKit
set_option linter.unusedVariables false
set_option linter.unusedSimpArgs false

end Go.Proofs.YtppkknmgdahniaaDoor

namespace Go.Proofs.YtppkknmgdahniaaDoor
set_option maxRecDepth 100000
open Go.RowKit
set_option linter.unusedVariables false
set_option linter.unusedSimpArgs false

/-- What Parse hands back. -/
def pV (r : Option (Option Dm.D)) : Value := match r with
  | none => .tuple #[zV, .int .i64 4]
  | some r => rV r

theorem Own.row {w0 w w' : World} (h : Own w0 w) (hb : Below w.heap.size w w') : Own w0 w' := h.step hb

end Go.Proofs.YtppkknmgdahniaaDoor

namespace Go.Proofs.YtppkknmgdahniaaDoor
set_option maxRecDepth 100000
open Go.RowKit
set_option linter.unusedVariables false
set_option linter.unusedSimpArgs false

theorem tw_take (u : List UInt8) : u.takeWhile Dm.isD = u.take (u.takeWhile Dm.isD).length ∧ u.dropWhile Dm.isD = u.drop (u.takeWhile Dm.isD).length := by
  have h := List.takeWhile_append_dropWhile (p := Dm.isD) (l := u)
  generalize u.takeWhile Dm.isD = x at *
  generalize u.dropWhile Dm.isD = y at *
  subst h
  exact ⟨by simp, by simp⟩
theorem tw_le (u : List UInt8) : (u.takeWhile Dm.isD).length ≤ u.length := by
  have h := List.takeWhile_append_dropWhile (p := Dm.isD) (l := u)
  have := congrArg List.length h
  rw [List.length_append] at this; omega
theorem headD_at (s : ByteArray) (k : Nat) (h : k < s.size) : (s.data.toList.drop k).headD 0 = s[k] := by
  rw [List.drop_eq_getElem_cons (by rw [← size_len]; exact h)]; rfl
theorem headD_end (s : ByteArray) (k : Nat) (h : ¬ k < s.size) : (s.data.toList.drop k).headD 0 = 0 := by
  rw [List.drop_of_length_le (by rw [← size_len]; omega)]; rfl
theorem intc {c : UInt8} (n : Nat) (hn : n < 256) : ((c.toNat : Int) = (n : Int)) ↔ c = UInt8.ofNat n := by
  constructor
  · intro h
    apply UInt8.toNat_inj.1
    have : (UInt8.ofNat n).toNat = n := by simp; omega
    omega
  · rintro rfl
    have : (UInt8.ofNat n).toNat = n := by simp; omega
    omega
/-- Below 0, or not: where the digits begin. -/
theorem parse_start (s : ByteArray) : ∃ (a : Nat) (ng : Bool), Dm.parseL s.data.toList = Dm.parseU ng (s.data.toList.drop a) ∧ a ≤ s.size ∧ a ≤ 1 ∧
    ((¬ (0 : Int) < (s.size : Int) ∧ a = 0 ∧ ng = false) ∨ (∃ g : 0 < s.size, ¬ (s[0].toNat : Int) = 45 ∧ a = 0 ∧ ng = false) ∨ (∃ g : 0 < s.size, (s[0].toNat : Int) = 45 ∧ a = 1 ∧ ng = true)) := by
  by_cases g : 0 < s.size
  · have hh := headD_at s 0 g
    rw [List.drop_zero] at hh
    by_cases h : (s[0].toNat : Int) = 45
    · refine ⟨1, true, ?_, g, by omega, .inr (.inr ⟨g, h, rfl, rfl⟩)⟩
      have h2 := (intc 45 (by omega)).1 h
      unfold Dm.parseL
      rw [hh, if_pos (show s[0] = 45 from h2), List.drop_one]
    · refine ⟨0, false, ?_, by omega, by omega, .inr (.inl ⟨g, h, rfl, rfl⟩)⟩
      unfold Dm.parseL
      rw [hh, if_neg (fun e : s[0] = 45 => h ((intc 45 (by omega)).2 e)), List.drop_zero]
  · refine ⟨0, false, ?_, by omega, by omega, .inl ⟨by omega, rfl, rfl⟩⟩
    have := headD_end s 0 g
    rw [List.drop_zero] at this
    unfold Dm.parseL
    rw [this, if_neg (by decide), List.drop_zero]
theorem pu_none {ng : Bool} {u : List UInt8} (h : (u.takeWhile Dm.isD).length = 0) : Dm.parseU ng u = none := by
  unfold Dm.parseU
  rw [if_pos (.inl (List.eq_nil_of_length_eq_zero h))]
theorem tw_head {u : List UInt8} {n : Nat} (h : (u.takeWhile Dm.isD).length = n) (h0 : 0 < n) : (u.takeWhile Dm.isD).headD 0 = u.headD 0 := by
  cases u with
  | nil => simp at h; omega
  | cons c t =>
    rw [List.takeWhile_cons] at h ⊢
    cases hc : Dm.isD c with
    | true => simp
    | false => rw [hc] at h; simp at h; omega
theorem pu_nought {ng : Bool} {u : List UInt8} {n : Nat} (h : (u.takeWhile Dm.isD).length = n) (h1 : 1 < n) (h48 : u.headD 0 = 48) : Dm.parseU ng u = none := by
  unfold Dm.parseU
  rw [if_pos (.inr ⟨by omega, by rw [tw_head h (by omega)]; exact h48⟩)]
theorem pu_first {ng : Bool} {u : List UInt8} {n : Nat} (h : (u.takeWhile Dm.isD).length = n) (h0 : 0 < n) (hz : ¬ 1 < n ∨ u.headD 0 ≠ 48) : ¬ (u.takeWhile Dm.isD = [] ∨ (1 < (u.takeWhile Dm.isD).length ∧ (u.takeWhile Dm.isD).headD 0 = 48)) := by
  rintro (e | ⟨e, e'⟩)
  · rw [e] at h; simp at h; omega
  · rw [tw_head h h0] at e'
    rcases hz with g | g
    · omega
    · exact g e'
theorem pu_plain {ng : Bool} {u : List UInt8} {n : Nat} (h : (u.takeWhile Dm.isD).length = n) (h0 : 0 < n) (hz : ¬ 1 < n ∨ u.headD 0 ≠ 48) (hp : (u.drop n).headD 0 ≠ 46) :
    Dm.parseU ng u = (Dm.expL (u.drop n)).map fun t => Dm.fitL ng (u.take n) (((0 : Nat) : Int) - t) := by
  obtain ⟨e1, e2⟩ := tw_take u
  rw [h] at e1 e2
  unfold Dm.parseU
  rw [if_neg (pu_first (ng := ng) h h0 hz), if_neg (by rw [e2]; exact hp), e1, e2]
  rfl
theorem pu_point {ng : Bool} {u : List UInt8} {n k : Nat} (h : (u.takeWhile Dm.isD).length = n) (h0 : 0 < n) (hz : ¬ 1 < n ∨ u.headD 0 ≠ 48) (hp : (u.drop n).headD 0 = 46) (hk : ((u.drop (n + 1)).takeWhile Dm.isD).length = k) (hk0 : 0 < k) :
    Dm.parseU ng u = (Dm.expL (u.drop (n + 1 + k))).map fun t => Dm.fitL ng (u.take n ++ (u.drop (n + 1)).take k) ((k : Int) - t) := by
  obtain ⟨e1, e2⟩ := tw_take u
  rw [h] at e1 e2
  obtain ⟨f1, f2⟩ := tw_take (u.drop (n + 1))
  rw [hk] at f1 f2
  have e3 : (u.drop n).tail = u.drop (n + 1) := by rw [List.tail_drop]
  unfold Dm.parseU
  rw [if_neg (pu_first (ng := ng) h h0 hz), if_pos (by rw [e2]; exact hp), e2, e3, if_neg (by intro e; rw [e] at hk; simp at hk; omega), f2, hk, e1, f1, List.drop_drop]
theorem pu_point_none {ng : Bool} {u : List UInt8} {n : Nat} (h : (u.takeWhile Dm.isD).length = n) (h0 : 0 < n) (hz : ¬ 1 < n ∨ u.headD 0 ≠ 48) (hp : (u.drop n).headD 0 = 46) (hk : ((u.drop (n + 1)).takeWhile Dm.isD).length = 0) :
    Dm.parseU ng u = none := by
  obtain ⟨e1, e2⟩ := tw_take u
  rw [h] at e1 e2
  have e3 : (u.drop n).tail = u.drop (n + 1) := by rw [List.tail_drop]
  unfold Dm.parseU
  rw [if_neg (pu_first (ng := ng) h h0 hz), if_pos (by rw [e2]; exact hp), e2, e3, if_pos (List.eq_nil_of_length_eq_zero hk)]
/-- What stands at the end of a number: its place, and whether it is below 0. -/
theorem exp_start (s : ByteArray) (b : Nat) (g : b < s.size) (he : (s[b].toNat : Int) = 101 ∨ (s[b].toNat : Int) = 69) : ∃ (c : Nat) (dn : Bool), Dm.expL (s.data.toList.drop b) = expU dn (s.data.toList.drop c) ∧ c ≤ s.size ∧
    ((¬ ((b + 1 : Nat) : Int) < (s.size : Int) ∧ c = b + 1 ∧ dn = false) ∨ (∃ g : b + 1 < s.size, ¬ (s[b + 1].toNat : Int) = 45 ∧ ¬ (s[b + 1].toNat : Int) = 43 ∧ c = b + 1 ∧ dn = false) ∨ (∃ g : b + 1 < s.size, (s[b + 1].toNat : Int) = 43 ∧ ¬ (s[b + 1].toNat : Int) = 45 ∧ c = b + 2 ∧ dn = false) ∨ (∃ g : b + 1 < s.size, (s[b + 1].toNat : Int) = 45 ∧ c = b + 2 ∧ dn = true)) := by
  have hl : b < s.data.toList.length := by rw [← size_len]; exact g
  have e0 : s.data.toList.drop b = s[b] :: s.data.toList.drop (b + 1) := List.drop_eq_getElem_cons hl
  have hc : s[b] = 101 ∨ s[b] = 69 := he.elim (fun h => .inl ((intc 101 (by omega)).1 h)) (fun h => .inr ((intc 69 (by omega)).1 h))
  rw [e0]
  by_cases g1 : b + 1 < s.size
  · have e1 : s.data.toList.drop (b + 1) = s[b + 1] :: s.data.toList.drop (b + 2) := List.drop_eq_getElem_cons (by rw [← size_len]; exact g1)
    by_cases h45 : (s[b + 1].toNat : Int) = 45
    · refine ⟨b + 2, true, ?_, by omega, .inr (.inr (.inr ⟨g1, h45, rfl, rfl⟩))⟩
      rw [e1, show s[b + 1] = 45 from (intc 45 (by omega)).1 h45]
      exact expL_minus hc
    · by_cases h43 : (s[b + 1].toNat : Int) = 43
      · refine ⟨b + 2, false, ?_, by omega, .inr (.inr (.inl ⟨g1, h43, h45, rfl, rfl⟩))⟩
        rw [e1, show s[b + 1] = 43 from (intc 43 (by omega)).1 h43]
        exact expL_plus hc
      · refine ⟨b + 1, false, ?_, by omega, .inr (.inl ⟨g1, h45, h43, rfl, rfl⟩)⟩
        refine expL_bare hc ?_ ?_
        · rw [e1]; intro e; injection e with e; exact h45 ((intc 45 (by omega)).2 e)
        · rw [e1]; intro e; injection e with e; exact h43 ((intc 43 (by omega)).2 e)
  · refine ⟨b + 1, false, ?_, by omega, .inl ⟨by omega, rfl, rfl⟩⟩
    have e1 : s.data.toList.drop (b + 1) = [] := List.drop_of_length_le (by rw [← size_len]; omega)
    refine expL_bare hc ?_ ?_ <;> rw [e1] <;> simp
theorem exp_none (s : ByteArray) (b : Nat) (g : b < s.size) (h1 : ¬ (s[b].toNat : Int) = 101) (h2 : ¬ (s[b].toNat : Int) = 69) : Dm.expL (s.data.toList.drop b) = none := by
  rw [List.drop_eq_getElem_cons (by rw [← size_len]; exact g)]
  exact expL_no ⟨fun e => h1 ((intc 101 (by omega)).2 e), fun e => h2 ((intc 69 (by omega)).2 e)⟩
theorem exp_end (s : ByteArray) (b : Nat) (g : b = s.size) : Dm.expL (s.data.toList.drop b) = some 0 := by
  rw [List.drop_of_length_le (by rw [← size_len]; omega)]; rfl
theorem tw_next {u : List UInt8} {n : Nat} (h : (u.takeWhile Dm.isD).length = n) (g : n < u.length) : Dm.isD u[n] = false := by
  obtain ⟨_, e2⟩ := tw_take u
  rw [h, List.drop_eq_getElem_cons g] at e2
  have := List.head?_dropWhile_not Dm.isD u
  rw [e2] at this
  simp only [List.head?_cons] at this
  exact this
theorem tw_allD (u : List UInt8) {n : Nat} (h : (u.takeWhile Dm.isD).length = n) : Dm.allD (u.take n) := by
  obtain ⟨e1, _⟩ := tw_take u
  rw [h] at e1
  rw [← e1]; exact Dm.takeWhile_allD u
theorem expU_few {dn : Bool} {u : List UInt8} {n : Nat} (h : (u.takeWhile Dm.isD).length = n) (hn : n < 1 ∨ 2 < n) : expU dn u = none := by
  have hle := tw_le u
  rcases hn with g | g
  · by_cases hu : 0 < u.length
    · exact expU_bad (k := n) (by omega) (tw_next h (by omega))
    · exact expU_len (.inl (by omega))
  · exact expU_len (.inr (by omega))
theorem expU_more {dn : Bool} {u : List UInt8} {n : Nat} (h : (u.takeWhile Dm.isD).length = n) (hn : n < u.length) : expU dn u = none := expU_bad hn (tw_next h hn)
theorem expU_all {dn : Bool} {u : List UInt8} {n : Nat} (h : (u.takeWhile Dm.isD).length = n) (hn : 1 ≤ n ∧ n ≤ 2) (hu : u.length = n) : expU dn u = some (if dn then -(Dm.num (u.take n) : Int) else (Dm.num (u.take n) : Int)) := by
  have hd := tw_allD u h
  rw [List.take_of_length_le (by omega)] at hd ⊢
  exact expU_ok (by omega) hd
/-- The last step. -/
theorem parse_last {ng : Bool} {D : List UInt8} {sc : Int} {r : Option Dm.D} (hd : Dm.allD D) (h : Dm.Rep (Dm.sgn ng (Dm.num D) * Dm.p10 (-sc).toNat) sc.toNat r) : r = Dm.fitL ng D sc :=
  h.uniq (Dm.fit_rep ng hd sc)
theorem sgn_zeros (ng : Bool) (D : List UInt8) (k : Nat) : Dm.sgn ng (Dm.num (D ++ List.replicate k 48)) = Dm.sgn ng (Dm.num D) * Dm.p10 k := by
  rw [Dm.num_append_zeros, Dm.sgn_mul]; rfl
/-- Whether a byte stands at a place. -/
theorem at_case (s : ByteArray) (k : Nat) (c : UInt8) (z : Int) (hz : z = (c.toNat : Int)) : ∃ p : Bool, (p = true ∧ (s.data.toList.drop k).headD 0 = c ∧ (∃ g : k < s.size, (k : Int) < (s.size : Int) ∧ ((s[k].toNat : Int) == z) = true)) ∨ (p = false ∧ (c = 0 ∨ (s.data.toList.drop k).headD 0 ≠ c) ∧ (¬ (k : Int) < (s.size : Int) ∨ (∃ g : k < s.size, (k : Int) < (s.size : Int) ∧ ((s[k].toNat : Int) == z) = false))) := by
  subst hz
  by_cases g : k < s.size
  · have hh := headD_at s k g
    by_cases h : s[k] = c
    · exact ⟨true, .inl ⟨rfl, by rw [hh, h], g, by omega, by rw [h]; exact beq_iff_eq.2 rfl⟩⟩
    · refine ⟨false, .inr ⟨rfl, .inr (by rw [hh]; exact h), .inr ⟨g, by omega, ?_⟩⟩⟩
      rw [beq_eq_false_iff_ne]
      intro e
      exact h (UInt8.toNat_inj.1 (by omega))
  · refine ⟨false, .inr ⟨rfl, ?_, .inl (by omega)⟩⟩
    have := headD_end s k g
    by_cases hc : c = 0
    · exact .inl hc
    · exact .inr (by rw [this]; exact fun e => hc e.symm)
theorem ext_take (s : ByteArray) (a b n : Nat) (h : b = a + n) : s.extract a b = ⟨((s.data.toList.drop a).take n).toArray⟩ := by
  subst h
  apply str_ext
  rw [Go.Lib.extract_data]
  congr 1
  omega
end Go.Proofs.YtppkknmgdahniaaDoor

namespace Go.Proofs.YtppkknmgdahniaaDoor
set_option maxRecDepth 100000
open Go.RowKit
set_option linter.unusedVariables false
set_option linter.unusedSimpArgs false

end Go.Proofs.YtppkknmgdahniaaDoor

namespace Go.Proofs.YtppkknmgdahniaaDoor
set_option maxRecDepth 100000
open Go.RowKit
set_option linter.unusedVariables false
set_option linter.unusedSimpArgs false

end Go.Proofs.YtppkknmgdahniaaDoor

namespace Go.Proofs.YtppkknmgdahniaaDoor
set_option maxRecDepth 100000
open Go.RowKit
set_option linter.unusedVariables false
set_option linter.unusedSimpArgs false

/-- A boxed struct of three cells, the first block that a call has laid; what was there before is as it was. -/
def Box3 (w0 : World) (x y z : Value) (w : World) : Prop :=
  Below w0.heap.size w0 w ∧ w0.heap.size < w.heap.size ∧ w.cell? ⟨w0.heap.size, 0, none⟩ = some x ∧ w.cell? ⟨w0.heap.size, 1, none⟩ = some y ∧ w.cell? ⟨w0.heap.size, 2, none⟩ = some z
theorem Box3.start (w : World) (x y z : Value) (t : Nat) : Box3 w x y z (w.alloc (.cells #[x, y, z] t)) :=
  ⟨(Below.refl _ _).alloc (Nat.le_refl _) _, by simp, by go_simp, by go_simp, by go_simp⟩
theorem Box3.step {w0 w w' : World} {x y z : Value} {B : Nat} (h : Box3 w0 x y z w) (hB : w0.heap.size < B) (hb : Below B w w') : Box3 w0 x y z w' := by
  obtain ⟨h1, h2, a, b, c⟩ := h
  refine ⟨h1.trans (hb.mono (by omega)), Nat.lt_of_lt_of_le h2 hb.size, ?_, ?_, ?_⟩
  · rw [hb.cell (p := ⟨w0.heap.size, 0, none⟩) hB]; exact a
  · rw [hb.cell (p := ⟨w0.heap.size, 1, none⟩) hB]; exact b
  · rw [hb.cell (p := ⟨w0.heap.size, 2, none⟩) hB]; exact c
theorem Box3.next {w0 w w' : World} {x y z : Value} (h : Box3 w0 x y z w) (hb : Below w.heap.size w w') : Box3 w0 x y z w' := h.step h.2.1 hb
theorem Box3.alloc {w0 w : World} {x y z : Value} (h : Box3 w0 x y z w) (o : Obj) : Box3 w0 x y z (w.alloc o) := h.next ((Below.refl _ _).alloc (Nat.le_refl _) _)
theorem Box3.drew {w0 w : World} {x y z : Value} (h : Box3 w0 x y z w) : Box3 w0 x y z w.drew := h.next (Below.refl _ _).drew

theorem lt_of_some {w : World} {b : Nat} {o : Obj} (h : w.heap[b]? = some o) : b < w.heap.size := by
  rcases Nat.lt_or_ge b w.heap.size with g | g
  · exact g
  · rw [Array.getElem?_eq_none g] at h; cases h
theorem ownsRow_below {w w' : World} {B : Nat} {e : TypeId} {v : Value} {n : Nat} {xs : List Value} (h : w.ownsRow B e 1 v n xs) (hb : Below w.heap.size w w') : w'.ownsRow B e 1 v n xs := by
  refine ⟨h.1, ?_⟩
  rcases h.2 with g | ⟨g, cap, cur, h1, h2, h3, rest⟩
  · exact .inl g
  · exact .inr ⟨g, cap, cur, h1, h2, (hb.block g (lt_of_some h3)).trans h3, rest⟩
theorem builderAt_below {T e : TypeId} {B b : Nat} {p : Value} {bs : List Value} {w w' : World} (h : Lib.BuilderAt T e B b p bs w) (hb : Below w.heap.size w w') : Lib.BuilderAt T e B b p bs w' := by
  obtain ⟨h1, v, h2, h3, h4⟩ := h
  exact ⟨h1, v, (hb.block b (lt_of_some h2)).trans h2, ownsRow_below h3 hb, h4⟩
theorem isb_below {T e : TypeId} {B b : Nat} {bs : List Value} {w w' : World} (h : Lib.IsBuilder T e B b bs w) (hb : Below w.heap.size w w') : Lib.IsBuilder T e B b bs w' :=
  h.elim (fun x => .inl (builderAt_below x hb)) (fun x => .inr (builderAt_below x hb))
theorem isb_drew {T e : TypeId} {B b : Nat} {bs : List Value} {w : World} (h : Lib.IsBuilder T e B b bs w) : Lib.IsBuilder T e B b bs w.drew := isb_below h (Below.refl _ _).drew
theorem isb_of {T e : TypeId} {B b : Nat} {p : List UInt8} {s : ByteArray} {w : World} (h : Lib.BuilderAt T e B b (.pointer (some ⟨b, 0, none⟩)) (Lib.byteCells p ++ Lib.byteCells s.data.toList) w) : Lib.IsBuilder T e B b (Lib.byteCells (p ++ s.data.toList)) w := by
  rw [Lib.byteCells_append]; exact .inr h

theorem wrap_id {n : Int} (h1 : -1000000000 ≤ n) (h2 : n ≤ 1000000000) : IntKind.i64.wrap n = n := by
  rw [IntKind.wrap_i64]; omega
theorem writeS (b : Nat) (pre : List UInt8) (T : ByteArray) (w : World) (hI : Lib.IsBuilder 83 5 b b (Lib.byteCells pre) w) (hl : pre.length + T.size ≤ 100000) (hb : b ≤ w.heap.size) :
    Calls Tryd.prog 49 #[.pointer (some ⟨b, 0, none⟩), .string T] w fun e w' => e = .returned (.tuple #[.int .i64 T.size, .nilIface]) ∧ Lib.IsBuilder 83 5 b b (Lib.byteCells (pre ++ T.data.toList)) w' ∧ Below b w w' := by
  refine (Tryd.Builder_WriteString b b _ T w hI (by rw [Lib.byteCells_length]; omega) hb).mono ?_
  rintro e w' ⟨rfl, h1, h2⟩
  exact ⟨rfl, isb_of h1, h2⟩
theorem writeB (b : Nat) (pre : List UInt8) (c : UInt8) (w : World) (hI : Lib.IsBuilder 83 5 b b (Lib.byteCells pre) w) (hl : pre.length ≤ 100000) (hb : b ≤ w.heap.size) :
    Calls Tryd.prog 47 #[.pointer (some ⟨b, 0, none⟩), .int .u8 (c.toNat : Int)] w fun e w' => e = .returned .nilIface ∧ Lib.IsBuilder 83 5 b b (Lib.byteCells (pre ++ [c])) w' ∧ Below b w w' := by
  refine (Tryd.Builder_WriteByte b b _ (c.toNat : Int) w hI (by rw [Lib.byteCells_length]; omega) hb).mono ?_
  rintro e w' ⟨rfl, h1, h2⟩
  refine ⟨rfl, ?_, h2⟩
  rw [Lib.byteCells_append]
  exact .inr h1
theorem ret_str {a b : ByteArray} (h : a = b) : Ending.returned (.string a) = .returned (.string b) := by rw [h]
theorem may_b (ng : Bool) (s : ByteArray) (n : Int) (b : Bool) (w : World) (hs : s.size ≤ maxLen) (h : Dm.mayB ng s.data.toList n = b) :
    Calls Tryd.prog 98 #[.agg #[.bool ng, .string s, .int .i64 n]] w fun e w' => e = .returned (.bool b) ∧ Below w.heap.size w w' := by
  have := may_any ng s n w hs
  rw [h] at this; exact this

set_option maxRecDepth 100000 in
set_option maxHeartbeats 1000000 in
theorem print_low (ng : Bool) (s : ByteArray) (n : Nat) (w : World) (h : Dm.mayB ng s.data.toList n = true) (hs1 : 1 ≤ s.size) (hs2 : s.size ≤ 60) (hn : n ≤ 60) (hp : s.size ≤ n) :
    Calls Tryd.prog 88 #[.agg #[.bool ng, .string s, .int .i64 n]] w fun e w' => e = .returned (.string ⟨((if ng then [45] else []) ++ ([48, 46] ++ List.replicate (n - s.size) 48 ++ s.data.toList)).toArray⟩) ∧ Below w.heap.size w w' := by
  have hx := Box3.start w (.bool ng) (.string s) (.int .i64 (n : Int)) 26
  have H := hide h
  have hsm : s.size ≤ maxLen := by unfold maxLen; omega
  clear h
  cases ng with
  | false =>
    go_enter Tryd.func88, Tryd.ntmps88
    go_wp2_with (go_at_call 98; refine (may_b false s n true _ hsm (unhide H)).mono ?_; rintro e w2 ⟨rfl, hbw⟩; have hx2 := hx.next hbw; clear hx hbw; obtain ⟨hx0, hxs, c0, c1, c2⟩ := id hx2)
    have hx3 := hx2.alloc (.cells #[.pointer none, .slice none 0 0] 83)
    have hI3 : Lib.IsBuilder 83 5 w2.heap.size w2.heap.size (Lib.byteCells []) (w2.alloc (.cells #[.pointer none, .slice none 0 0] 83)) := Lib.fresh_isBuilder 83 5 w2
    obtain ⟨_, _, d0, d1, d2⟩ := id hx3
    have hz : w2.heap.size ≤ (w2.alloc (.cells #[.pointer none, .slice none 0 0] 83)).heap.size := by simp
    clear c0 c1 c2
    have hwr : IntKind.i64.wrap (-((s.size : Int) - (n : Int))) = -((s.size : Int) - (n : Int)) := wrap_id (by omega) (by omega)
    have hs0 : ((⟨#[48, 46]⟩ : ByteArray) ++ ⟨Array.replicate (-((s.size : Int) - (n : Int))).toNat 48⟩ ++ s).size ≤ 200 := by
      rw [ByteArray.size_append, ByteArray.size_append]
      show 2 + (Array.replicate (-((s.size : Int) - (n : Int))).toNat (48 : UInt8)).size + s.size ≤ 200
      rw [Array.size_replicate]; omega
    have HS := hide hs0
    clear hs0
    go_region_with (first | (go_at_call 99; refine (repeat_any _ _ (by omega) (by omega)).mono ?_; rintro e w4 ⟨rfl, hb4⟩; have hI4 := isb_below (by first | exact hI3 | exact isb_drew hI3) hb4; have hx4 := Box3.next (by first | exact hx3 | exact hx3.drew) hb4; obtain ⟨_, _, d0, d1, d2⟩ := id hx4; have hz4 := Nat.le_trans hz hb4.size) | (go_at_call 49; refine (writeS w2.heap.size [] _ w4 (by exact hI4) (by have := unhide HS; simp only [List.length_nil, List.length_cons]; omega) hz4).mono ?_; rintro e w5 ⟨rfl, hI5, hb5⟩))
    all_goals
      have hx5 := hx4.step hxs hb5
      go_wp2_with (go_at_call 53; refine (Tryd.Builder_String_any w2.heap.size w2.heap.size _ w5 hI5 (Nat.le_trans hz4 hb5.size)).mono ?_; rintro e w6 ⟨rfl, hb6⟩)
      go_ret
      refine ⟨?_, (hx5.step hxs hb6).1⟩
      have e : (-((s.size : Int) - (n : Int))).toNat = n - s.size := by omega
      exact ret_str (by rw [e])
  | true =>
    go_enter Tryd.func88, Tryd.ntmps88
    go_wp2_with (go_at_call 98; refine (may_b true s n true _ hsm (unhide H)).mono ?_; rintro e w2 ⟨rfl, hbw⟩; have hx2 := hx.next hbw; clear hx hbw; obtain ⟨hx0, hxs, c0, c1, c2⟩ := id hx2)
    refine (writeB w2.heap.size [] 45 (w2.alloc (.cells #[.pointer none, .slice none 0 0] 83)) (Lib.fresh_isBuilder 83 5 w2) (by simp) (by simp)).mono ?_
    rintro e w3 ⟨rfl, hI3, hb3⟩
    have hx3 := (hx2.alloc (.cells #[.pointer none, .slice none 0 0] 83)).step hxs hb3
    have hz : w2.heap.size ≤ w3.heap.size := Nat.le_trans (by simp) hb3.size
    obtain ⟨_, _, d0, d1, d2⟩ := id hx3
    clear c0 c1 c2
    go_wp2
    have hwr : IntKind.i64.wrap (-((s.size : Int) - (n : Int))) = -((s.size : Int) - (n : Int)) := wrap_id (by omega) (by omega)
    have hs0 : ((⟨#[48, 46]⟩ : ByteArray) ++ ⟨Array.replicate (-((s.size : Int) - (n : Int))).toNat 48⟩ ++ s).size ≤ 200 := by
      rw [ByteArray.size_append, ByteArray.size_append]
      show 2 + (Array.replicate (-((s.size : Int) - (n : Int))).toNat (48 : UInt8)).size + s.size ≤ 200
      rw [Array.size_replicate]; omega
    have HS := hide hs0
    clear hs0
    go_region_with (first | (go_at_call 99; refine (repeat_any _ _ (by omega) (by omega)).mono ?_; rintro e w4 ⟨rfl, hb4⟩; have hI4 := isb_below (by first | exact hI3 | exact isb_drew hI3) hb4; have hx4 := Box3.next (by first | exact hx3 | exact hx3.drew) hb4; obtain ⟨_, _, d0, d1, d2⟩ := id hx4; have hz4 := Nat.le_trans hz hb4.size) | (go_at_call 49; refine (writeS w2.heap.size [45] _ w4 (by exact hI4) (by have := unhide HS; simp only [List.length_nil, List.length_cons]; omega) hz4).mono ?_; rintro e w5 ⟨rfl, hI5, hb5⟩))
    all_goals
      have hx5 := hx4.step hxs hb5
      go_wp2_with (go_at_call 53; refine (Tryd.Builder_String_any w2.heap.size w2.heap.size _ w5 hI5 (Nat.le_trans hz4 hb5.size)).mono ?_; rintro e w6 ⟨rfl, hb6⟩)
      go_ret
      refine ⟨?_, (hx5.step hxs hb6).1⟩
      have e : (-((s.size : Int) - (n : Int))).toNat = n - s.size := by omega
      exact ret_str (by rw [e])
end Go.Proofs.YtppkknmgdahniaaDoor

namespace Go.Proofs.YtppkknmgdahniaaDoor
set_option maxRecDepth 100000
open Go.RowKit
set_option linter.unusedVariables false
set_option linter.unusedSimpArgs false

set_option maxRecDepth 100000 in
set_option maxHeartbeats 1000000 in
theorem print_high (ng : Bool) (s : ByteArray) (n : Nat) (w : World) (h : Dm.mayB ng s.data.toList n = true) (hs2 : s.size ≤ 60) (hp : n < s.size) :
    Calls Tryd.prog 88 #[.agg #[.bool ng, .string s, .int .i64 n]] w fun e w' => e = .returned (.string ⟨((if ng then [45] else []) ++ (s.data.toList.take (s.size - n) ++ (if 0 < n then 46 :: s.data.toList.drop (s.size - n) else []))).toArray⟩) ∧ Below w.heap.size w w' := by
  have hx := Box3.start w (.bool ng) (.string s) (.int .i64 (n : Int)) 26
  have H := hide h
  have hsm : s.size ≤ maxLen := by unfold maxLen; omega
  have hge : ¬ (s.size : Int) - (n : Int) ≤ 0 := by omega
  have hT1 : (s.extract 0 (s.size - n)).data.toList = s.data.toList.take (s.size - n) := by
    rw [Go.Lib.extract_data, List.drop_zero, Nat.sub_zero]
  have hT2 : ((⟨#[46]⟩ : ByteArray) ++ s.extract (s.size - n) s.size).data.toList = 46 :: s.data.toList.drop (s.size - n) := by
    rw [ByteArray.data_append, Array.toList_append, Go.Lib.extract_to_end]; rfl
  have hZ1 : (s.extract 0 (s.size - n)).size ≤ 60 := by rw [size_len, hT1, List.length_take]; omega
  have hZ2 : ((⟨#[46]⟩ : ByteArray) ++ s.extract (s.size - n) s.size).size ≤ 61 := by
    rw [size_len, hT2, List.length_cons, List.length_drop, ← size_len]; omega
  have hT3 : List.take (s.size - (s.size - n)) (List.drop (s.size - n) s.data.toList) = List.drop (s.size - n) s.data.toList := List.take_of_length_le (by rw [List.length_drop, ← size_len]; omega)
  have HT1 := hide hT1
  have HT3 := hide hT3
  have HT2 := hide hT2
  have HZ1 := hide hZ1
  have HZ2 := hide hZ2
  clear h
  clear hT1 hT2 hT3 hZ1 hZ2
  cases ng with
  | false =>
    by_cases hn0 : (0 : Int) < (n : Int)
    · go_enter Tryd.func88, Tryd.ntmps88
      go_wp2_with (go_at_call 98; refine (may_b false s n true _ hsm (unhide H)).mono ?_; rintro e w2 ⟨rfl, hbw⟩; have hx2 := hx.next hbw; clear hx hbw; obtain ⟨hx0, hxs, c0, c1, c2⟩ := id hx2)
      have hx3 := hx2.alloc (.cells #[.pointer none, .slice none 0 0] 83)
      have hz : w2.heap.size ≤ (w2.alloc (.cells #[.pointer none, .slice none 0 0] 83)).heap.size := by simp
      clear c0 c1 c2
      refine (writeS w2.heap.size [] (s.extract 0 (s.size - n)) (w2.alloc (.cells #[.pointer none, .slice none 0 0] 83)) (Lib.fresh_isBuilder 83 5 w2) (by have := unhide HZ1; simp only [List.length_nil]; omega) hz).mono ?_
      rintro e w4 ⟨rfl, hI4, hb4⟩
      have hx4 := hx3.step hxs hb4
      have hz4 := Nat.le_trans hz hb4.size
      obtain ⟨_, _, e0, e1, e2⟩ := id hx4
      go_wp2_with fail
      refine (writeS w2.heap.size _ _ w4 hI4 (by have := unhide HZ2; rw [List.length_append, unhide HT1, List.length_take]; simp only [List.length_cons, List.length_nil]; omega) hz4).mono ?_
      rintro e w5 ⟨rfl, hI5, hb5⟩
      have hx5 := hx4.step hxs hb5
      have hz5 := Nat.le_trans hz4 hb5.size
      go_wp2_with fail
      refine (Tryd.Builder_String_any w2.heap.size w2.heap.size _ w5 hI5 hz5).mono ?_
      rintro e w6 ⟨rfl, hb6⟩
      go_wp2_with fail
      go_ret
      refine ⟨?_, (hx5.step hxs hb6).1⟩
      exact ret_str (by rw [unhide HT3])
    · go_enter Tryd.func88, Tryd.ntmps88
      go_wp2_with (go_at_call 98; refine (may_b false s n true _ hsm (unhide H)).mono ?_; rintro e w2 ⟨rfl, hbw⟩; have hx2 := hx.next hbw; clear hx hbw; obtain ⟨hx0, hxs, c0, c1, c2⟩ := id hx2)
      have hx3 := hx2.alloc (.cells #[.pointer none, .slice none 0 0] 83)
      have hz : w2.heap.size ≤ (w2.alloc (.cells #[.pointer none, .slice none 0 0] 83)).heap.size := by simp
      clear c0 c1 c2
      refine (writeS w2.heap.size [] (s.extract 0 (s.size - n)) (w2.alloc (.cells #[.pointer none, .slice none 0 0] 83)) (Lib.fresh_isBuilder 83 5 w2) (by have := unhide HZ1; simp only [List.length_nil]; omega) hz).mono ?_
      rintro e w4 ⟨rfl, hI4, hb4⟩
      have hx4 := hx3.step hxs hb4
      have hz4 := Nat.le_trans hz hb4.size
      obtain ⟨_, _, e0, e1, e2⟩ := id hx4
      go_wp2_with fail
      refine (Tryd.Builder_String_any w2.heap.size w2.heap.size _ w4 hI4 hz4).mono ?_
      rintro e w6 ⟨rfl, hb6⟩
      go_wp2_with fail
      go_ret
      refine ⟨?_, (hx4.step hxs hb6).1⟩
      exact ret_str (by first | rfl | simp)
  | true =>
    by_cases hn0 : (0 : Int) < (n : Int)
    · go_enter Tryd.func88, Tryd.ntmps88
      go_wp2_with (go_at_call 98; refine (may_b true s n true _ hsm (unhide H)).mono ?_; rintro e w2 ⟨rfl, hbw⟩; have hx2 := hx.next hbw; clear hx hbw; obtain ⟨hx0, hxs, c0, c1, c2⟩ := id hx2)
      refine (writeB w2.heap.size [] 45 (w2.alloc (.cells #[.pointer none, .slice none 0 0] 83)) (Lib.fresh_isBuilder 83 5 w2) (by simp) (by simp)).mono ?_
      rintro e w3 ⟨rfl, hI3, hb3⟩
      have hx3 := (hx2.alloc (.cells #[.pointer none, .slice none 0 0] 83)).step hxs hb3
      have hz : w2.heap.size ≤ w3.heap.size := Nat.le_trans (by simp) hb3.size
      obtain ⟨_, _, d0, d1, d2⟩ := id hx3
      clear c0 c1 c2
      go_wp2_with fail
      refine (writeS w2.heap.size [45] (s.extract 0 (s.size - n)) w3 hI3 (by have := unhide HZ1; simp only [List.length_cons, List.length_nil]; omega) hz).mono ?_
      rintro e w4 ⟨rfl, hI4, hb4⟩
      have hx4 := hx3.step hxs hb4
      have hz4 := Nat.le_trans hz hb4.size
      obtain ⟨_, _, e0, e1, e2⟩ := id hx4
      go_wp2_with fail
      refine (writeS w2.heap.size _ _ w4 hI4 (by have := unhide HZ2; rw [List.length_append, unhide HT1, List.length_take]; simp only [List.length_cons, List.length_nil]; omega) hz4).mono ?_
      rintro e w5 ⟨rfl, hI5, hb5⟩
      have hx5 := hx4.step hxs hb5
      have hz5 := Nat.le_trans hz4 hb5.size
      go_wp2_with fail
      refine (Tryd.Builder_String_any w2.heap.size w2.heap.size _ w5 hI5 hz5).mono ?_
      rintro e w6 ⟨rfl, hb6⟩
      go_wp2_with fail
      go_ret
      refine ⟨?_, (hx5.step hxs hb6).1⟩
      exact ret_str (by rw [unhide HT3])
    · go_enter Tryd.func88, Tryd.ntmps88
      go_wp2_with (go_at_call 98; refine (may_b true s n true _ hsm (unhide H)).mono ?_; rintro e w2 ⟨rfl, hbw⟩; have hx2 := hx.next hbw; clear hx hbw; obtain ⟨hx0, hxs, c0, c1, c2⟩ := id hx2)
      refine (writeB w2.heap.size [] 45 (w2.alloc (.cells #[.pointer none, .slice none 0 0] 83)) (Lib.fresh_isBuilder 83 5 w2) (by simp) (by simp)).mono ?_
      rintro e w3 ⟨rfl, hI3, hb3⟩
      have hx3 := (hx2.alloc (.cells #[.pointer none, .slice none 0 0] 83)).step hxs hb3
      have hz : w2.heap.size ≤ w3.heap.size := Nat.le_trans (by simp) hb3.size
      obtain ⟨_, _, d0, d1, d2⟩ := id hx3
      clear c0 c1 c2
      go_wp2_with fail
      refine (writeS w2.heap.size [45] (s.extract 0 (s.size - n)) w3 hI3 (by have := unhide HZ1; simp only [List.length_cons, List.length_nil]; omega) hz).mono ?_
      rintro e w4 ⟨rfl, hI4, hb4⟩
      have hx4 := hx3.step hxs hb4
      have hz4 := Nat.le_trans hz hb4.size
      obtain ⟨_, _, e0, e1, e2⟩ := id hx4
      go_wp2_with fail
      refine (Tryd.Builder_String_any w2.heap.size w2.heap.size _ w4 hI4 hz4).mono ?_
      rintro e w6 ⟨rfl, hb6⟩
      go_wp2_with fail
      go_ret
      refine ⟨?_, (hx4.step hxs hb6).1⟩
      exact ret_str (by first | rfl | simp)

theorem print_any (d : Dm.D) (w : World) (h : Dm.May d) :
    Calls Tryd.prog 88 #[dV d] w fun e w' => e = .returned (.string ⟨(Dm.printL d).toArray⟩) ∧ Below w.heap.size w w' := by
  have hm := dV_may h
  obtain ⟨l1, l2, l3⟩ := may_len h
  have hsz := mk_size d.ds
  unfold Dm.printL
  by_cases g : d.ds.length ≤ d.sc
  · rw [if_pos g]
    have := print_low d.ng ⟨d.ds.toArray⟩ d.sc w hm (by omega) (by omega) l3 (by omega)
    rw [hsz] at this
    exact this
  · rw [if_neg g]
    have := print_high d.ng ⟨d.ds.toArray⟩ d.sc w hm (by omega) (by omega)
    rw [hsz] at this
    exact this
end Go.Proofs.YtppkknmgdahniaaDoor

namespace Go.Proofs.YtppkknmgdahniaaDoor
set_option maxRecDepth 100000
open Go.RowKit
set_option linter.unusedVariables false
set_option linter.unusedSimpArgs false

def AddInv (w0 : World) (x1 x2 x3 x4 x5 x6 : Value) (g cnt A B : Nat) (sg : Int) (k : Nat) (cy : Int) (wr : World) : Prop :=
  ∃ L : List UInt8, L.length = cnt ∧ Dm.allD (L.drop (cnt - k)) ∧ ((A % 10 ^ k : Nat) : Int) + sg * ((B % 10 ^ k : Nat) : Int) = (Dm.num (L.drop (cnt - k)) : Int) + cy * Dm.p10 k ∧
    Row wr g 0 L ∧ (∀ j, j < cnt → wr.frozen? ⟨g, j, none⟩ = false) ∧ Two w0 x1 x2 x3 x4 x5 x6 wr ∧ w0.heap.size + 1 < g

theorem AddInv.step {w0 : World} {x1 x2 x3 x4 x5 x6 : Value} {g cnt A B : Nat} {sg : Int} {k : Nat} {cy : Int} {wr : World} (h : AddInv w0 x1 x2 x3 x4 x5 x6 g cnt A B sg k cy wr) (hk : k < cnt)
    (t v : Int) (ht0 : 0 ≤ t) (ht : t = ((A / 10 ^ k % 10 : Nat) : Int) + sg * ((B / 10 ^ k % 10 : Nat) : Int) + cy + 10) (hv : v = 48 + t % 10) (nq : Nat) :
    AddInv w0 x1 x2 x3 x4 x5 x6 g cnt A B sg (k + 1) (t / 10 - 1) ((wr.drewN nq).setCell ⟨g, cnt - 1 - k, none⟩ (.int .u8 v)) := by
  obtain ⟨L, hL, hLd, heq, hrow, hfz, htw, hg⟩ := h
  have hc : (UInt8.ofNat v.toNat).toNat = v.toNat := UInt8.toNat_ofNat_of_lt' (by show v.toNat < 256; omega)
  have hcv : (((UInt8.ofNat v.toNat).toNat : Nat) : Int) = v := by omega
  have hdv : Dm.dv (UInt8.ofNat v.toNat) = (t % 10).toNat := by unfold Dm.dv; omega
  have hdD : Dm.isD (UInt8.ofNat v.toNat) = true := Dm.isD_iff.2 (by omega)
  have e1 : cnt - (k + 1) = cnt - 1 - k := by omega
  have e2 : cnt - 1 - k + 1 = cnt - k := by omega
  have hdrop := Dm.drop_set_len (l := L) (j := cnt - 1 - k) (by omega) (UInt8.ofNat v.toNat)
  rw [e2] at hdrop
  refine ⟨L.set (cnt - 1 - k) (UInt8.ofNat v.toNat), by rw [List.length_set]; exact hL, ?_, ?_, ?_, ?_, ?_, hg⟩
  · rw [e1, hdrop]
    exact Dm.allD_cons.2 ⟨hdD, hLd⟩
  · rw [e1, hdrop, Dm.num_cons, hdv]
    have hlen : (L.drop (cnt - k)).length = k := by rw [List.length_drop]; omega
    rw [hlen]
    exact Dm.step_add heq ht ht0
  · have := (Row.below (w' := wr.drewN nq) hrow (Go.below_drewN (Below.refl _ _) nq)).set (cnt - 1 - k) (UInt8.ofNat v.toNat)
    rw [hcv] at this
    exact this
  · intro j hj
    rw [World.frozen?_setCell]
    exact hfz j hj
  · exact htw.step (B := w0.heap.size + 1 + 1) (by omega) ((Go.below_drewN (Below.refl _ _) nq).setCell (by show w0.heap.size + 1 + 1 ≤ g; omega) _)
theorem AddInv.fin {w0 : World} {x1 x2 x3 x4 x5 x6 : Value} {g cnt A B : Nat} {sg : Int} {cy : Int} {wr : World} (h : AddInv w0 x1 x2 x3 x4 x5 x6 g cnt A B sg cnt cy wr) (hsg : sg = 1 ∨ sg = -1) (hc0 : 0 < cnt)
    (hA : A < 10 ^ (cnt - 1)) (hB : B < 10 ^ (cnt - 1)) (hpos : 0 ≤ (A : Int) + sg * (B : Int)) :
    ∃ L : List UInt8, L.length = cnt ∧ Dm.allD L ∧ Row wr g 0 L ∧ (Dm.num L : Int) = (A : Int) + sg * (B : Int) := by
  obtain ⟨L, hL, hLd, heq, hrow, hfz, htw, hg⟩ := h
  have h10 : 10 ^ (cnt - 1) * 10 ≤ 10 ^ cnt := Dm.pow_lt (by omega)
  rw [Nat.sub_self, List.drop_zero] at hLd heq
  rw [Nat.mod_eq_of_lt (show A < 10 ^ cnt by omega), Nat.mod_eq_of_lt (show B < 10 ^ cnt by omega)] at heq
  have hlt := Dm.num_lt hLd
  rw [hL] at hlt
  refine ⟨L, hL, hLd, hrow, ?_⟩
  have hp : Dm.p10 cnt = ((10 ^ cnt : Nat) : Int) := rfl
  have hcy : cy = 0 := by
    rcases Int.lt_trichotomy cy 0 with g1 | g1 | g1
    · exfalso
      have : cy * Dm.p10 cnt ≤ (-1) * Dm.p10 cnt := Int.mul_le_mul_of_nonneg_right (by omega) (by rw [hp]; omega)
      rw [hp] at this heq
      omega
    · exact g1
    · exfalso
      have : 1 * Dm.p10 cnt ≤ cy * Dm.p10 cnt := Int.mul_le_mul_of_nonneg_right (by omega) (by rw [hp]; omega)
      rw [hp] at this heq
      rcases hsg with rfl | rfl <;> omega
  rw [heq, hcy, Int.zero_mul, Int.add_zero]
end Go.Proofs.YtppkknmgdahniaaDoor

namespace Go.Proofs.YtppkknmgdahniaaDoor
set_option maxRecDepth 100000
open Go.RowKit
set_option linter.unusedVariables false
set_option linter.unusedSimpArgs false

def SumInv (w0 : World) (g cnt X m : Nat) (wr : World) : Prop :=
  ∃ S : List Nat, S.length = cnt ∧ Dm.V S = X ∧ (∀ p, p < cnt → S.getD p 0 ≤ m) ∧ Ints wr g S ∧ (∀ j, j < cnt → wr.frozen? ⟨g, j, none⟩ = false) ∧ Below w0.heap.size w0 wr ∧ w0.heap.size ≤ g ∧ g < wr.heap.size
theorem SumInv.step {w0 : World} {g cnt X m : Nat} {wr : World} (h : SumInv w0 g cnt X m wr) {p d e : Nat} (hp : p < cnt) (hd : d ≤ 9) (he : e ≤ 9) (x : Int) (hx : ∀ S : List Nat, S.length = cnt → Ints wr g S → x = ((S.getD p 0 : Nat) : Int) + (d : Int) * (e : Int)) (Y : Nat) (hY : Y = X + d * e * 10 ^ p) :
    SumInv w0 g cnt Y (m + 81) (wr.setCell ⟨g, p, none⟩ (.int .i64 x)) := by
  obtain ⟨S, h1, h2, h3, h4, h5, h6, h7, h8⟩ := h
  have hx' := hx S h1 h4
  have hxe : x = ((S.getD p 0 + d * e : Nat) : Int) := by rw [hx', Int.natCast_add, Int.natCast_mul]
  refine ⟨S.set p (S.getD p 0 + d * e), by rw [List.length_set]; exact h1, ?_, ?_, ?_, ?_, ?_, h7, ?_⟩
  · rw [Dm.V_set _ _ _ (by omega), h2, hY]
  · intro q hq
    have hde : d * e ≤ 9 * 9 := Nat.mul_le_mul hd he
    by_cases g1 : p = q
    · subst g1
      have := h3 p hp
      have e1 : (S.set p (S.getD p 0 + d * e)).getD p 0 = S.getD p 0 + d * e := by simp [List.getD, List.getElem?_set, show p < S.length by omega]
      rw [e1]; omega
    · have := h3 q hq
      have e1 : (S.set p (S.getD p 0 + d * e)).getD q 0 = S.getD q 0 := by simp [List.getD, List.getElem?_set, g1]
      rw [e1]; omega
  · rw [hxe]
    exact h4.set p _
  · intro j hj
    rw [World.frozen?_setCell]
    exact h5 j hj
  · exact h6.setCell h7 _
  · show g < (wr.setCell _ _).heap.size
    simpa [World.setCell] using h8
theorem SumInv.next {w0 : World} {g cnt X m : Nat} {wr w' : World} (h : SumInv w0 g cnt X m wr) (hb : Below wr.heap.size wr w') : SumInv w0 g cnt X m w' := by
  obtain ⟨S, h1, h2, h3, h4, h5, h6, h7, h8⟩ := h
  refine ⟨S, h1, h2, h3, h4.below hb, ?_, h6.trans (hb.mono (by omega)), h7, Nat.lt_of_lt_of_le h8 hb.size⟩
  intro j hj
  rw [hb.frozen (p := ⟨g, j, none⟩) h8]
  exact h5 j hj
theorem SumInv.drew {w0 : World} {g cnt X m : Nat} {wr : World} (h : SumInv w0 g cnt X m wr) : SumInv w0 g cnt X m wr.drew := h.next (Below.refl _ _).drew
theorem SumInv.drewN {w0 : World} {g cnt X m : Nat} {wr : World} (h : SumInv w0 g cnt X m wr) (n : Nat) : SumInv w0 g cnt X m (wr.drewN n) := h.next (Go.below_drewN (Below.refl _ _) n)
theorem SumInv.more {w0 : World} {g cnt X m m' : Nat} {wr : World} (h : SumInv w0 g cnt X m wr) (hm : m ≤ m') : SumInv w0 g cnt X m' wr := by
  obtain ⟨S, h1, h2, h3, h4, h5, h6, h7, h8⟩ := h
  exact ⟨S, h1, h2, fun p hp => Nat.le_trans (h3 p hp) hm, h4, h5, h6, h7, h8⟩
/-- Where the digits have come to: the last k are laid, cy is carried. -/
def DigInv (w0 : World) (g g2 cnt : Nat) (S : List Nat) (k cy : Nat) (wr : World) : Prop :=
  ∃ L : List UInt8, L.length = cnt ∧ Dm.allD (L.drop (cnt - k)) ∧ Dm.V (S.take k) = Dm.num (L.drop (cnt - k)) + cy * 10 ^ k ∧ Row wr g2 0 L ∧ (∀ j, j < cnt → wr.frozen? ⟨g2, j, none⟩ = false) ∧ Ints wr g S ∧ Below w0.heap.size w0 wr ∧ w0.heap.size ≤ g ∧ g < g2
theorem DigInv.step {w0 : World} {g g2 cnt : Nat} {S : List Nat} {k cy : Nat} {wr : World} (h : DigInv w0 g g2 cnt S k cy wr) (hk : k < cnt) {t : Nat} (v : Int) (hS : k < S.length) (ht : t = S.getD k 0 + cy) (hv : v = 48 + ((t % 10 : Nat) : Int)) :
    DigInv w0 g g2 cnt S (k + 1) (t / 10) (wr.setCell ⟨g2, cnt - 1 - k, none⟩ (.int .u8 v)) := by
  obtain ⟨L, hL, hLd, heq, hrow, hfz, hI, hB, hg1, hg2⟩ := h
  have hc : (UInt8.ofNat v.toNat).toNat = v.toNat := UInt8.toNat_ofNat_of_lt' (by show v.toNat < 256; omega)
  have hcv : (((UInt8.ofNat v.toNat).toNat : Nat) : Int) = v := by omega
  have hdv : Dm.dv (UInt8.ofNat v.toNat) = t % 10 := by unfold Dm.dv; omega
  have hdD : Dm.isD (UInt8.ofNat v.toNat) = true := Dm.isD_iff.2 (by omega)
  have e1 : cnt - (k + 1) = cnt - 1 - k := by omega
  have e2 : cnt - 1 - k + 1 = cnt - k := by omega
  have hdrop := Dm.drop_set_len (l := L) (j := cnt - 1 - k) (by omega) (UInt8.ofNat v.toNat)
  rw [e2] at hdrop
  refine ⟨L.set (cnt - 1 - k) (UInt8.ofNat v.toNat), by rw [List.length_set]; exact hL, ?_, ?_, ?_, ?_, ?_, hB.setCell (by show w0.heap.size ≤ g2; omega) _, hg1, hg2⟩
  · rw [e1, hdrop]
    exact Dm.allD_cons.2 ⟨hdD, hLd⟩
  · rw [e1, hdrop, Dm.num_cons, hdv, Dm.V_take_succ S k hS]
    have hlen : (L.drop (cnt - k)).length = k := by rw [List.length_drop]; omega
    rw [hlen]
    exact Dm.step_mul heq ht
  · have := hrow.set (cnt - 1 - k) (UInt8.ofNat v.toNat)
    rw [hcv] at this
    exact this
  · intro j hj
    rw [World.frozen?_setCell]
    exact hfz j hj
  · intro p hp
    rw [World.cell?_setCell_other (w := wr) (a := ⟨g2, cnt - 1 - k, none⟩) (b := ⟨g, p, none⟩) (h := by intro q; injection q with q1; omega)]
    exact hI p hp

end Go.Proofs.YtppkknmgdahniaaDoor

namespace Go.Proofs.YtppkknmgdahniaaDoor
set_option maxRecDepth 100000
open Go.RowKit
set_option linter.unusedVariables false
set_option linter.unusedSimpArgs false

end Go.Proofs.YtppkknmgdahniaaDoor

namespace Go.Proofs.YtppkknmgdahniaaDoor
set_option maxRecDepth 100000
open Go.RowKit
set_option linter.unusedVariables false
set_option linter.unusedSimpArgs false

end Go.Proofs.YtppkknmgdahniaaDoor

namespace Go.Proofs.YtppkknmgdahniaaDoor
set_option maxRecDepth 100000
open Go.RowKit
set_option linter.unusedVariables false
set_option linter.unusedSimpArgs false

theorem Two.cells {w0 w : World} {a b c x y z : Value} (h : Two w0 a b c x y z w) : (w.cell? ⟨w0.heap.size, 0, none⟩ = some a ∧ w.cell? ⟨w0.heap.size, 1, none⟩ = some b ∧ w.cell? ⟨w0.heap.size, 2, none⟩ = some c) ∧
  (w.cell? ⟨w0.heap.size + 1, 0, none⟩ = some x ∧ w.cell? ⟨w0.heap.size + 1, 1, none⟩ = some y ∧ w.cell? ⟨w0.heap.size + 1, 2, none⟩ = some z) := h.2.2
end Go.Proofs.YtppkknmgdahniaaDoor
