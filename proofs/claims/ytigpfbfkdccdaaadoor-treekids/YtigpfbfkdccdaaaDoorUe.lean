/- What is proved here: what Plus and Minus of the document's own answers do, walked; conditions: as each theorem states. -/
import Derived.Test.YtigpfbfkdccdaaaDoorUa
import Derived.Test.YtigpfbfkdccdaaaDoorRt
import Derived.Laws.BytesArg
import Derived.Deep.QuietTactic
import Derived.BigQuiet
namespace Go.Proofs.YtigpfbfkdccdaaaDoor
open Go.RowKit
set_option linter.unusedVariables false
set_option linter.unusedSimpArgs false

theorem plus_step {x y L : List UInt8} {n m k cy : Nat} (hx : x.length = n) (hy : y.length = n) (hm : m + 1 + k = n) (dx : Dm.allD x) (dy : Dm.allD y) (hL : L.length = k) (hLd : Dm.allD L)
    (h : Dm.num L + cy * 10 ^ k = Dm.num (x.drop (m + 1)) + Dm.num (y.drop (m + 1))) (hc : cy ≤ 1) (g1 : m < x.length) (g2 : m < y.length) (c : UInt8) (t : Nat) (ht : t = Dm.dv x[m] + Dm.dv y[m] + cy) (hcv : c.toNat = 48 + t % 10) :
    (c :: L).length = k + 1 ∧ Dm.allD (c :: L) ∧ Dm.num (c :: L) + t / 10 * 10 ^ (k + 1) = Dm.num (x.drop m) + Dm.num (y.drop m) ∧ t / 10 ≤ 1 := by
  have a1 := Dm.dv_le (dx _ (List.getElem_mem g1))
  have a2 := Dm.dv_le (dy _ (List.getElem_mem g2))
  have hd : Dm.isD c = true := Dm.isD_iff.2 (by omega)
  have hv : Dm.dv c = t % 10 := by unfold Dm.dv; omega
  refine ⟨by simp [hL], Dm.allD_cons.2 ⟨hd, hLd⟩, ?_, by omega⟩
  rw [List.drop_eq_getElem_cons g1, List.drop_eq_getElem_cons g2, Dm.num_cons, Dm.num_cons, Dm.num_cons, hv, List.length_drop, List.length_drop, hL, hx, hy, show n - (m + 1) = k by omega, Nat.pow_succ]
  have e : t % 10 * 10 ^ k + t / 10 * (10 ^ k * 10) = t * 10 ^ k := by
    rw [Nat.mul_comm (10 ^ k) 10, ← Nat.mul_assoc, ← Nat.add_mul]; congr 1; omega
  have e2 : t * 10 ^ k = Dm.dv x[m] * 10 ^ k + Dm.dv y[m] * 10 ^ k + cy * 10 ^ k := by rw [ht, Nat.add_mul, Nat.add_mul]
  omega
theorem byte_of {n : Nat} (h : n < 256) : (UInt8.ofNat n).toNat = n := by
  rw [UInt8.toNat_ofNat']; exact Nat.mod_eq_of_lt h
theorem cons_join (c : UInt8) (L : List UInt8) : (⟨#[c]⟩ ++ ⟨L.toArray⟩ : ByteArray) = ⟨(c :: L).toArray⟩ := mk_join [c] L
/-- What Plus has come to: the last k digits are laid, cy is carried. -/
def PlusInv (x y : ByteArray) (L : List UInt8) (n k j cy : Nat) : Prop :=
  j + k = n ∧ L.length = k ∧ Dm.allD L ∧ Dm.num L + cy * 10 ^ k = Dm.num (x.data.toList.drop j) + Dm.num (y.data.toList.drop j) ∧ cy ≤ 1
theorem PlusInv.start (x y : ByteArray) {n : Nat} (hx : x.size = n) (hy : y.size = n) : PlusInv x y [] n 0 n 0 := by
  refine ⟨rfl, rfl, Dm.allD_nil, ?_, Nat.zero_le _⟩
  rw [List.drop_of_length_le (by rw [← size_len]; omega), List.drop_of_length_le (by rw [← size_len]; omega)]; rfl
theorem PlusInv.next {x y : ByteArray} {L : List UInt8} {n k m cy t : Nat} (h : PlusInv x y L n k (m + 1) cy) (hx : x.size = n) (hy : y.size = n) (dx : Dm.allD x.data.toList) (dy : Dm.allD y.data.toList) (g1 : m < x.size) (g2 : m < y.size)
    (hq : (x[m].toNat : Int) - 48 + ((y[m].toNat : Int) - 48) + (cy : Int) = (t : Int)) {c : UInt8} (hc : c.toNat = 48 + t % 10) : PlusInv x y (c :: L) n (k + 1) m (t / 10) := by
  obtain ⟨h1, h2, h3, h4, h5⟩ := h
  have b1 := Dm.isD_iff.1 (dx _ (List.getElem_mem (by rw [← size_len]; exact g1) : x.data.toList[m] ∈ _))
  have b2 := Dm.isD_iff.1 (dy _ (List.getElem_mem (by rw [← size_len]; exact g2) : y.data.toList[m] ∈ _))
  rw [ba_get x m g1, ba_get y m g2] at hq
  obtain ⟨a1, a2, a3, a4⟩ := plus_step (x := x.data.toList) (y := y.data.toList) (L := L) (n := n) (m := m) (k := k) (cy := cy) (by rw [← size_len]; exact hx) (by rw [← size_len]; exact hy) (by omega) dx dy h2 h3 h4 h5 (by rw [← size_len]; exact g1) (by rw [← size_len]; exact g2) c t (by unfold Dm.dv; omega) hc
  exact ⟨by omega, a1, a2, a3, a4⟩
theorem PlusInv.fin {x y : ByteArray} {L : List UInt8} {n k cy : Nat} (h : PlusInv x y L n k 0 cy) {c : UInt8} (hc : c.toNat = 48 + cy) : Dm.allD (c :: L) ∧ (c :: L).length = n + 1 ∧ Dm.num (c :: L) = Dm.num x.data.toList + Dm.num y.data.toList := by
  obtain ⟨h1, h2, h3, h4, h5⟩ := h
  have a : Dm.isD c = true := Dm.isD_iff.2 (by omega)
  have b : Dm.dv c = cy := by unfold Dm.dv; omega
  refine ⟨Dm.allD_cons.2 ⟨a, h3⟩, by simp [h2]; omega, ?_⟩
  rw [Dm.num_cons, b, h2]
  simp only [List.drop_zero] at h4
  omega
theorem digit_bd {x : ByteArray} {m : Nat} (dx : Dm.allD x.data.toList) (g : m < x.size) : (48 : Int) ≤ (x[m].toNat : Int) ∧ (x[m].toNat : Int) ≤ 57 := by
  have b1 := Dm.isD_iff.1 (dx _ (List.getElem_mem (by rw [← size_len]; exact g) : x.data.toList[m] ∈ _))
  rw [← ba_get x m g] at b1
  omega
/-- What Minus has come to: the last k digits are laid, bo is borrowed. -/
def MinusInv (x y : ByteArray) (L : List UInt8) (n k j bo : Nat) : Prop :=
  j + k = n ∧ L.length = k ∧ Dm.allD L ∧ Dm.num (x.data.toList.drop j) + bo * 10 ^ k = Dm.num L + Dm.num (y.data.toList.drop j) ∧ bo ≤ 1
theorem MinusInv.start (x y : ByteArray) {n : Nat} (hx : x.size = n) (hy : y.size = n) : MinusInv x y [] n 0 n 0 := by
  refine ⟨rfl, rfl, Dm.allD_nil, ?_, Nat.zero_le _⟩
  rw [List.drop_of_length_le (by rw [← size_len]; omega), List.drop_of_length_le (by rw [← size_len]; omega)]; rfl
theorem MinusInv.next {x y : ByteArray} {L : List UInt8} {n k m bo t b2 : Nat} (h : MinusInv x y L n k (m + 1) bo) (hx : x.size = n) (hy : y.size = n) (dx : Dm.allD x.data.toList) (dy : Dm.allD y.data.toList) (g1 : m < x.size) (g2 : m < y.size)
    (hq : (x[m].toNat : Int) - (y[m].toNat : Int) - (bo : Int) = (t : Int) - 10 * (b2 : Int)) (ht : t ≤ 9) (hb : b2 ≤ 1) {c : UInt8} (hc : c.toNat = 48 + t) : MinusInv x y (c :: L) n (k + 1) m b2 := by
  obtain ⟨h1, h2, h3, h4, h5⟩ := h
  have q1 : m < x.data.toList.length := by rw [← size_len]; exact g1
  have q2 : m < y.data.toList.length := by rw [← size_len]; exact g2
  have a1 := Dm.isD_iff.1 (dx _ (List.getElem_mem q1))
  have a2 := Dm.isD_iff.1 (dy _ (List.getElem_mem q2))
  rw [ba_get x m g1, ba_get y m g2] at hq
  have hd : Dm.isD c = true := Dm.isD_iff.2 (by omega)
  have hv : Dm.dv c = t := by unfold Dm.dv; omega
  refine ⟨by omega, by simp [h2], Dm.allD_cons.2 ⟨hd, h3⟩, ?_, hb⟩
  rw [List.drop_eq_getElem_cons q1, List.drop_eq_getElem_cons q2, Dm.num_cons, Dm.num_cons, Dm.num_cons, hv, List.length_drop, List.length_drop, h2, ← size_len, ← size_len, hx, hy, show n - (m + 1) = k by omega, Nat.pow_succ]
  have e : Dm.dv x.data.toList[m] + 10 * b2 = t + Dm.dv y.data.toList[m] + bo := by unfold Dm.dv; omega
  have e2 : Dm.dv x.data.toList[m] * 10 ^ k + b2 * (10 ^ k * 10) = t * 10 ^ k + Dm.dv y.data.toList[m] * 10 ^ k + bo * 10 ^ k := by
    rw [← Nat.add_mul, ← Nat.add_mul, ← e, Nat.add_mul, Nat.mul_comm (10 ^ k) 10, ← Nat.mul_assoc, Nat.mul_comm b2 10]
  omega
theorem MinusInv.fin {x y : ByteArray} {L : List UInt8} {n k bo : Nat} (h : MinusInv x y L n k 0 bo) (hx : x.size = n) (dx : Dm.allD x.data.toList) (hle : Dm.num y.data.toList ≤ Dm.num x.data.toList) : Dm.allD L ∧ L.length = n ∧ Dm.num L + Dm.num y.data.toList = Dm.num x.data.toList := by
  obtain ⟨h1, h2, h3, h4, h5⟩ := h
  simp only [List.drop_zero] at h4
  have hl := Dm.num_lt h3
  rw [h2] at hl
  refine ⟨h3, by omega, ?_⟩
  have : bo = 0 := by
    rcases Nat.eq_zero_or_pos bo with g | g
    · exact g
    · have : bo = 1 := by omega
      subst this; omega
  subst this; omega
end Go.Proofs.YtigpfbfkdccdaaaDoor
