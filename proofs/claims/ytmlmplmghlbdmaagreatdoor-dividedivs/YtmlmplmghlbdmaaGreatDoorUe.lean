/- What is proved here: what Plus and Minus of the document's own answers do, walked; conditions: as each theorem states. -/
import Derived.Test.YtmlmplmghlbdmaaGreatDoorUa
import Derived.Test.YtmlmplmghlbdmaaGreatDoorRt
import Derived.Laws.BytesArg
import Derived.Deep.QuietTactic
import Derived.BigQuiet
namespace Go.Proofs.YtmlmplmghlbdmaaGreatDoor
open Go.RowKit
set_option linter.unusedVariables false
set_option linter.unusedSimpArgs false

theorem plus_step {x y L : List UInt8} {n m k cy : Nat} (hx : x.length = n) (hy : y.length = n) (hm : m + 1 + k = n) (dx : Dm.allD x) (dy : Dm.allD y) (hL : L.length = k) (hLd : Dm.allD L)
    (h : Dm.num L + cy * 10 ^ k = Dm.num (x.drop (m + 1)) + Dm.num (y.drop (m + 1))) (hc : cy ≤ 1) (g1 : m < x.length) (g2 : m < y.length) (c : UInt8) (t : Nat) (ht : t = Dm.dv x[m] + Dm.dv y[m] + cy) (hcv : c.toNat = 48 + t % 10) :
    (c :: L).length = k + 1 ∧ Dm.allD (c :: L) ∧ Dm.num (c :: L) + t / 10 * 10 ^ (k + 1) = Dm.num (x.drop m) + Dm.num (y.drop m) ∧ t / 10 ≤ 1 := by
  have a1 := Dm.dv_le (dx _ (List.getElem_mem g1))
  have a2 := Dm.dv_le (dy _ (List.getElem_mem g2))
  have hd : Dm.isD c = true := Dm.isD_iff.2 (by omega)
  have hv : Dm.dv c = t % 10 := by unfold Dm.dv; omega
  refine ⟨by simp [hL], Dm.allD_cons.2 ⟨hd, hLd⟩, ?_, by omega⟩
  rw [List.drop_eq_getElem_cons g1, List.drop_eq_getElem_cons g2, Dm.num_cons, Dm.num_cons, Dm.num_cons, hv, List.length_drop, List.length_drop, hL, hx, hy, show n - (m + 1) = k by omega, Nat.pow_succ]
  have e : t % 10 * 10 ^ k + t / 10 * (10 ^ k * 10) = t * 10 ^ k := by
    rw [Nat.mul_comm (10 ^ k) 10, ← Nat.mul_assoc, ← Nat.add_mul]; congr 1; omega
  have e2 : t * 10 ^ k = Dm.dv x[m] * 10 ^ k + Dm.dv y[m] * 10 ^ k + cy * 10 ^ k := by rw [ht, Nat.add_mul, Nat.add_mul]
  omega
theorem conv_v (v : Int) (x : UInt8) (hv : v = (x.toNat : Int)) (W : World) : (convert 38 9 (.slice (some ⟨W.heap.size, 0, none⟩) 1 1)).run Tryz.prog (W.alloc (.cells #[.int .u8 v] 5)) = .ok (.string ⟨#[x]⟩) (W.alloc (.cells #[.int .u8 v] 5)) := by
  subst hv
  have := run_convert_bytes_arg (P := Tryz.prog) (W.alloc (.cells #[.int .u8 (x.toNat : Int)] 5)) 38 5 Tryz.underlying38 Tryz.underlying5 W.heap.size 0 1 1 [(x.toNat : Int)] (by simp) (fun i hi => by
    have : i = 0 := by omega
    subst this
    go_simp) 9 Tryz.underlying9
  rw [this]
  simp [strOfNums]
theorem byte_of {n : Nat} (h : n < 256) : (UInt8.ofNat n).toNat = n := by
  rw [UInt8.toNat_ofNat']; exact Nat.mod_eq_of_lt h
theorem cons_join (c : UInt8) (L : List UInt8) : (⟨#[c]⟩ ++ ⟨L.toArray⟩ : ByteArray) = ⟨(c :: L).toArray⟩ := mk_join [c] L
/-- What Plus has come to: the last k digits are laid, cy is carried. -/
def PlusInv (x y : ByteArray) (L : List UInt8) (n k j cy : Nat) : Prop :=
  j + k = n ∧ L.length = k ∧ Dm.allD L ∧ Dm.num L + cy * 10 ^ k = Dm.num (x.data.toList.drop j) + Dm.num (y.data.toList.drop j) ∧ cy ≤ 1
theorem PlusInv.start (x y : ByteArray) {n : Nat} (hx : x.size = n) (hy : y.size = n) : PlusInv x y [] n 0 n 0 := by
  refine ⟨rfl, rfl, Dm.allD_nil, ?_, Nat.zero_le _⟩
  rw [List.drop_of_length_le (by rw [← size_len]; omega), List.drop_of_length_le (by rw [← size_len]; omega)]; rfl
theorem PlusInv.next {x y : ByteArray} {L : List UInt8} {n k m cy t : Nat} (h : PlusInv x y L n k (m + 1) cy) (hx : x.size = n) (hy : y.size = n) (dx : Dm.allD x.data.toList) (dy : Dm.allD y.data.toList) (g1 : m < x.size) (g2 : m < y.size)
    (hq : (x[m].toNat : Int) - 48 + ((y[m].toNat : Int) - 48) + (cy : Int) = (t : Int)) {c : UInt8} (hc : c.toNat = 48 + t % 10) : PlusInv x y (c :: L) n (k + 1) m (t / 10) := by
  obtain ⟨h1, h2, h3, h4, h5⟩ := h
  have b1 := Dm.isD_iff.1 (dx _ (List.getElem_mem (by rw [← size_len]; exact g1) : x.data.toList[m] ∈ _))
  have b2 := Dm.isD_iff.1 (dy _ (List.getElem_mem (by rw [← size_len]; exact g2) : y.data.toList[m] ∈ _))
  rw [ba_get x m g1, ba_get y m g2] at hq
  obtain ⟨a1, a2, a3, a4⟩ := plus_step (x := x.data.toList) (y := y.data.toList) (L := L) (n := n) (m := m) (k := k) (cy := cy) (by rw [← size_len]; exact hx) (by rw [← size_len]; exact hy) (by omega) dx dy h2 h3 h4 h5 (by rw [← size_len]; exact g1) (by rw [← size_len]; exact g2) c t (by unfold Dm.dv; omega) hc
  exact ⟨by omega, a1, a2, a3, a4⟩
theorem PlusInv.fin {x y : ByteArray} {L : List UInt8} {n k cy : Nat} (h : PlusInv x y L n k 0 cy) {c : UInt8} (hc : c.toNat = 48 + cy) : Dm.allD (c :: L) ∧ (c :: L).length = n + 1 ∧ Dm.num (c :: L) = Dm.num x.data.toList + Dm.num y.data.toList := by
  obtain ⟨h1, h2, h3, h4, h5⟩ := h
  have a : Dm.isD c = true := Dm.isD_iff.2 (by omega)
  have b : Dm.dv c = cy := by unfold Dm.dv; omega
  refine ⟨Dm.allD_cons.2 ⟨a, h3⟩, by simp [h2]; omega, ?_⟩
  rw [Dm.num_cons, b, h2]
  simp only [List.drop_zero] at h4
  omega
theorem digit_bd {x : ByteArray} {m : Nat} (dx : Dm.allD x.data.toList) (g : m < x.size) : (48 : Int) ≤ (x[m].toNat : Int) ∧ (x[m].toNat : Int) ≤ 57 := by
  have b1 := Dm.isD_iff.1 (dx _ (List.getElem_mem (by rw [← size_len]; exact g) : x.data.toList[m] ∈ _))
  rw [← ba_get x m g] at b1
  omega
set_option maxRecDepth 100000 in
set_option maxHeartbeats 2000000 in
theorem plus_any (x y : ByteArray) (n : Nat) (w : World) (hx : x.size = n) (hy : y.size = n) (hn : n ≤ 1000) (dx : Dm.allD x.data.toList) (dy : Dm.allD y.data.toList) :
    Calls Tryz.prog 40 #[.string x, .string y] w fun e w' => ∃ L : List UInt8, e = .returned (.string ⟨L.toArray⟩) ∧ Dm.allD L ∧ L.length = n + 1 ∧ Dm.num L = Dm.num x.data.toList + Dm.num y.data.toList ∧ Below w.heap.size w w' := by
  have hx1 : x.size ≤ 1000 := by omega
  have hy1 : y.size ≤ 1000 := by omega
  have HX := hide hx
  have HY := hide hy
  clear hx hy
  go_enter Tryz.func40, Tryz.ntmps40
  go_wp2
  go_loopw [5, 6, 7] (fun s c i wr => ∃ (L : List UInt8) (k j cy : Nat), i = .int .i64 ((j : Int) - 1) ∧ s = .string ⟨L.toArray⟩ ∧ c = .int .i64 (cy : Int) ∧ PlusInv x y L n k j cy ∧ Below w.heap.size w wr) (fun _ _ i _ => (intOf i + 1).toNat)
  case atStart => exact ⟨[], 0, n, 0, by rw [unhide HX], rfl, rfl, PlusInv.start x y (unhide HX) (unhide HY), Below.refl _ _⟩
  case round =>
    obtain ⟨L, k, j, cy, rfl, rfl, rfl, hI, hB⟩ := hrel
    have hcy := hI.2.2.2.2
    have hj := hI.1
    have hLl : L.length ≤ 1000 := by rw [hI.2.1]; omega
    cases j with
    | zero =>
      obtain ⟨c, hc⟩ : ∃ c : UInt8, c.toNat = 48 + cy := ⟨_, byte_of (by omega)⟩
      have cv := conv_v (48 + (cy : Int)) c (by omega) wr
      have HC := hide hc
      clear hc
      go_wp2
      go_ret
      obtain ⟨f1, f2, f3⟩ := hI.fin (unhide HC)
      exact ⟨c :: L, ret_s (cons_join _ _), f1, f2, f3, hB.alloc hB.size _⟩
    | succ m =>
      have e1 : (((m + 1 : Nat) : Int) - 1) = (m : Int) := by omega
      rw [e1]
      clear e1
      have hmx : m < x.size := by rw [unhide HX]; omega
      have hmy : m < y.size := by rw [unhide HY]; omega
      obtain ⟨b3, b4⟩ := digit_bd dx hmx
      obtain ⟨b5, b6⟩ := digit_bd dy hmy
      obtain ⟨t, ht⟩ : ∃ t : Nat, (x[m].toNat : Int) - 48 + ((y[m].toNat : Int) - 48) + (cy : Int) = (t : Int) := ⟨((x[m].toNat : Int) - 48 + ((y[m].toNat : Int) - 48) + (cy : Int)).toNat, by omega⟩
      obtain ⟨c, hc⟩ : ∃ c : UInt8, c.toNat = 48 + t % 10 := ⟨_, byte_of (by omega)⟩
      have hI2 := hI.next (unhide HX) (unhide HY) dx dy hmx hmy ht hc
      have HC := hide hc
      clear hc
      have ht9 : t ≤ 19 := by omega
      have i1 : (m : Int) < (x.size : Int) := by omega
      have i2 : (m : Int) < (y.size : Int) := by omega
      clear hI
      go_wp2_with fail
      go_quiet (fail)
      have hB2 := below_drewN hB nq
      generalize wr.drewN nq = w4 at hB2 ⊢
      have cv := conv_v (48 + (t : Int) % 10) c (by have := unhide HC; omega) w4
      go_wp2
      go_roundw
      case rel => exact ⟨_, k + 1, m, t / 10, rfl, congrArg Value.string (cons_join _ _), rfl, hI2, hB2.alloc hB2.size _⟩
      case measure => simp only [intOf]; omega
/-- What Minus has come to: the last k digits are laid, bo is borrowed. -/
def MinusInv (x y : ByteArray) (L : List UInt8) (n k j bo : Nat) : Prop :=
  j + k = n ∧ L.length = k ∧ Dm.allD L ∧ Dm.num (x.data.toList.drop j) + bo * 10 ^ k = Dm.num L + Dm.num (y.data.toList.drop j) ∧ bo ≤ 1
theorem MinusInv.start (x y : ByteArray) {n : Nat} (hx : x.size = n) (hy : y.size = n) : MinusInv x y [] n 0 n 0 := by
  refine ⟨rfl, rfl, Dm.allD_nil, ?_, Nat.zero_le _⟩
  rw [List.drop_of_length_le (by rw [← size_len]; omega), List.drop_of_length_le (by rw [← size_len]; omega)]; rfl
theorem MinusInv.next {x y : ByteArray} {L : List UInt8} {n k m bo t b2 : Nat} (h : MinusInv x y L n k (m + 1) bo) (hx : x.size = n) (hy : y.size = n) (dx : Dm.allD x.data.toList) (dy : Dm.allD y.data.toList) (g1 : m < x.size) (g2 : m < y.size)
    (hq : (x[m].toNat : Int) - (y[m].toNat : Int) - (bo : Int) = (t : Int) - 10 * (b2 : Int)) (ht : t ≤ 9) (hb : b2 ≤ 1) {c : UInt8} (hc : c.toNat = 48 + t) : MinusInv x y (c :: L) n (k + 1) m b2 := by
  obtain ⟨h1, h2, h3, h4, h5⟩ := h
  have q1 : m < x.data.toList.length := by rw [← size_len]; exact g1
  have q2 : m < y.data.toList.length := by rw [← size_len]; exact g2
  have a1 := Dm.isD_iff.1 (dx _ (List.getElem_mem q1))
  have a2 := Dm.isD_iff.1 (dy _ (List.getElem_mem q2))
  rw [ba_get x m g1, ba_get y m g2] at hq
  have hd : Dm.isD c = true := Dm.isD_iff.2 (by omega)
  have hv : Dm.dv c = t := by unfold Dm.dv; omega
  refine ⟨by omega, by simp [h2], Dm.allD_cons.2 ⟨hd, h3⟩, ?_, hb⟩
  rw [List.drop_eq_getElem_cons q1, List.drop_eq_getElem_cons q2, Dm.num_cons, Dm.num_cons, Dm.num_cons, hv, List.length_drop, List.length_drop, h2, ← size_len, ← size_len, hx, hy, show n - (m + 1) = k by omega, Nat.pow_succ]
  have e : Dm.dv x.data.toList[m] + 10 * b2 = t + Dm.dv y.data.toList[m] + bo := by unfold Dm.dv; omega
  have e2 : Dm.dv x.data.toList[m] * 10 ^ k + b2 * (10 ^ k * 10) = t * 10 ^ k + Dm.dv y.data.toList[m] * 10 ^ k + bo * 10 ^ k := by
    rw [← Nat.add_mul, ← Nat.add_mul, ← e, Nat.add_mul, Nat.mul_comm (10 ^ k) 10, ← Nat.mul_assoc, Nat.mul_comm b2 10]
  omega
theorem MinusInv.fin {x y : ByteArray} {L : List UInt8} {n k bo : Nat} (h : MinusInv x y L n k 0 bo) (hx : x.size = n) (dx : Dm.allD x.data.toList) (hle : Dm.num y.data.toList ≤ Dm.num x.data.toList) : Dm.allD L ∧ L.length = n ∧ Dm.num L + Dm.num y.data.toList = Dm.num x.data.toList := by
  obtain ⟨h1, h2, h3, h4, h5⟩ := h
  simp only [List.drop_zero] at h4
  have hl := Dm.num_lt h3
  rw [h2] at hl
  refine ⟨h3, by omega, ?_⟩
  have : bo = 0 := by
    rcases Nat.eq_zero_or_pos bo with g | g
    · exact g
    · have : bo = 1 := by omega
      subst this; omega
  subst this; omega
set_option maxRecDepth 100000 in
set_option maxHeartbeats 2000000 in
theorem minus_any (x y : ByteArray) (n : Nat) (w : World) (hx : x.size = n) (hy : y.size = n) (hn : n ≤ 1000) (dx : Dm.allD x.data.toList) (dy : Dm.allD y.data.toList) (hle : Dm.num y.data.toList ≤ Dm.num x.data.toList) :
    Calls Tryz.prog 53 #[.string x, .string y] w fun e w' => ∃ L : List UInt8, e = .returned (.string ⟨L.toArray⟩) ∧ Dm.allD L ∧ L.length = n ∧ Dm.num L + Dm.num y.data.toList = Dm.num x.data.toList ∧ Below w.heap.size w w' := by
  have hx1 : x.size ≤ 1000 := by omega
  have hy1 : y.size ≤ 1000 := by omega
  have HX := hide hx
  have HY := hide hy
  have HLE := hide hle
  clear hx hy hle
  go_enter Tryz.func53, Tryz.ntmps53
  go_wp2
  go_loopw [5, 6, 7] (fun s c i wr => ∃ (L : List UInt8) (k j bo : Nat), i = .int .i64 ((j : Int) - 1) ∧ s = .string ⟨L.toArray⟩ ∧ c = .int .i64 (bo : Int) ∧ MinusInv x y L n k j bo ∧ Below w.heap.size w wr) (fun _ _ i _ => (intOf i + 1).toNat)
  case atStart => exact ⟨[], 0, n, 0, by rw [unhide HX], rfl, rfl, MinusInv.start x y (unhide HX) (unhide HY), Below.refl _ _⟩
  case round =>
    obtain ⟨L, k, j, bo, rfl, rfl, rfl, hI, hB⟩ := hrel
    have hbo := hI.2.2.2.2
    have hj := hI.1
    have hLl : L.length ≤ 1000 := by rw [hI.2.1]; omega
    cases j with
    | zero =>
      go_wp2
      go_ret
      obtain ⟨f1, f2, f3⟩ := hI.fin (unhide HX) dx (unhide HLE)
      exact ⟨L, rfl, f1, f2, f3, hB⟩
    | succ m =>
      have e1 : (((m + 1 : Nat) : Int) - 1) = (m : Int) := by omega
      rw [e1]
      clear e1
      have hmx : m < x.size := by rw [unhide HX]; omega
      have hmy : m < y.size := by rw [unhide HY]; omega
      obtain ⟨b3, b4⟩ := digit_bd dx hmx
      obtain ⟨b5, b6⟩ := digit_bd dy hmy
      have i1 : (m : Int) < (x.size : Int) := by omega
      have i2 : (m : Int) < (y.size : Int) := by omega
      by_cases hneg : (x[m].toNat : Int) - (y[m].toNat : Int) - (bo : Int) < 0
      · obtain ⟨t, ht⟩ : ∃ t : Nat, (x[m].toNat : Int) - (y[m].toNat : Int) - (bo : Int) = (t : Int) - 10 := ⟨((x[m].toNat : Int) - (y[m].toNat : Int) - (bo : Int) + 10).toNat, by omega⟩
        have ht9 : t ≤ 9 := by omega
        obtain ⟨c, hc⟩ : ∃ c : UInt8, c.toNat = 48 + t := ⟨_, byte_of (by omega)⟩
        have hI2 := hI.next (t := t) (b2 := 1) (unhide HX) (unhide HY) dx dy hmx hmy (by omega) ht9 (Nat.le_refl _) hc
        have HC := hide hc
        clear hc hI hneg
        go_wp2_with fail
        go_quiet (fail)
        have hB2 := below_drewN hB nq
        generalize wr.drewN nq = w4 at hB2 ⊢
        have cv := conv_v (48 + (t : Int)) c (by have := unhide HC; omega) w4
        go_wp2
        go_roundw
        case rel => exact ⟨_, k + 1, m, 1, rfl, congrArg Value.string (cons_join _ _), rfl, hI2, hB2.alloc hB2.size _⟩
        case measure => simp only [intOf]; omega
      · obtain ⟨t, ht⟩ : ∃ t : Nat, (x[m].toNat : Int) - (y[m].toNat : Int) - (bo : Int) = (t : Int) := ⟨((x[m].toNat : Int) - (y[m].toNat : Int) - (bo : Int)).toNat, by omega⟩
        have ht9 : t ≤ 9 := by omega
        obtain ⟨c, hc⟩ : ∃ c : UInt8, c.toNat = 48 + t := ⟨_, byte_of (by omega)⟩
        have hI2 := hI.next (t := t) (b2 := 0) (unhide HX) (unhide HY) dx dy hmx hmy (by omega) ht9 (Nat.zero_le _) hc
        have HC := hide hc
        clear hc hI hneg
        go_wp2_with fail
        go_quiet (fail)
        have hB2 := below_drewN hB nq
        generalize wr.drewN nq = w4 at hB2 ⊢
        have cv := conv_v (48 + (t : Int)) c (by have := unhide HC; omega) w4
        go_wp2
        go_roundw
        case rel => exact ⟨_, k + 1, m, 0, rfl, congrArg Value.string (cons_join _ _), rfl, hI2, hB2.alloc hB2.size _⟩
        case measure => simp only [intOf]; omega
end Go.Proofs.YtmlmplmghlbdmaaGreatDoor
