/- What is proved here: what Parse of package dec does where there is a point, walked; conditions: as each theorem states. What is proved here: what Parse of package dec does at every text; conditions: the text has at most 100000 bytes. What is proved here: what Print of package dec does with a decimal that may be, walked; conditions: as each theorem states. What is proved here: what Print of package dec does at every decimal that may be; conditions: the decimal may be. What is proved here: what digitAt and combine of package dec do, walked; conditions: as each theorem states. What is proved here: what multiply of package dec does, walked; conditions: both texts are digits, 60 at most. What is proved here: what Mul of package dec does with decimals that may be, walked; conditions: both may be. What is proved here: what Add of package dec does with decimals of one sign, walked; conditions: both may be. -/
import Derived.Test.YtigpfbfkdccdaaaDoorWf
import Derived.Test.YtigpfbfkdccdaaaDoorM
import Derived.Deep.OwnRows
import Derived.Deep.RegionHeld3
namespace Go.Proofs.YtigpfbfkdccdaaaDoor
open Go.RowKit
set_option linter.unusedVariables false
set_option linter.unusedSimpArgs false

end Go.Proofs.YtigpfbfkdccdaaaDoor

namespace Go.Proofs.YtigpfbfkdccdaaaDoor
open Go.RowKit
set_option linter.unusedVariables false
set_option linter.unusedSimpArgs false

theorem expL_bd {l : List UInt8} {t : Int} (h : Dm.expL l = some t) : -100 ≤ t ∧ t ≤ 100 := by
  have key : ∀ (b : Bool) (u : List UInt8), expU b u = some t → -100 ≤ t ∧ t ≤ 100 := by
    intro b u hu
    unfold expU at hu
    by_cases h1 : u.length < 1 ∨ 2 < u.length
    · rw [if_pos h1] at hu; cases hu
    · rw [if_neg h1] at hu
      by_cases h2 : u.all Dm.isD = true
      · rw [if_pos h2] at hu
        have hd := Dm.allD_all.1 h2
        have hn := num_take_lt (l := u) (k := 2) (by omega) (by rw [List.take_of_length_le (by omega)]; exact hd)
        rw [List.take_of_length_le (by omega)] at hn
        injection hu with hu
        cases b
        · simp at hu; omega
        · simp at hu; omega
      · rw [if_neg h2] at hu; cases hu
  cases l with
  | nil => cases h; omega
  | cons c t' =>
    by_cases hc : c = 101 ∨ c = 69
    · by_cases h1 : t'.head? = some 45
      · obtain ⟨u, rfl⟩ : ∃ u, t' = 45 :: u := by
          cases t' with
          | nil => simp at h1
          | cons d u => simp at h1; exact ⟨u, by rw [h1]⟩
        rw [expL_minus hc] at h; exact key _ _ h
      · by_cases h2 : t'.head? = some 43
        · obtain ⟨u, rfl⟩ : ∃ u, t' = 43 :: u := by
            cases t' with
            | nil => simp at h2
            | cons d u => simp at h2; exact ⟨u, by rw [h2]⟩
          rw [expL_plus hc] at h; exact key _ _ h
        · rw [expL_bare hc h1 h2] at h; exact key _ _ h
    · rw [expL_no ⟨fun e => hc (.inl e), fun e => hc (.inr e)⟩] at h; cases h

theorem pre_yes {l : List UInt8} {c : UInt8} (hc : c ≠ 0) (h : l.headD 0 = c) : Lib.hasPrefix l [c] = true ∧ Lib.trimPrefix l [c] = l.tail := by
  cases l with
  | nil => simp at h; exact absurd h.symm hc
  | cons d t =>
    simp at h; subst h
    have : Lib.hasPrefix (d :: t) [d] = true := by simp [Lib.hasPrefix, List.isPrefixOf]
    exact ⟨this, by unfold Lib.trimPrefix; rw [if_pos this]; rfl⟩
theorem pre_no {l : List UInt8} {c : UInt8} (h : l.headD 0 ≠ c) : Lib.hasPrefix l [c] = false ∧ Lib.trimPrefix l [c] = l := by
  have : Lib.hasPrefix l [c] = false := by
    cases l with
    | nil => rfl
    | cons d t =>
      simp only [List.headD_cons] at h
      have e : (c == d) = false := beq_eq_false_iff_ne.2 (Ne.symm h)
      simp [Lib.hasPrefix, List.isPrefixOf, e]
  exact ⟨this, by unfold Lib.trimPrefix; rw [this]; rfl⟩
theorem mk_empty (l : List UInt8) : (⟨l.toArray⟩ : ByteArray).toList.isEmpty = l.isEmpty := by rw [toList_eq]
theorem tw_len (l : List UInt8) : (l.takeWhile Dm.isD).length ≤ l.length ∧ (l.dropWhile Dm.isD).length ≤ l.length := by
  have := congrArg List.length (List.takeWhile_append_dropWhile (p := Dm.isD) (l := l))
  rw [List.length_append] at this
  omega

end Go.Proofs.YtigpfbfkdccdaaaDoor

namespace Go.Proofs.YtigpfbfkdccdaaaDoor
open Go.RowKit
set_option linter.unusedVariables false
set_option linter.unusedSimpArgs false

/-- A boxed struct of three cells, the first block that a call has laid; what was there before is as it was. -/
def Box3 (w0 : World) (x y z : Value) (w : World) : Prop :=
  Below w0.heap.size w0 w ∧ w0.heap.size < w.heap.size ∧ w.cell? ⟨w0.heap.size, 0, none⟩ = some x ∧ w.cell? ⟨w0.heap.size, 1, none⟩ = some y ∧ w.cell? ⟨w0.heap.size, 2, none⟩ = some z
theorem Box3.start (w : World) (x y z : Value) (t : Nat) : Box3 w x y z (w.alloc (.cells #[x, y, z] t)) :=
  ⟨(Below.refl _ _).alloc (Nat.le_refl _) _, by simp, by go_simp, by go_simp, by go_simp⟩
theorem Box3.step {w0 w w' : World} {x y z : Value} {B : Nat} (h : Box3 w0 x y z w) (hB : w0.heap.size < B) (hb : Below B w w') : Box3 w0 x y z w' := by
  obtain ⟨h1, h2, a, b, c⟩ := h
  refine ⟨h1.trans (hb.mono (by omega)), Nat.lt_of_lt_of_le h2 hb.size, ?_, ?_, ?_⟩
  · rw [hb.cell (p := ⟨w0.heap.size, 0, none⟩) hB]; exact a
  · rw [hb.cell (p := ⟨w0.heap.size, 1, none⟩) hB]; exact b
  · rw [hb.cell (p := ⟨w0.heap.size, 2, none⟩) hB]; exact c
theorem Box3.next {w0 w w' : World} {x y z : Value} (h : Box3 w0 x y z w) (hb : Below w.heap.size w w') : Box3 w0 x y z w' := h.step h.2.1 hb
theorem Box3.alloc {w0 w : World} {x y z : Value} (h : Box3 w0 x y z w) (o : Obj) : Box3 w0 x y z (w.alloc o) := h.next ((Below.refl _ _).alloc (Nat.le_refl _) _)
theorem Box3.drew {w0 w : World} {x y z : Value} (h : Box3 w0 x y z w) : Box3 w0 x y z w.drew := h.next (Below.refl _ _).drew

theorem lt_of_some {w : World} {b : Nat} {o : Obj} (h : w.heap[b]? = some o) : b < w.heap.size := by
  rcases Nat.lt_or_ge b w.heap.size with g | g
  · exact g
  · rw [Array.getElem?_eq_none g] at h; cases h
theorem ownsRow_below {w w' : World} {B : Nat} {e : TypeId} {v : Value} {n : Nat} {xs : List Value} (h : w.ownsRow B e 1 v n xs) (hb : Below w.heap.size w w') : w'.ownsRow B e 1 v n xs := by
  refine ⟨h.1, ?_⟩
  rcases h.2 with g | ⟨g, cap, cur, h1, h2, h3, rest⟩
  · exact .inl g
  · exact .inr ⟨g, cap, cur, h1, h2, (hb.block g (lt_of_some h3)).trans h3, rest⟩
theorem builderAt_below {T e : TypeId} {B b : Nat} {p : Value} {bs : List Value} {w w' : World} (h : Lib.BuilderAt T e B b p bs w) (hb : Below w.heap.size w w') : Lib.BuilderAt T e B b p bs w' := by
  obtain ⟨h1, v, h2, h3, h4⟩ := h
  exact ⟨h1, v, (hb.block b (lt_of_some h2)).trans h2, ownsRow_below h3 hb, h4⟩
theorem isb_below {T e : TypeId} {B b : Nat} {bs : List Value} {w w' : World} (h : Lib.IsBuilder T e B b bs w) (hb : Below w.heap.size w w') : Lib.IsBuilder T e B b bs w' :=
  h.elim (fun x => .inl (builderAt_below x hb)) (fun x => .inr (builderAt_below x hb))
theorem isb_drew {T e : TypeId} {B b : Nat} {bs : List Value} {w : World} (h : Lib.IsBuilder T e B b bs w) : Lib.IsBuilder T e B b bs w.drew := isb_below h (Below.refl _ _).drew
theorem isb_of {T e : TypeId} {B b : Nat} {p : List UInt8} {s : ByteArray} {w : World} (h : Lib.BuilderAt T e B b (.pointer (some ⟨b, 0, none⟩)) (Lib.byteCells p ++ Lib.byteCells s.data.toList) w) : Lib.IsBuilder T e B b (Lib.byteCells (p ++ s.data.toList)) w := by
  rw [Lib.byteCells_append]; exact .inr h

theorem wrap_id {n : Int} (h1 : -1000000000 ≤ n) (h2 : n ≤ 1000000000) : IntKind.i64.wrap n = n := by
  rw [IntKind.wrap_i64]; omega
theorem ret_str {a b : ByteArray} (h : a = b) : Ending.returned (.string a) = .returned (.string b) := by rw [h]
theorem may_b (ng : Bool) (s : ByteArray) (n : Int) (b : Bool) (w : World) (hs : s.size ≤ maxLen) (h : Dm.mayB ng s.data.toList n = b) :
    Calls Tryd.prog 71 #[.agg #[.bool ng, .string s, .int .i64 n]] w fun e w' => e = .returned (.bool b) ∧ Below w.heap.size w w' := by
  have := may_any ng s n w hs
  rw [h] at this; exact this

end Go.Proofs.YtigpfbfkdccdaaaDoor

namespace Go.Proofs.YtigpfbfkdccdaaaDoor
open Go.RowKit
set_option linter.unusedVariables false
set_option linter.unusedSimpArgs false

end Go.Proofs.YtigpfbfkdccdaaaDoor

namespace Go.Proofs.YtigpfbfkdccdaaaDoor
open Go.RowKit
set_option linter.unusedVariables false
set_option linter.unusedSimpArgs false

theorem ret_slice {p : Option Addr} {n m : Nat} (h : n = m) : Ending.returned (.slice p n n) = .returned (.slice p m m) := by rw [h]
theorem ret_int {k : IntKind} {a b : Int} (h : a = b) : Ending.returned (.int k a) = .returned (.int k b) := by rw [h]
def AddInv (w0 : World) (x1 x2 x3 x4 x5 x6 : Value) (g cnt A B : Nat) (sg : Int) (k : Nat) (cy : Int) (wr : World) : Prop :=
  ∃ L : List UInt8, L.length = cnt ∧ Dm.allD (L.drop (cnt - k)) ∧ ((A % 10 ^ k : Nat) : Int) + sg * ((B % 10 ^ k : Nat) : Int) = (Dm.num (L.drop (cnt - k)) : Int) + cy * Dm.p10 k ∧
    Row wr g 0 L ∧ (∀ j, j < cnt → wr.frozen? ⟨g, j, none⟩ = false) ∧ Two w0 x1 x2 x3 x4 x5 x6 wr ∧ w0.heap.size + 1 < g

theorem AddInv.step {w0 : World} {x1 x2 x3 x4 x5 x6 : Value} {g cnt A B : Nat} {sg : Int} {k : Nat} {cy : Int} {wr : World} (h : AddInv w0 x1 x2 x3 x4 x5 x6 g cnt A B sg k cy wr) (hk : k < cnt)
    (t v : Int) (ht0 : 0 ≤ t) (ht : t = ((A / 10 ^ k % 10 : Nat) : Int) + sg * ((B / 10 ^ k % 10 : Nat) : Int) + cy + 10) (hv : v = 48 + t % 10) (nq : Nat) :
    AddInv w0 x1 x2 x3 x4 x5 x6 g cnt A B sg (k + 1) (t / 10 - 1) ((wr.drewN nq).setCell ⟨g, cnt - 1 - k, none⟩ (.int .u8 v)) := by
  obtain ⟨L, hL, hLd, heq, hrow, hfz, htw, hg⟩ := h
  have hc : (UInt8.ofNat v.toNat).toNat = v.toNat := UInt8.toNat_ofNat_of_lt' (by show v.toNat < 256; omega)
  have hcv : (((UInt8.ofNat v.toNat).toNat : Nat) : Int) = v := by omega
  have hdv : Dm.dv (UInt8.ofNat v.toNat) = (t % 10).toNat := by unfold Dm.dv; omega
  have hdD : Dm.isD (UInt8.ofNat v.toNat) = true := Dm.isD_iff.2 (by omega)
  have e1 : cnt - (k + 1) = cnt - 1 - k := by omega
  have e2 : cnt - 1 - k + 1 = cnt - k := by omega
  have hdrop := Dm.drop_set_len (l := L) (j := cnt - 1 - k) (by omega) (UInt8.ofNat v.toNat)
  rw [e2] at hdrop
  refine ⟨L.set (cnt - 1 - k) (UInt8.ofNat v.toNat), by rw [List.length_set]; exact hL, ?_, ?_, ?_, ?_, ?_, hg⟩
  · rw [e1, hdrop]
    exact Dm.allD_cons.2 ⟨hdD, hLd⟩
  · rw [e1, hdrop, Dm.num_cons, hdv]
    have hlen : (L.drop (cnt - k)).length = k := by rw [List.length_drop]; omega
    rw [hlen]
    exact Dm.step_add heq ht ht0
  · have := (Row.below (w' := wr.drewN nq) hrow (below_drewN (Below.refl _ _) nq)).set (cnt - 1 - k) (UInt8.ofNat v.toNat)
    rw [hcv] at this
    exact this
  · intro j hj
    rw [World.frozen?_setCell]
    exact hfz j hj
  · exact htw.step (B := w0.heap.size + 1 + 1) (by omega) ((below_drewN (Below.refl _ _) nq).setCell (by show w0.heap.size + 1 + 1 ≤ g; omega) _)
theorem AddInv.fin {w0 : World} {x1 x2 x3 x4 x5 x6 : Value} {g cnt A B : Nat} {sg : Int} {cy : Int} {wr : World} (h : AddInv w0 x1 x2 x3 x4 x5 x6 g cnt A B sg cnt cy wr) (hsg : sg = 1 ∨ sg = -1) (hc0 : 0 < cnt)
    (hA : A < 10 ^ (cnt - 1)) (hB : B < 10 ^ (cnt - 1)) (hpos : 0 ≤ (A : Int) + sg * (B : Int)) :
    ∃ L : List UInt8, L.length = cnt ∧ Dm.allD L ∧ Row wr g 0 L ∧ (Dm.num L : Int) = (A : Int) + sg * (B : Int) := by
  obtain ⟨L, hL, hLd, heq, hrow, hfz, htw, hg⟩ := h
  have h10 : 10 ^ (cnt - 1) * 10 ≤ 10 ^ cnt := Dm.pow_lt (by omega)
  rw [Nat.sub_self, List.drop_zero] at hLd heq
  rw [Nat.mod_eq_of_lt (show A < 10 ^ cnt by omega), Nat.mod_eq_of_lt (show B < 10 ^ cnt by omega)] at heq
  have hlt := Dm.num_lt hLd
  rw [hL] at hlt
  refine ⟨L, hL, hLd, hrow, ?_⟩
  have hp : Dm.p10 cnt = ((10 ^ cnt : Nat) : Int) := rfl
  have hcy : cy = 0 := by
    rcases Int.lt_trichotomy cy 0 with g1 | g1 | g1
    · exfalso
      have : cy * Dm.p10 cnt ≤ (-1) * Dm.p10 cnt := Int.mul_le_mul_of_nonneg_right (by omega) (by rw [hp]; omega)
      rw [hp] at this heq
      omega
    · exact g1
    · exfalso
      have : 1 * Dm.p10 cnt ≤ cy * Dm.p10 cnt := Int.mul_le_mul_of_nonneg_right (by omega) (by rw [hp]; omega)
      rw [hp] at this heq
      rcases hsg with rfl | rfl <;> omega
  rw [heq, hcy, Int.zero_mul, Int.add_zero]
theorem dAt_b {l : List UInt8} (h : Dm.allD l) {n j k d : Nat} (hj : j ≤ n) (hd : Dm.dAt l ((k : Int) - ((n : Int) - (j : Int))) = d) : Dm.num l * 10 ^ (n - j) / 10 ^ k % 10 = d := by
  rw [← Dm.dAt_nat h, ← hd]
  congr 1
  omega
theorem num_scaled {l : List UInt8} (h : Dm.allD l) {m c : Nat} (hc : l.length + m ≤ c) : Dm.num l * 10 ^ m < 10 ^ c := by
  have h1 := Dm.num_lt h
  have h2 : Dm.num l * 10 ^ m < 10 ^ l.length * 10 ^ m := Nat.mul_lt_mul_of_pos_right h1 (Dm.pow_pos' m)
  rw [← Nat.pow_add] at h2
  exact Nat.lt_of_lt_of_le h2 (Nat.pow_le_pow_right (by omega) hc)

end Go.Proofs.YtigpfbfkdccdaaaDoor

namespace Go.Proofs.YtigpfbfkdccdaaaDoor
open Go.RowKit
set_option linter.unusedVariables false
set_option linter.unusedSimpArgs false

def SumInv (w0 : World) (g cnt X m : Nat) (wr : World) : Prop :=
  ∃ S : List Nat, S.length = cnt ∧ Dm.V S = X ∧ (∀ p, p < cnt → S.getD p 0 ≤ m) ∧ Ints wr g S ∧ (∀ j, j < cnt → wr.frozen? ⟨g, j, none⟩ = false) ∧ Below w0.heap.size w0 wr ∧ w0.heap.size ≤ g ∧ g < wr.heap.size
theorem SumInv.step {w0 : World} {g cnt X m : Nat} {wr : World} (h : SumInv w0 g cnt X m wr) {p d e : Nat} (hp : p < cnt) (hd : d ≤ 9) (he : e ≤ 9) (x : Int) (hx : ∀ S : List Nat, S.length = cnt → Ints wr g S → x = ((S.getD p 0 : Nat) : Int) + (d : Int) * (e : Int)) (Y : Nat) (hY : Y = X + d * e * 10 ^ p) :
    SumInv w0 g cnt Y (m + 81) (wr.setCell ⟨g, p, none⟩ (.int .i64 x)) := by
  obtain ⟨S, h1, h2, h3, h4, h5, h6, h7, h8⟩ := h
  have hx' := hx S h1 h4
  have hxe : x = ((S.getD p 0 + d * e : Nat) : Int) := by rw [hx', Int.natCast_add, Int.natCast_mul]
  refine ⟨S.set p (S.getD p 0 + d * e), by rw [List.length_set]; exact h1, ?_, ?_, ?_, ?_, ?_, h7, ?_⟩
  · rw [Dm.V_set _ _ _ (by omega), h2, hY]
  · intro q hq
    have hde : d * e ≤ 9 * 9 := Nat.mul_le_mul hd he
    by_cases g1 : p = q
    · subst g1
      have := h3 p hp
      have e1 : (S.set p (S.getD p 0 + d * e)).getD p 0 = S.getD p 0 + d * e := by simp [List.getD, List.getElem?_set, show p < S.length by omega]
      rw [e1]; omega
    · have := h3 q hq
      have e1 : (S.set p (S.getD p 0 + d * e)).getD q 0 = S.getD q 0 := by simp [List.getD, List.getElem?_set, g1]
      rw [e1]; omega
  · rw [hxe]
    exact h4.set p _
  · intro j hj
    rw [World.frozen?_setCell]
    exact h5 j hj
  · exact h6.setCell h7 _
  · show g < (wr.setCell _ _).heap.size
    simpa [World.setCell] using h8
theorem SumInv.next {w0 : World} {g cnt X m : Nat} {wr w' : World} (h : SumInv w0 g cnt X m wr) (hb : Below wr.heap.size wr w') : SumInv w0 g cnt X m w' := by
  obtain ⟨S, h1, h2, h3, h4, h5, h6, h7, h8⟩ := h
  refine ⟨S, h1, h2, h3, h4.below hb, ?_, h6.trans (hb.mono (by omega)), h7, Nat.lt_of_lt_of_le h8 hb.size⟩
  intro j hj
  rw [hb.frozen (p := ⟨g, j, none⟩) h8]
  exact h5 j hj
theorem SumInv.drew {w0 : World} {g cnt X m : Nat} {wr : World} (h : SumInv w0 g cnt X m wr) : SumInv w0 g cnt X m wr.drew := h.next (Below.refl _ _).drew
theorem SumInv.drewN {w0 : World} {g cnt X m : Nat} {wr : World} (h : SumInv w0 g cnt X m wr) (n : Nat) : SumInv w0 g cnt X m (wr.drewN n) := h.next (below_drewN (Below.refl _ _) n)
theorem SumInv.more {w0 : World} {g cnt X m m' : Nat} {wr : World} (h : SumInv w0 g cnt X m wr) (hm : m ≤ m') : SumInv w0 g cnt X m' wr := by
  obtain ⟨S, h1, h2, h3, h4, h5, h6, h7, h8⟩ := h
  exact ⟨S, h1, h2, fun p hp => Nat.le_trans (h3 p hp) hm, h4, h5, h6, h7, h8⟩
theorem dAt_0 {l : List UInt8} (h : Dm.allD l) {k d : Nat} (hd : Dm.dAt l (k : Int) = d) : Dm.num l / 10 ^ k % 10 = d := by
  have := Dm.dAt_nat h 0 k
  rw [show ((k : Int) - ((0 : Nat) : Int)) = (k : Int) by omega, hd] at this
  simpa using this.symm
/-- Where the digits have come to: the last k are laid, cy is carried. -/
def DigInv (w0 : World) (g g2 cnt : Nat) (S : List Nat) (k cy : Nat) (wr : World) : Prop :=
  ∃ L : List UInt8, L.length = cnt ∧ Dm.allD (L.drop (cnt - k)) ∧ Dm.V (S.take k) = Dm.num (L.drop (cnt - k)) + cy * 10 ^ k ∧ Row wr g2 0 L ∧ (∀ j, j < cnt → wr.frozen? ⟨g2, j, none⟩ = false) ∧ Ints wr g S ∧ Below w0.heap.size w0 wr ∧ w0.heap.size ≤ g ∧ g < g2
theorem DigInv.step {w0 : World} {g g2 cnt : Nat} {S : List Nat} {k cy : Nat} {wr : World} (h : DigInv w0 g g2 cnt S k cy wr) (hk : k < cnt) {t : Nat} (v : Int) (hS : k < S.length) (ht : t = S.getD k 0 + cy) (hv : v = 48 + ((t % 10 : Nat) : Int)) :
    DigInv w0 g g2 cnt S (k + 1) (t / 10) (wr.setCell ⟨g2, cnt - 1 - k, none⟩ (.int .u8 v)) := by
  obtain ⟨L, hL, hLd, heq, hrow, hfz, hI, hB, hg1, hg2⟩ := h
  have hc : (UInt8.ofNat v.toNat).toNat = v.toNat := UInt8.toNat_ofNat_of_lt' (by show v.toNat < 256; omega)
  have hcv : (((UInt8.ofNat v.toNat).toNat : Nat) : Int) = v := by omega
  have hdv : Dm.dv (UInt8.ofNat v.toNat) = t % 10 := by unfold Dm.dv; omega
  have hdD : Dm.isD (UInt8.ofNat v.toNat) = true := Dm.isD_iff.2 (by omega)
  have e1 : cnt - (k + 1) = cnt - 1 - k := by omega
  have e2 : cnt - 1 - k + 1 = cnt - k := by omega
  have hdrop := Dm.drop_set_len (l := L) (j := cnt - 1 - k) (by omega) (UInt8.ofNat v.toNat)
  rw [e2] at hdrop
  refine ⟨L.set (cnt - 1 - k) (UInt8.ofNat v.toNat), by rw [List.length_set]; exact hL, ?_, ?_, ?_, ?_, ?_, hB.setCell (by show w0.heap.size ≤ g2; omega) _, hg1, hg2⟩
  · rw [e1, hdrop]
    exact Dm.allD_cons.2 ⟨hdD, hLd⟩
  · rw [e1, hdrop, Dm.num_cons, hdv, Dm.V_take_succ S k hS]
    have hlen : (L.drop (cnt - k)).length = k := by rw [List.length_drop]; omega
    rw [hlen]
    exact Dm.step_mul heq ht
  · have := hrow.set (cnt - 1 - k) (UInt8.ofNat v.toNat)
    rw [hcv] at this
    exact this
  · intro j hj
    rw [World.frozen?_setCell]
    exact hfz j hj
  · intro p hp
    rw [World.cell?_setCell_other (w := wr) (a := ⟨g2, cnt - 1 - k, none⟩) (b := ⟨g, p, none⟩) (h := by intro q; injection q with q1; omega)]
    exact hI p hp

end Go.Proofs.YtigpfbfkdccdaaaDoor

namespace Go.Proofs.YtigpfbfkdccdaaaDoor
open Go.RowKit
set_option linter.unusedVariables false
set_option linter.unusedSimpArgs false

theorem rV_tV (r : Option Dm.D) : rV r = tV r := by cases r <;> rfl
end Go.Proofs.YtigpfbfkdccdaaaDoor

namespace Go.Proofs.YtigpfbfkdccdaaaDoor
open Go.RowKit
set_option linter.unusedVariables false
set_option linter.unusedSimpArgs false

end Go.Proofs.YtigpfbfkdccdaaaDoor
