/- What is proved here: the boxes of three decimals, and the cases of the order, as the law DecRules wants them; conditions: none. -/
import Derived.Test.YtijelgmmmceflaaDoorMf
namespace Go.Proofs.YtijelgmmmceflaaDoor
open Go.RowKit
set_option linter.unusedVariables false
set_option linter.unusedSimpArgs false

/-- The three decimals that came in, in their boxes. -/
def Abc (w : World) (a1 : Bool) (a2 : List UInt8) (a3 : Nat) (b1 : Bool) (b2 : List UInt8) (b3 : Nat) (c1 : Bool) (c2 : List UInt8) (c3 : Nat) (wr : World) : Prop :=
  Below w.heap.size w wr ∧ Has3 w.heap.size (.bool a1) (.string ⟨a2.toArray⟩) (.int .i64 (a3 : Int)) wr ∧ Has3 (w.heap.size + 1) (.bool b1) (.string ⟨b2.toArray⟩) (.int .i64 (b3 : Int)) wr ∧ Has3 (w.heap.size + 2) (.bool c1) (.string ⟨c2.toArray⟩) (.int .i64 (c3 : Int)) wr
theorem Abc.next {w : World} {a1 : Bool} {a2 : List UInt8} {a3 : Nat} {b1 : Bool} {b2 : List UInt8} {b3 : Nat} {c1 : Bool} {c2 : List UInt8} {c3 : Nat} {wr w' : World} (h : Abc w a1 a2 a3 b1 b2 b3 c1 c2 c3 wr) (hb : Below wr.heap.size wr w') : Abc w a1 a2 a3 b1 b2 b3 c1 c2 c3 w' :=
  ⟨h.1.trans (hb.mono h.1.size), h.2.1.next hb, h.2.2.1.next hb, h.2.2.2.next hb⟩
theorem Abc.start (w : World) (a1 : Bool) (a2 : List UInt8) (a3 : Nat) (b1 : Bool) (b2 : List UInt8) (b3 : Nat) (c1 : Bool) (c2 : List UInt8) (c3 : Nat) :
    Abc w a1 a2 a3 b1 b2 b3 c1 c2 c3 (((w.alloc (.cells #[.bool a1, .string ⟨a2.toArray⟩, .int .i64 (a3 : Int)] 23)).alloc (.cells #[.bool b1, .string ⟨b2.toArray⟩, .int .i64 (b3 : Int)] 23)).alloc (.cells #[.bool c1, .string ⟨c2.toArray⟩, .int .i64 (c3 : Int)] 23)) := by
  have h := Two.start w (.bool a1) (.string ⟨a2.toArray⟩) (.int .i64 (a3 : Int)) (.bool b1) (.string ⟨b2.toArray⟩) (.int .i64 (b3 : Int)) 23
  have e2 : ((w.alloc (.cells #[.bool a1, .string ⟨a2.toArray⟩, .int .i64 (a3 : Int)] 23)).alloc (.cells #[.bool b1, .string ⟨b2.toArray⟩, .int .i64 (b3 : Int)] 23)).heap.size = w.heap.size + 2 := by simp
  have hc := Has3.start ((w.alloc (.cells #[.bool a1, .string ⟨a2.toArray⟩, .int .i64 (a3 : Int)] 23)).alloc (.cells #[.bool b1, .string ⟨b2.toArray⟩, .int .i64 (b3 : Int)] 23)) (.bool c1) (.string ⟨c2.toArray⟩) (.int .i64 (c3 : Int)) 23
  rw [e2] at hc
  have h' := h.alloc (.cells #[.bool c1, .string ⟨c2.toArray⟩, .int .i64 (c3 : Int)] 23)
  exact ⟨h'.1, ⟨by have := h'.2.1; omega, h'.2.2.1⟩, ⟨h'.2.1, h'.2.2.2⟩, hc⟩
theorem Abc.drew {w : World} {a1 : Bool} {a2 : List UInt8} {a3 : Nat} {b1 : Bool} {b2 : List UInt8} {b3 : Nat} {c1 : Bool} {c2 : List UInt8} {c3 : Nat} {wr : World} (h : Abc w a1 a2 a3 b1 b2 b3 c1 c2 c3 wr) : Abc w a1 a2 a3 b1 b2 b3 c1 c2 c3 wr.drew := h.next (Below.refl _ _).drew
theorem Has3.drew {b : Nat} {x y z : Value} {w : World} (h : Has3 b x y z w) : Has3 b x y z w.drew := h.next (Below.refl _ _).drew
theorem sgI_range (z : Int) : sgI z = -1 ∨ sgI z = 0 ∨ sgI z = 1 := by
  unfold sgI
  by_cases g : z < 0
  · rw [if_pos g]; exact .inl rfl
  · by_cases g2 : 0 < z
    · rw [if_neg g, if_pos g2]; exact .inr (.inr rfl)
    · rw [if_neg g, if_neg g2]; exact .inr (.inl rfl)
theorem cmpD_range (x : Bool) (y : List UInt8) (z : Nat) (x2 : Bool) (y2 : List UInt8) (z2 : Nat) : cmpD x y z x2 y2 z2 = -1 ∨ cmpD x y z x2 y2 z2 = 0 ∨ cmpD x y z x2 y2 z2 = 1 := by
  unfold cmpD
  have h1 := sgnD_range x y _ rfl
  have h2 := sgnD_range x2 y2 _ rfl
  have h3 := cmpN_range (Dm.num y * 10 ^ z2) (Dm.num y2 * 10 ^ z) _ rfl
  generalize sgnD x y = p at *
  generalize sgnD x2 y2 = q at *
  generalize Dm.cmpN (Dm.num y * 10 ^ z2) (Dm.num y2 * 10 ^ z) = r at *
  rcases h1 with rfl | rfl | rfl <;> rcases h2 with rfl | rfl | rfl <;> rcases h3 with rfl | rfl | rfl <;> decide
def decEq (a1 : Bool) (a2 : List UInt8) (a3 : Nat) (b1 : Bool) (b2 : List UInt8) (b3 : Nat) : Bool := (a1 == b1) && (a2 == b2) && (a3 == b3)
theorem cmpD_eq {a b : Dm.D} (ha : Dm.May a) (hb : Dm.May b) : (cmpD a.ng a.ds a.sc b.ng b.ds b.sc == 0) = decEq a.ng a.ds a.sc b.ng b.ds b.sc := by
  have h := cmpD_zero ha hb
  have e : decEq a.ng a.ds a.sc b.ng b.ds b.sc = true ↔ a = b := by
    unfold decEq
    simp only [Bool.and_eq_true, beq_iff_eq]
    exact ⟨fun h => by cases a; cases b; simp_all, fun h => by subst h; exact ⟨⟨rfl, rfl⟩, rfl⟩⟩
  rw [Bool.eq_iff_iff, e, beq_iff_eq]; exact h
theorem rules_cases (a1 : Bool) (a2 : List UInt8) (a3 : Nat) (b1 : Bool) (b2 : List UInt8) (b3 : Nat) (q : Int) (h : (q == 0) = decEq a1 a2 a3 b1 b2 b3) :
    ((a1 == b1) = true ∧ (a2 == b2) = true ∧ ((a3 : Int) == (b3 : Int)) = true ∧ (q == 0) = true) ∨ ((a1 == b1) = true ∧ (a2 == b2) = true ∧ ((a3 : Int) == (b3 : Int)) = false ∧ (q == 0) = false) ∨ ((a1 == b1) = true ∧ (a2 == b2) = false ∧ (q == 0) = false) ∨ ((a1 == b1) = false ∧ (q == 0) = false) := by
  rw [h]
  unfold decEq
  have e3 : ((a3 : Int) == (b3 : Int)) = (a3 == b3) := by rw [Bool.eq_iff_iff, beq_iff_eq, beq_iff_eq]; omega
  rw [e3]
  generalize (a1 == b1) = p1
  generalize (a2 == b2) = p2
  generalize (a3 == b3) = p3
  cases p1 <;> cases p2 <;> cases p3 <;> simp
/-- Three blocks of three cells, laid one behind the other. -/
def Abv (w : World) (x1 x2 x3 y1 y2 y3 z1 z2 z3 : Value) (wr : World) : Prop :=
  Below w.heap.size w wr ∧ Has3 w.heap.size x1 x2 x3 wr ∧ Has3 (w.heap.size + 1) y1 y2 y3 wr ∧ Has3 (w.heap.size + 2) z1 z2 z3 wr
theorem Abv.next {w : World} {x1 x2 x3 y1 y2 y3 z1 z2 z3 : Value} {wr w' : World} (h : Abv w x1 x2 x3 y1 y2 y3 z1 z2 z3 wr) (hb : Below wr.heap.size wr w') : Abv w x1 x2 x3 y1 y2 y3 z1 z2 z3 w' :=
  ⟨h.1.trans (hb.mono h.1.size), h.2.1.next hb, h.2.2.1.next hb, h.2.2.2.next hb⟩
theorem Abv.start (w : World) (x1 x2 x3 y1 y2 y3 z1 z2 z3 : Value) :
    Abv w x1 x2 x3 y1 y2 y3 z1 z2 z3 (((w.alloc (.cells #[x1, x2, x3] 23)).alloc (.cells #[y1, y2, y3] 23)).alloc (.cells #[z1, z2, z3] 23)) := by
  have h := Two.start w x1 x2 x3 y1 y2 y3 23
  have e2 : ((w.alloc (.cells #[x1, x2, x3] 23)).alloc (.cells #[y1, y2, y3] 23)).heap.size = w.heap.size + 2 := by simp
  have hc := Has3.start ((w.alloc (.cells #[x1, x2, x3] 23)).alloc (.cells #[y1, y2, y3] 23)) z1 z2 z3 23
  rw [e2] at hc
  have h' := h.alloc (.cells #[z1, z2, z3] 23)
  exact ⟨h'.1, ⟨by have := h'.2.1; omega, h'.2.2.1⟩, ⟨h'.2.1, h'.2.2.2⟩, hc⟩
end Go.Proofs.YtijelgmmmceflaaDoor
