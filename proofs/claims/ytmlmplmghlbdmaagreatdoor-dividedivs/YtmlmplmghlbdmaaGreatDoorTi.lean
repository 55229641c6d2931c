/- What is proved here: what Add, Sub and Mul of package dec do with whole numbers, and what Int does with some of them; conditions: as each theorem states. -/
import Derived.Test.YtmlmplmghlbdmaaGreatDoorTb
import Derived.Test.YtmlmplmghlbdmaaGreatDoorMf
namespace Go.Proofs.YtmlmplmghlbdmaaGreatDoor
open Go.RowKit
set_option linter.unusedVariables false
set_option linter.unusedSimpArgs false

theorem int_v (n : Int) (x : Bool) (l : List UInt8) (w : World) (h0 : -9223372036854775808 ≤ n) (h1 : n ≤ 9223372036854775807) (htab : Pow w) (h : Dm.ofInt n = ⟨x, l, 0⟩) :
    Calls Tryz.prog 51 #[.int .i64 n] w fun e w' => e = .returned (.agg #[.bool x, .string ⟨l.toArray⟩, .int .i64 0]) ∧ Below w.heap.size w w' := by
  have := int_any n w h0 h1 htab
  rw [h] at this; exact this
theorem ofInt_eta (n : Int) : ∃ x l, Dm.ofInt n = ⟨x, l, 0⟩ := ⟨(Dm.ofInt n).ng, (Dm.ofInt n).ds, rfl⟩
theorem ofInt_0 : Dm.ofInt 0 = ⟨false, [48], 0⟩ := by kernel_rfl
theorem ofInt_1 : Dm.ofInt 1 = ⟨false, [49], 0⟩ := by kernel_rfl
theorem ofInt_10 : Dm.ofInt 10 = ⟨false, [49, 48], 0⟩ := by kernel_rfl
theorem whole_rep {z : Int} {r : Option Dm.D} {x : Bool} {l : List UInt8} (hz : z.natAbs < 18446744073709551616) (h : Dm.Rep z 0 r) (e : Dm.ofInt z = ⟨x, l, 0⟩) : r = some ⟨x, l, 0⟩ := by
  rw [← e]; exact (Dm.ofInt_rep hz).1 h
theorem add_i (a b c : Int) (xa : Bool) (la : List UInt8) (xb : Bool) (lb : List UInt8) (xc : Bool) (lc : List UInt8) (w : World) (ha : a.natAbs < 4294967296) (hb : b.natAbs < 4294967296) (hc : c = a + b)
    (ea : Dm.ofInt a = ⟨xa, la, 0⟩) (eb : Dm.ofInt b = ⟨xb, lb, 0⟩) (ec : Dm.ofInt c = ⟨xc, lc, 0⟩) :
    Calls Tryz.prog 68 #[.agg #[.bool xa, .string ⟨la.toArray⟩, .int .i64 0], .agg #[.bool xb, .string ⟨lb.toArray⟩, .int .i64 0]] w fun e w' => e = .returned (.tuple #[.agg #[.bool xc, .string ⟨lc.toArray⟩, .int .i64 0], .int .i64 0]) ∧ Below w.heap.size w w' := by
  have ma := Dm.ofInt_may a (by omega)
  have mb := Dm.ofInt_may b (by omega)
  have sa := Dm.ofInt_sg a
  have sb := Dm.ofInt_sg b
  rw [ea] at ma sa
  rw [eb] at mb sb
  refine (add_r xa la 0 xb lb 0 w ma mb).mono ?_
  rintro e w' ⟨r, rfl, hr, hB⟩
  rw [sa, sb, Dm.p10_zero, Int.mul_one, Int.mul_one, ← hc] at hr
  have e := whole_rep (by omega) hr ec
  subst e
  exact ⟨rfl, hB⟩
theorem mul_i (a b c : Int) (xa : Bool) (la : List UInt8) (xb : Bool) (lb : List UInt8) (xc : Bool) (lc : List UInt8) (w : World) (ha : a.natAbs < 4294967296) (hb : b.natAbs < 4294967296) (hcb : c.natAbs < 18446744073709551616) (hc : c = a * b)
    (ea : Dm.ofInt a = ⟨xa, la, 0⟩) (eb : Dm.ofInt b = ⟨xb, lb, 0⟩) (ec : Dm.ofInt c = ⟨xc, lc, 0⟩) :
    Calls Tryz.prog 52 #[.agg #[.bool xa, .string ⟨la.toArray⟩, .int .i64 0], .agg #[.bool xb, .string ⟨lb.toArray⟩, .int .i64 0]] w fun e w' => e = .returned (.tuple #[.agg #[.bool xc, .string ⟨lc.toArray⟩, .int .i64 0], .int .i64 0]) ∧ Below w.heap.size w w' := by
  have ma := Dm.ofInt_may a (by omega)
  have mb := Dm.ofInt_may b (by omega)
  have sa := Dm.ofInt_sg a
  have sb := Dm.ofInt_sg b
  rw [ea] at ma sa
  rw [eb] at mb sb
  refine (mul_r ⟨xa, la, 0⟩ ⟨xb, lb, 0⟩ w ma mb).mono ?_
  rintro e w' ⟨r, rfl, hr, hB⟩
  rw [sa, sb, ← hc] at hr
  have e := whole_rep hcb hr ec
  subst e
  exact ⟨rfl, hB⟩
/-- Ten times, and a tenth of it. -/
theorem ten_back {d t : Dm.D} {r : Option Dm.D} (hd : Dm.May d) (h : Dm.Rep (Dm.sg d * Dm.sg ⟨false, [49, 48], 0⟩) (d.sc + 0) (some t)) (hz : Dm.Rep (Dm.sg t * Dm.sg ⟨false, [49], 1⟩) (t.sc + 1) r) : r = some d := by
  apply hz.uniq
  have e1 := h.2
  have s10 : Dm.sg ⟨false, [49, 48], 0⟩ = 10 := rfl
  have s1 : Dm.sg ⟨false, [49], 1⟩ = 1 := rfl
  rw [s10, Nat.add_zero] at e1
  refine ⟨hd, ?_⟩
  rw [s1, Int.mul_one, Dm.p10_succ, ← Int.mul_assoc]
  have : Dm.sg t * Dm.p10 d.sc = Dm.sg d * 10 * Dm.p10 t.sc := e1
  rw [this, Int.mul_right_comm]
theorem one_rep {d : Dm.D} {r : Option Dm.D} (hd : Dm.May d) (h : Dm.Rep (Dm.sg d * Dm.sg ⟨false, [49], 0⟩) (d.sc + 0) r) : r = some d := by
  have s1 : Dm.sg ⟨false, [49], 0⟩ = 1 := rfl
  rw [s1, Int.mul_one, Nat.add_zero] at h
  exact h.uniq (Dm.Rep.of_may hd)
theorem nought_rep {d : Dm.D} {r : Option Dm.D} (h : Dm.Rep (Dm.sg d * Dm.sg ⟨false, [48], 0⟩) (d.sc + 0) r) : r = some ⟨false, [48], 0⟩ := by
  have s1 : Dm.sg ⟨false, [48], 0⟩ = 0 := rfl
  rw [s1, Int.mul_zero] at h
  exact h.uniq (Dm.zero_rep _)
theorem one_may : Dm.May ⟨false, [49], 0⟩ := ⟨by intro c h; simp at h; rw [h]; rfl, by simp, by simp, .inr ⟨⟨49, [], rfl, by decide⟩, .inl rfl⟩⟩
end Go.Proofs.YtmlmplmghlbdmaaGreatDoor
