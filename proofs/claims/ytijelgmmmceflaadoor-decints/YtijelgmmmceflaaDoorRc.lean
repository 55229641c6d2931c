/- What is proved here: three decimals in a row that come in, opened; nine cells of one block; conditions: none. -/
import Derived.Test.YtijelgmmmceflaaDoorRa
import Derived.Test.YtijelgmmmceflaaDoorMf
import Derived.Test.YtijelgmmmceflaaDoorTb
namespace Go.Proofs.YtijelgmmmceflaaDoor
open Go.ChangeShapes Go.WideShapes Go.ChangeAt Go.RowKit Go.Joins
open Go.ChangeMaps (open_string shut_string)
open Go.Deep Go.WideElems Go.Maps
set_option linter.unusedVariables false
set_option linter.unusedSimpArgs false

theorem dec_cells {H : Type} {enc : TypeId × Value → H} {W : World} {m : Nat} {c0 c1 c2 : Value} {y : DataW H × List MemPlace} (h : DataW.trod enc Tryd.prog W 0 (fun _ => true) true m 23 [c0, c1, c2] = some y) :
    ∃ (ng : Bool) (s : ByteArray) (n : Int), c0 = .bool ng ∧ c1 = .string s ∧ c2 = .int .i64 n ∧ s.size ≤ maxLen := by
  obtain ⟨y0, y1, y2, n, _, _, k0, k1, k2⟩ := trod_struct3 Tryd.underlying23 h
  have e0 : Tryd.prog.cellsOf 4 = 1 := by kernel_rfl
  have e1 : Tryd.prog.cellsOf 9 = 1 := by kernel_rfl
  have e2 : Tryd.prog.cellsOf 3 = 1 := by kernel_rfl
  simp [e0, e1, e2] at k0 k1 k2
  obtain ⟨ng, q0, _⟩ := DataW.trod_bool Tryd.underlying4 k0
  obtain ⟨s, q1, _, hs⟩ := DataW.trod_string Tryd.underlying9 k1
  obtain ⟨z, q2, _, hn⟩ := DataW.trod_int Tryd.underlying3 k2
  simp only [List.cons.injEq, and_true] at q0 q1 q2
  exact ⟨ng, s, z, q0, q1, q2, hs⟩
theorem array9 {α : Type} {cs : Array α} (h : cs.size = 9) : ∃ c0 c1 c2 c3 c4 c5 c6 c7 c8, cs = #[c0, c1, c2, c3, c4, c5, c6, c7, c8] := by
  obtain ⟨l⟩ := cs
  match l, h with
  | [c0, c1, c2, c3, c4, c5, c6, c7, c8], _ => exact ⟨c0, c1, c2, c3, c4, c5, c6, c7, c8, rfl⟩
set_option maxRecDepth 100000 in
theorem open_dec3 {H : Type} {enc : TypeId × Value → H} {W : World} {base : Nat} {v : Value} {d : DataW H} {p : List MemPlace} (hv : Value.okWide Tryd.prog W .any base 38 v) (h : DataW.Trod enc Tryd.prog W 0 (fun _ => true) true 38 v d p) :
    ∃ (x1 : Bool) (s1 : ByteArray) (n1 : Int) (x2 : Bool) (s2 : ByteArray) (n2 : Int) (x3 : Bool) (s3 : ByteArray) (n3 : Int), v = .agg #[.bool x1, .string s1, .int .i64 n1, .bool x2, .string s2, .int .i64 n2, .bool x3, .string s3, .int .i64 n3] ∧ s1.size ≤ maxLen ∧ s2.size ≤ maxLen ∧ s3.size ≤ maxLen := by
  simp only [Value.okWide, Tryd.underlying38] at hv
  obtain ⟨cs, rfl, hsz, _⟩ := hv
  have e9 : Tryd.prog.cellsOf 38 = 9 := by kernel_rfl
  obtain ⟨c0, c1, c2, c3, c4, c5, c6, c7, c8, rfl⟩ := array9 (hsz.trans e9)
  obtain ⟨fuel, hf⟩ := h
  obtain ⟨xs, m, _, _, _, hxl, hall⟩ := DataW.trod_array Tryd.underlying38 hf
  have k0 := hall 0 (by omega)
  have k1 := hall 1 (by omega)
  have k2 := hall 2 (by omega)
  have e3 : Tryd.prog.cellsOf 23 = 3 := by kernel_rfl
  simp only [Value.cells, e3, Nat.zero_mul, Nat.one_mul, Nat.reduceMul, List.drop_zero, List.drop_succ_cons, List.take_succ_cons, List.take_zero] at k0 k1 k2
  obtain ⟨a0, ha0⟩ : ∃ a, xs[0]? = some a := ⟨xs[0]'(by omega), List.getElem?_eq_getElem _⟩
  obtain ⟨a1, ha1⟩ : ∃ a, xs[1]? = some a := ⟨xs[1]'(by omega), List.getElem?_eq_getElem _⟩
  obtain ⟨a2, ha2⟩ : ∃ a, xs[2]? = some a := ⟨xs[2]'(by omega), List.getElem?_eq_getElem _⟩
  rw [ha0] at k0
  rw [ha1] at k1
  rw [ha2] at k2
  obtain ⟨x1, s1, n1, rfl, rfl, rfl, h1⟩ := dec_cells k0
  obtain ⟨x2, s2, n2, rfl, rfl, rfl, h2⟩ := dec_cells k1
  obtain ⟨x3, s3, n3, rfl, rfl, rfl, h3⟩ := dec_cells k2
  exact ⟨x1, s1, n1, x2, s2, n2, x3, s3, n3, rfl, h1, h2, h3⟩

/-- A block of nine cells, laid first. -/
def Nine (w0 : World) (a b c d e f g h i : Value) (w : World) : Prop :=
  Below w0.heap.size w0 w ∧ w0.heap.size < w.heap.size ∧ (w.cell? ⟨w0.heap.size, 0, none⟩ = some a ∧ w.cell? ⟨w0.heap.size, 1, none⟩ = some b ∧ w.cell? ⟨w0.heap.size, 2, none⟩ = some c) ∧ (w.cell? ⟨w0.heap.size, 3, none⟩ = some d ∧ w.cell? ⟨w0.heap.size, 4, none⟩ = some e ∧ w.cell? ⟨w0.heap.size, 5, none⟩ = some f) ∧ (w.cell? ⟨w0.heap.size, 6, none⟩ = some g ∧ w.cell? ⟨w0.heap.size, 7, none⟩ = some h ∧ w.cell? ⟨w0.heap.size, 8, none⟩ = some i)
theorem Nine.start (w : World) (a b c d e f g h i : Value) (t : Nat) : Nine w a b c d e f g h i (w.alloc (.cells #[a, b, c, d, e, f, g, h, i] t)) :=
  ⟨(Below.refl _ _).alloc (Nat.le_refl _) _, by simp, ⟨by go_simp, by go_simp, by go_simp⟩, ⟨by go_simp, by go_simp, by go_simp⟩, ⟨by go_simp, by go_simp, by go_simp⟩⟩
theorem Nine.next {w0 w w' : World} {a b c d e f g h i : Value} (H : Nine w0 a b c d e f g h i w) (hb : Below w.heap.size w w') : Nine w0 a b c d e f g h i w' := by
  obtain ⟨h0, hs, ⟨h1, h2, h3⟩, ⟨h4, h5, h6⟩, ⟨h7, h8, h9⟩⟩ := H
  obtain ⟨hc, _⟩ := bcell hb
  exact ⟨h0.trans (hb.mono (by omega)), Nat.lt_of_lt_of_le hs hb.size, ⟨by rw [hc _ _ hs]; exact h1, by rw [hc _ _ hs]; exact h2, by rw [hc _ _ hs]; exact h3⟩, ⟨by rw [hc _ _ hs]; exact h4, by rw [hc _ _ hs]; exact h5, by rw [hc _ _ hs]; exact h6⟩, ⟨by rw [hc _ _ hs]; exact h7, by rw [hc _ _ hs]; exact h8, by rw [hc _ _ hs]; exact h9⟩⟩
/-- The order of whole numbers. -/
theorem ofInt_cmp (x y : Int) (hx : x.natAbs < 18446744073709551616) (hy : y.natAbs < 18446744073709551616) : cmpD (Dm.ofInt x).ng (Dm.ofInt x).ds 0 (Dm.ofInt y).ng (Dm.ofInt y).ds 0 = if x < y then -1 else if y < x then 1 else 0 := by
  have h := cmpD_sg (a := Dm.ofInt x) (b := Dm.ofInt y) (Dm.ofInt_may x hx) (Dm.ofInt_may y hy)
  rw [Dm.ofInt_sg, Dm.ofInt_sg] at h
  have e : cmpD (Dm.ofInt x).ng (Dm.ofInt x).ds (Dm.ofInt x).sc (Dm.ofInt y).ng (Dm.ofInt y).ds (Dm.ofInt y).sc = cmpD (Dm.ofInt x).ng (Dm.ofInt x).ds 0 (Dm.ofInt y).ng (Dm.ofInt y).ds 0 := rfl
  rw [← e, h, show (Dm.ofInt y).sc = 0 from rfl, show (Dm.ofInt x).sc = 0 from rfl, Dm.p10_zero, Int.mul_one, Int.mul_one]
  unfold sgI
  by_cases g : x < y
  · rw [if_pos (by omega), if_pos g]
  · by_cases g2 : y < x
    · rw [if_neg (by omega), if_pos (by omega), if_neg g, if_pos g2]
    · rw [if_neg (by omega), if_neg (by omega), if_neg g, if_neg g2]
end Go.Proofs.YtijelgmmmceflaaDoor
