/- What is proved here: what the rows of layer 6 want besides their walks: rows of texts and arrays of masks among the arguments, opened; conditions: none. -/
import Derived.Test.YtebmmnfjkckffaaRows
import Derived.WalkKit
import Derived.ProofKit
import Derived.OpenShut
import Derived.ShutString
import Derived.SliceStrings
import Derived.Deep.DeepHandedRow
import Derived.Lib.SmallJoins
import Derived.Test.YtebmmnfjkckffaaCe
namespace Go.Proofs.Ytebmmnfjkckffaa
open Go.ChangeShapes Go.WideShapes Go.ChangeAt Go.RowKit Go.Joins
open Go.ChangeMaps (open_string shut_string)
set_option linter.unusedVariables false
set_option linter.unusedSimpArgs false

theorem own : ownKnob Try.prog.godebug = none := by kernel_rfl
theorem laidOut : laidOutB Try.prog = true := by kernel_rfl
/-- The settled world, as it is. -/
def tabWorld (w0 : World) : World := w0

theorem slice_of {P : Program} {r : Reach} {b : Nat} {W : World} {t e : TypeId} {v : Value} {a : Option Addr} {n c : Nat} (ht : P.underlying t = some (.slice e)) (hv : Value.okWide P W r b t v) (h : v.cells.toList = [.slice a n c]) : v = .slice a n c := by
  simp only [Value.okWide, ht, Cell.okWide] at hv
  cases v <;> simp_all [Cell.ok, Value.cells]
theorem cells9 : Try.prog.cellsOf 9 = 1 := by kernel_rfl
theorem cell_lt {w : World} {b o : Nat} {v : Value} (h : w.cell? ⟨b, o, none⟩ = some v) : b < w.heap.size := by
  rcases Nat.lt_or_ge b w.heap.size with g | g
  · exact g
  · unfold World.cell? at h
    rw [Array.getElem?_eq_none g] at h
    cases h
set_option maxRecDepth 100000 in
/-- A row of texts among the arguments. -/
theorem open_strs {H : Type} {enc : TypeId × Value → H} {W : World} {base : Nat} {spare : Nat → Bool} {held : Bool} {r : Reach} {b0 : Nat} {v : Value} {d : DataW H} {ps : List MemPlace}
    (hval : Value.okWide Try.prog W r b0 22 v) (h : DataW.Trod enc Try.prog W base spare held 22 v d ps) : ∃ a n c ss, v = .slice a n c ∧ n ≤ 9223372036854775807 ∧ StrsIn W a n ss := by
  obtain ⟨fuel, hf⟩ := h
  rcases open_strings Try.underlying22 Try.underlying9 cells9 hf with ⟨hcs, _⟩ | ⟨a, len, cap, ss, hcs, hb, hl, hm, hz, _, hcell, hsz⟩
  · exact ⟨none, 0, 0, [], slice_of Try.underlying22 hval hcs, by omega, rfl, .inl rfl⟩
  · have hlen : len ≤ ss.length := by rw [hz]; split <;> omega
    refine ⟨some a, len, cap, ss.take len, slice_of Try.underlying22 hval hcs, by unfold maxLen at hm; omega, by rw [List.length_take]; omega, ?_⟩
    rcases Nat.eq_zero_or_pos len with h0 | h0
    · exact .inl h0
    · have h1 := hcell 0 (by omega)
      have hspot : a.spot = none := by simpa [Addr.add] using World.cell?_spot h1
      obtain ⟨b, o, sp⟩ := a
      obtain rfl : sp = none := hspot
      have add_one : ∀ i, (⟨b, o, none⟩ : Addr).add i = ⟨b, o + i, none⟩ := fun i => by
        unfold Addr.add
        by_cases h1 : i = 0 <;> simp [h1]
      rw [add_one] at h1
      refine .inr ⟨b, o, rfl, cell_lt h1, fun i hi => ?_⟩
      rw [List.length_take] at hi
      have h2 := hcell i (by omega)
      rw [add_one] at h2
      rw [h2, List.getElem_take, List.getD, List.getElem?_eq_getElem (by omega)]
      rfl
theorem u64_range {z : Int} (h : (Lit.int .u64 z).wf = true) : ∃ c : Nat, z = (c : Int) ∧ c < 18446744073709551616 := by
  simp [Lit.wf] at h
  have m0 : IntKind.u64.min = 0 := by kernel_rfl
  have m1 : IntKind.u64.max = 18446744073709551615 := by kernel_rfl
  rw [m0, m1] at h
  exact ⟨z.toNat, by omega, by omega⟩
theorem array2 {α : Type} {cs : Array α} (h : cs.size = 2) : ∃ c0 c1, cs = #[c0, c1] := by
  obtain ⟨l⟩ := cs
  match l, h with
  | [c0, c1], _ => exact ⟨c0, c1, rfl⟩
theorem array3 {α : Type} {cs : Array α} (h : cs.size = 3) : ∃ c0 c1 c2, cs = #[c0, c1, c2] := by
  obtain ⟨l⟩ := cs
  match l, h with
  | [c0, c1, c2], _ => exact ⟨c0, c1, c2, rfl⟩
theorem cellsU : Try.prog.cellsOf 23 = 1 := by kernel_rfl
theorem u64_cell {H : Type} {enc : TypeId × Value → H} {W : World} {base : Nat} {spare : Nat → Bool} {held : Bool} {m : Nat} {c : Value} {x : DataW H × List MemPlace} (h : DataW.trod enc Try.prog W base spare held m 23 [c] = some x) :
    ∃ k : Nat, c = .int .u64 (k : Int) ∧ k < 18446744073709551616 := by
  obtain ⟨z, hz, _, hw⟩ := DataW.trod_int Try.underlying23 h
  obtain ⟨k, rfl, hk⟩ := u64_range hw
  exact ⟨k, by simpa using hz, hk⟩
set_option maxRecDepth 100000 in
theorem open_u64x2 {H : Type} {enc : TypeId × Value → H} {W : World} {base base' : Nat} {v : Value} {d : DataW H} {p : List MemPlace} {spare : Nat → Bool} {held : Bool} (hv : Value.okWide Try.prog W .any base 24 v) (h : DataW.Trod enc Try.prog W base' spare held 24 v d p) :
    ∃ a b : Nat, v = .agg #[.int .u64 (a : Int), .int .u64 (b : Int)] ∧ a < 18446744073709551616 ∧ b < 18446744073709551616 := by
  simp only [Value.okWide, Try.underlying24] at hv
  obtain ⟨cs, rfl, hsz, _⟩ := hv
  have e2 : Try.prog.cellsOf 24 = 2 := by kernel_rfl
  rw [e2] at hsz
  obtain ⟨c0, c1, rfl⟩ : ∃ c0 c1, cs = #[c0, c1] := array2 hsz
  obtain ⟨fuel, hf⟩ := h
  obtain ⟨xs, m, _, _, _, hxl, hall⟩ := DataW.trod_array Try.underlying24 hf
  have k0 := hall 0 (by omega)
  have k1 := hall 1 (by omega)
  simp only [Value.cells, cellsU, Nat.zero_mul, Nat.one_mul, List.drop_zero, List.drop_succ_cons, List.take_succ_cons, List.take_zero] at k0 k1
  obtain ⟨a0, ha0⟩ : ∃ a, xs[0]? = some a := ⟨xs[0]'(by omega), List.getElem?_eq_getElem _⟩
  obtain ⟨a1, ha1⟩ : ∃ a, xs[1]? = some a := ⟨xs[1]'(by omega), List.getElem?_eq_getElem _⟩
  rw [ha0] at k0
  rw [ha1] at k1
  obtain ⟨x0, rfl, h0⟩ := u64_cell k0
  obtain ⟨x1, rfl, h1⟩ := u64_cell k1
  exact ⟨x0, x1, rfl, h0, h1⟩
set_option maxRecDepth 100000 in
theorem open_u64x3 {H : Type} {enc : TypeId × Value → H} {W : World} {base base' : Nat} {v : Value} {d : DataW H} {p : List MemPlace} {spare : Nat → Bool} {held : Bool} (hv : Value.okWide Try.prog W .any base 37 v) (h : DataW.Trod enc Try.prog W base' spare held 37 v d p) :
    ∃ a b c : Nat, v = .agg #[.int .u64 (a : Int), .int .u64 (b : Int), .int .u64 (c : Int)] ∧ a < 18446744073709551616 ∧ b < 18446744073709551616 ∧ c < 18446744073709551616 := by
  simp only [Value.okWide, Try.underlying37] at hv
  obtain ⟨cs, rfl, hsz, _⟩ := hv
  have e3 : Try.prog.cellsOf 37 = 3 := by kernel_rfl
  rw [e3] at hsz
  obtain ⟨c0, c1, c2, rfl⟩ : ∃ c0 c1 c2, cs = #[c0, c1, c2] := array3 hsz
  obtain ⟨fuel, hf⟩ := h
  obtain ⟨xs, m, _, _, _, hxl, hall⟩ := DataW.trod_array Try.underlying37 hf
  have k0 := hall 0 (by omega)
  have k1 := hall 1 (by omega)
  have k2 := hall 2 (by omega)
  simp only [Value.cells, cellsU, Nat.zero_mul, Nat.one_mul, Nat.reduceMul, List.drop_zero, List.drop_succ_cons, List.take_succ_cons, List.take_zero] at k0 k1 k2
  obtain ⟨a0, ha0⟩ : ∃ a, xs[0]? = some a := ⟨xs[0]'(by omega), List.getElem?_eq_getElem _⟩
  obtain ⟨a1, ha1⟩ : ∃ a, xs[1]? = some a := ⟨xs[1]'(by omega), List.getElem?_eq_getElem _⟩
  obtain ⟨a2, ha2⟩ : ∃ a, xs[2]? = some a := ⟨xs[2]'(by omega), List.getElem?_eq_getElem _⟩
  rw [ha0] at k0
  rw [ha1] at k1
  rw [ha2] at k2
  obtain ⟨x0, rfl, h0⟩ := u64_cell k0
  obtain ⟨x1, rfl, h1⟩ := u64_cell k1
  obtain ⟨x2, rfl, h2⟩ := u64_cell k2
  exact ⟨x0, x1, x2, rfl, h0, h1, h2⟩
end Go.Proofs.Ytebmmnfjkckffaa
