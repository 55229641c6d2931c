/- What is proved here: what the rows of layer 7 want besides their walks: a world in which the listed tables lie, and the two errors; a row of steps opened; conditions: none. -/
import Derived.Test.YtnagecbepidfiaaGreatDoorCards
import Derived.Test.YtnagecbepidfiaaGreatDoorTie
import Derived.WalkKit
import Derived.ProofKit
import Derived.OpenShut
import Derived.ShutString
import Derived.Deep.DeepHandedRow
import Derived.Deep.Slices
import Derived.SliceStrings
import Derived.SizedLaws
import Derived.Lib.LaidTab
import Derived.Lib.LaidU8T
import Derived.Lib.SmallJoins
import Derived.Test.YtnagecbepidfiaaGreatDoorBc
import Derived.Test.YtnagecbepidfiaaGreatDoorAc
import Derived.Test.YtnagecbepidfiaaGreatDoorBe
namespace Go.Proofs.YtnagecbepidfiaaGreatDoor.Np
set_option maxRecDepth 100000
open Go.ChangeShapes Go.WideShapes Go.ChangeAt Go.RowKit Go.Joins Go.Deep
open Go.ChangeMaps (open_string shut_string)
set_option linter.unusedVariables false
set_option linter.unusedSimpArgs false

theorem own : ownKnob Tryz.prog.godebug = none := by kernel_rfl
theorem laidOut : laidOutB Tryz.prog = true := by kernel_rfl
def tab1 : List Int := [1, 10, 100, 1000, 10000, 100000, 1000000, 10000000, 100000000, 1000000000, 10000000000, 100000000000, 1000000000000, 10000000000000, 100000000000000, 1000000000000000, 10000000000000000, 100000000000000000, 1000000000000000000, 10000000000000000000]
def tab3 : List Int := [128, 191, 160, 191, 128, 159, 144, 191, 128, 143, 0, 0, 0, 0, 0, 0, 0, 0, 0, 0, 0, 0, 0, 0, 0, 0, 0, 0, 0, 0, 0, 0]
def tab4 : List Int := [0, 1, 28, 2, 29, 14, 24, 3, 30, 22, 20, 15, 25, 17, 4, 8, 31, 27, 13, 23, 21, 19, 16, 7, 26, 12, 18, 6, 11, 5, 10, 9]
def tab5 : List Int := [0, 1, 56, 2, 57, 49, 28, 3, 61, 58, 42, 50, 38, 29, 17, 4, 62, 47, 59, 36, 45, 43, 51, 22, 53, 39, 33, 30, 24, 18, 12, 5, 63, 55, 48, 27, 60, 41, 37, 16, 46, 35, 44, 21, 52, 32, 23, 11, 54, 26, 40, 15, 34, 20, 31, 10, 25, 14, 19, 9, 13, 8, 7, 6]
def putRow (h : Array Obj) (g : Nat) (cs : Array Value) : Array Obj := h.modify g fun
  | .cells _ t frozen => .cells cs t frozen
  | o => o
def sRange : ByteArray := ⟨#[118, 97, 108, 117, 101, 32, 111, 117, 116, 32, 111, 102, 32, 114, 97, 110, 103, 101]⟩
def sSyntax : ByteArray := ⟨#[105, 110, 118, 97, 108, 105, 100, 32, 115, 121, 110, 116, 97, 120]⟩
/-- The settled world, the listed variables holding what their initialisers lay. -/
def tabWorld (w0 : World) : World :=
  { w0 with heap := ((putRow (putRow (putRow (putRow (putRow (putRow (putRow w0.heap 3 (tab1.map fun z => Value.int .u64 z).toArray) 0 (Go.Pinned.utf8FirstZ.map fun (z : Nat) => Value.int .u8 (z : Int)).toArray) 1 (tab3.map fun z => Value.int .u8 z).toArray) 6 (tab4.map fun z => Value.int .u8 z).toArray) 7 (tab5.map fun z => Value.int .u8 z).toArray)
    5 #[.iface 183 (.pointer (some ⟨w0.heap.size, 0, none⟩))]) 4 #[.iface 183 (.pointer (some ⟨w0.heap.size + 1, 0, none⟩))]).push (.cells #[.string sRange] 185)).push (.cells #[.string sSyntax] 185) }

theorem u8x : U8Extra Tryz.prog Tryz.laysQ_ren := {
  n3 := by kernel_rfl
  n4 := by kernel_rfl
  y3 := by kernel_rfl
  y4 := by kernel_rfl
  c5 := by kernel_rfl
  c119 := by kernel_rfl
  c138 := by kernel_rfl }
theorem first_is : (Rows.laid_unicode_utf8_first : DataW Unit) = Lib.firstData := by kernel_rfl
theorem accept_is : (Rows.laid_unicode_utf8_acceptRanges : DataW Unit) = Lib.acceptData := by kernel_rfl
theorem tab_u8 {W : World} {l : List (String × DataW Unit)} (h : laidMet Tryz.prog l W) (h4 : ("unicode/utf8.acceptRanges", (Rows.laid_unicode_utf8_acceptRanges : DataW Unit)) ∈ l)
    (h3 : ("unicode/utf8.first", (Rows.laid_unicode_utf8_first : DataW Unit)) ∈ l) : Tabs W := by
  have r3 := Lib.laidMet.reads h h3
  have r4 := Lib.laidMet.reads h h4
  rw [first_is] at r3
  rw [accept_is] at r4
  exact utf8Tabs_of_readsT (U8Types.of196 Tryz.laysQ196) u8x r3 r4

theorem slice_of {P : Program} {r : Reach} {b : Nat} {W : World} {t e : TypeId} {v : Value} {a : Option Addr} {n c : Nat} (ht : P.underlying t = some (.slice e)) (hv : Value.okWide P W r b t v) (h : v.cells.toList = [.slice a n c]) : v = .slice a n c := by
  simp only [Value.okWide, ht, Cell.okWide] at hv
  cases v <;> simp_all [Cell.ok, Value.cells]
theorem add_at (b o i j : Nat) : ((⟨b, o, none⟩ : Addr).add i).add j = ⟨b, o + i + j, none⟩ := by
  unfold Addr.add
  by_cases h1 : i = 0 <;> by_cases h2 : j = 0 <;> simp [h1, h2]
theorem stepc : Tryz.prog.cellsOf 57 = 3 := by kernel_rfl
set_option maxRecDepth 100000 in
/-- A row of steps among the arguments. -/
theorem open_steps {H : Type} {enc : TypeId × Value → H} {W : World} {base : Nat} {spare : Nat → Bool} {held : Bool} {r : Reach} {b0 : Nat} {v : Value} {d : DataW H} {ps : List MemPlace}
    (hval : Value.okWide Tryz.prog W r b0 52 v) (h : DataW.Trod enc Tryz.prog W base spare held 52 v d ps) :
    ∃ a n c L, v = .slice a n c ∧ n ≤ 9223372036854775807 ∧ StepsIn W a n L := by
  obtain ⟨fuel, hf⟩ := h
  rcases open_slice Tryz.underlying52 hf with ⟨hcs, _⟩ | ⟨a, len, cap, m, n, D, Pl, hcs, hb, hl, hm, hmm, hd, hx⟩
  · exact ⟨none, 0, 0, [], slice_of Tryz.underlying52 hval hcs, by omega, rfl, .inl rfl⟩
  have hlm : len ≤ m := by rw [hmm]; split <;> omega
  have hlen : len ≤ 9223372036854775807 := by
    have : len ≤ maxLen := by omega
    unfold maxLen at this; omega
  by_cases h0 : len = 0
  · exact ⟨some a, len, cap, [], slice_of Tryz.underlying52 hval hcs, hlen, h0.symm, .inl h0⟩
  have hspot : a.spot = none := by
    obtain ⟨cs0, q1, _⟩ := hx 0 (by omega)
    rw [stepc] at q1
    obtain ⟨_, q2, q3⟩ := World.cells?_some q1
    have q4 := q3 0 (by omega)
    rw [List.getElem?_eq_getElem (by omega)] at q4
    simpa [Addr.add] using World.cell?_spot q4
  obtain ⟨b, o, sp⟩ := a
  obtain rfl : sp = none := hspot
  have each : ∀ i, i < len → ∃ t, StepAt W b (o + i * 3) t := by
    intro i hi
    obtain ⟨cs', h1, h2⟩ := hx i (by omega)
    rw [stepc] at h1
    obtain ⟨hbb, hlen, hcell⟩ := World.cells?_some h1
    obtain ⟨xs, k, rfl, hxx, hcl, hxl, hf⟩ := DataW.trod_struct Tryz.underlying57 h2
    match cs', hlen with
    | [x0, x1, x2], _ =>
      match xs, hxl with
      | [y0, y1, y2], _ =>
        have c3 : Tryz.prog.cellsOf 3 = 1 := by kernel_rfl
        have c9 : Tryz.prog.cellsOf 9 = 1 := by kernel_rfl
        have f0 := hf 0 _ rfl
        have f1 := hf 1 _ rfl
        have f2 := hf 2 _ rfl
        simp only [c3, c9, List.drop_succ_cons, List.drop_zero, List.take_succ_cons, List.take_zero, List.getElem?_cons_zero, List.getElem?_cons_succ] at f0 f1 f2
        have g0 := hcell 0 (by omega)
        have g1 := hcell 1 (by omega)
        have g2 := hcell 2 (by omega)
        simp only [List.getElem?_cons_zero, List.getElem?_cons_succ] at g0 g1 g2
        obtain ⟨z0, e0, _, _⟩ := DataW.trod_int Tryz.underlying3 f0
        obtain ⟨s1, e1, _, _⟩ := DataW.trod_string Tryz.underlying9 f1
        obtain ⟨z2, e2, _, _⟩ := DataW.trod_int Tryz.underlying3 f2
        obtain rfl := (List.cons.inj e0).1
        obtain rfl := (List.cons.inj e1).1
        obtain rfl := (List.cons.inj e2).1
        simp only [add_at, Nat.add_zero] at g0 g1 g2
        exact ⟨⟨z0, s1, z2⟩, g0, g1, g2⟩
  have hbl : b < W.heap.size := by
    obtain ⟨t, h1, _⟩ := each 0 (by omega)
    exact World.block_lt_of_cell? W _ h1
  obtain ⟨f, hf2⟩ : ∃ f : Nat → Pm.St, ∀ i, i < len → StepAt W b (o + i * 3) (f i) := by
    refine ⟨fun i => if h : i < len then Classical.choose (each i h) else ⟨0, Pm.nul, 0⟩, fun i hi => ?_⟩
    dsimp only
    rw [dif_pos hi]
    exact Classical.choose_spec (each i hi)
  refine ⟨some ⟨b, o, none⟩, len, cap, (List.range len).map f, slice_of Tryz.underlying52 hval hcs, hlen, by simp, .inr ⟨b, o, rfl, hbl, fun i hi => ?_⟩⟩
  rw [List.getElem_map, List.getElem_range]
  exact hf2 i (by simpa using hi)
end Go.Proofs.YtnagecbepidfiaaGreatDoor.Np
