/- What is proved here: what the rows of layer 7 want besides their walks: a world in which the listed tables lie, and the two errors; a row of steps opened; conditions: none. -/
import Derived.Test.YtnagecbepidfiaaGreatDoorCards
import Derived.Test.YtnagecbepidfiaaGreatDoorTie
import Derived.WalkKit
import Derived.ProofKit
import Derived.OpenShut
import Derived.ShutString
import Derived.Deep.DeepHandedRow
import Derived.Deep.Slices
import Derived.SliceStrings
import Derived.SizedLaws
import Derived.Lib.LaidTab
import Derived.Lib.LaidU8T
import Derived.Lib.SmallJoins
import Derived.Test.YtnagecbepidfiaaGreatDoorZBc
import Derived.Test.YtnagecbepidfiaaGreatDoorZAc
import Derived.Test.YtnagecbepidfiaaGreatDoorZBe
import Derived.Stop.LaidErr
import Derived.Test.YtnagecbepidfiaaGreatDoorZHd
import Derived.Test.YtnagecbepidfiaaGreatDoorZDf
namespace Go.Proofs.YtnagecbepidfiaaGreatDoor.Np
set_option maxRecDepth 100000
open Go.ChangeShapes Go.WideShapes Go.ChangeAt Go.RowKit Go.Joins Go.Deep
open Go.ChangeMaps (open_string shut_string)
set_option linter.unusedVariables false
set_option linter.unusedSimpArgs false

theorem own : ownKnob Tryz.prog.godebug = none := by kernel_rfl
theorem laidOut : laidOutB Tryz.prog = true := by kernel_rfl
def tab1 : List Int := [1, 10, 100, 1000, 10000, 100000, 1000000, 10000000, 100000000, 1000000000, 10000000000, 100000000000, 1000000000000, 10000000000000, 100000000000000, 1000000000000000, 10000000000000000, 100000000000000000, 1000000000000000000, 10000000000000000000]
def tab3 : List Int := [128, 191, 160, 191, 128, 159, 144, 191, 128, 143, 0, 0, 0, 0, 0, 0, 0, 0, 0, 0, 0, 0, 0, 0, 0, 0, 0, 0, 0, 0, 0, 0]
def tab4 : List Int := [0, 1, 28, 2, 29, 14, 24, 3, 30, 22, 20, 15, 25, 17, 4, 8, 31, 27, 13, 23, 21, 19, 16, 7, 26, 12, 18, 6, 11, 5, 10, 9]
def tab5 : List Int := [0, 1, 56, 2, 57, 49, 28, 3, 61, 58, 42, 50, 38, 29, 17, 4, 62, 47, 59, 36, 45, 43, 51, 22, 53, 39, 33, 30, 24, 18, 12, 5, 63, 55, 48, 27, 60, 41, 37, 16, 46, 35, 44, 21, 52, 32, 23, 11, 54, 26, 40, 15, 34, 20, 31, 10, 25, 14, 19, 9, 13, 8, 7, 6]
def putRow (h : Array Obj) (g : Nat) (cs : Array Value) : Array Obj := h.modify g fun
  | .cells _ t frozen => .cells cs t frozen
  | o => o
def sRange : ByteArray := ⟨#[118, 97, 108, 117, 101, 32, 111, 117, 116, 32, 111, 102, 32, 114, 97, 110, 103, 101]⟩
def sSyntax : ByteArray := ⟨#[105, 110, 118, 97, 108, 105, 100, 32, 115, 121, 110, 116, 97, 120]⟩
/-- The settled world, the listed variables holding what their initialisers lay. -/
def tabWorld (w0 : World) : World :=
  { w0 with heap := ((putRow (putRow (putRow (putRow (putRow (putRow (putRow w0.heap 3 (tab1.map fun z => Value.int .u64 z).toArray) 0 (Go.Pinned.utf8FirstZ.map fun (z : Nat) => Value.int .u8 (z : Int)).toArray) 1 (tab3.map fun z => Value.int .u8 z).toArray) 6 (tab4.map fun z => Value.int .u8 z).toArray) 7 (tab5.map fun z => Value.int .u8 z).toArray)
    5 #[.iface 183 (.pointer (some ⟨w0.heap.size, 0, none⟩))]) 4 #[.iface 183 (.pointer (some ⟨w0.heap.size + 1, 0, none⟩))]).push (.cells #[.string sRange] 185)).push (.cells #[.string sSyntax] 185) }

theorem u8x : U8Extra Tryz.prog Tryz.laysQ_ren := {
  n3 := by kernel_rfl
  n4 := by kernel_rfl
  y3 := by kernel_rfl
  y4 := by kernel_rfl
  c5 := by kernel_rfl
  c119 := by kernel_rfl
  c138 := by kernel_rfl }
theorem first_is : (Rows.laid_unicode_utf8_first : DataW Unit) = Lib.firstData := by kernel_rfl
theorem accept_is : (Rows.laid_unicode_utf8_acceptRanges : DataW Unit) = Lib.acceptData := by kernel_rfl
theorem tab_u8 {W : World} {l : List (String × DataW Unit)} (h : laidMet Tryz.prog l W) (h4 : ("unicode/utf8.acceptRanges", (Rows.laid_unicode_utf8_acceptRanges : DataW Unit)) ∈ l)
    (h3 : ("unicode/utf8.first", (Rows.laid_unicode_utf8_first : DataW Unit)) ∈ l) : Tabs W := by
  have r3 := Lib.laidMet.reads h h3
  have r4 := Lib.laidMet.reads h h4
  rw [first_is] at r3
  rw [accept_is] at r4
  exact utf8Tabs_of_readsT (U8Types.of196 Tryz.laysQ196) u8x r3 r4

theorem slice_of {P : Program} {r : Reach} {b : Nat} {W : World} {t e : TypeId} {v : Value} {a : Option Addr} {n c : Nat} (ht : P.underlying t = some (.slice e)) (hv : Value.okWide P W r b t v) (h : v.cells.toList = [.slice a n c]) : v = .slice a n c := by
  simp only [Value.okWide, ht, Cell.okWide] at hv
  cases v <;> simp_all [Cell.ok, Value.cells]
theorem add_at (b o i j : Nat) : ((⟨b, o, none⟩ : Addr).add i).add j = ⟨b, o + i + j, none⟩ := by
  unfold Addr.add
  by_cases h1 : i = 0 <;> by_cases h2 : j = 0 <;> simp [h1, h2]
theorem stepc : Tryz.prog.cellsOf 57 = 3 := by kernel_rfl
end Go.Proofs.YtnagecbepidfiaaGreatDoor.Np
/- What is proved here: the two errors of strconv lie in a world that the rows ask for; conditions: none. -/
namespace Go.Proofs.YtnagecbepidfiaaGreatDoor.Np
set_option maxRecDepth 100000
open Go.RowKit
set_option linter.unusedVariables false

theorem laidMet_tail {P : Program} {x : String × DataW Unit} {l : List (String × DataW Unit)} {W : World} (h : laidMet P (x :: l) W) : laidMet P l W := by
  obtain ⟨ps, h1, h2, h3⟩ := h
  simp only [DataW.LaidVars] at h1
  obtain ⟨g, t, cs, fuel, p, q, _, _, _, _, h5, rfl⟩ := h1
  exact ⟨q, h5, (List.nodup_append.1 h2).2.1, fun b off hm => h3 b off (by simp [hm])⟩
theorem laidMet_mem {P : Program} {x : String × DataW Unit} {W : World} : ∀ {l : List (String × DataW Unit)}, laidMet P l W → x ∈ l → ∃ r, laidMet P (x :: r) W
  | [], _, hm => by cases hm
  | y :: l, h, hm => by
    rcases List.mem_cons.1 hm with rfl | hm
    · exact ⟨l, h⟩
    · exact laidMet_mem (laidMet_tail h) hm
theorem err_ty (u : TypeId) (h : Tryz.prog.typeName? 3 u = some "*errors.errorString") : u = 183 :=
  typeName_ptr_named (nm := "errors.errorString") (by kernel_rfl) (by kernel_rfl) (by decide) u h
theorem cell_of_var {P : Program} {W : World} {n : String} {g : Nat} {v : Value} (hg : P.globalNamed n = some g) (h : World.var? P W n = some #[v]) : W.cell? ⟨g, 0, none⟩ = some v := by
  unfold World.var? at h
  rw [hg] at h
  simp only [Option.bind_some] at h
  split at h
  · rename_i cs t f e
    obtain rfl := Option.some.inj h
    simp [World.cell?, e]
  · cases h
theorem tab_errs {W : World} {l : List (String × DataW Unit)} (h : laidMet Tryz.prog l W) (h4 : ("strconv.ErrRange", (Rows.laid_strconv_ErrRange : DataW Unit)) ∈ l)
    (h5 : ("strconv.ErrSyntax", (Rows.laid_strconv_ErrSyntax : DataW Unit)) ∈ l) : Errs W := by
  obtain ⟨r4, q4⟩ := laidMet_mem h h4
  obtain ⟨r5, q5⟩ := laidMet_mem h h5
  obtain ⟨a4, s4, v4, _⟩ := laid_sentinel (g := 5) (ti := 83) (tp := 183) (te := 185) (ts := 9) q4 (by kernel_rfl) (by kernel_rfl) Tryz.underlying83 err_ty Tryz.underlying183 Tryz.underlying185 rfl rfl Tryz.underlying9 (by kernel_rfl) (by kernel_rfl)
  obtain ⟨a5, s5, v5, _⟩ := laid_sentinel (g := 4) (ti := 83) (tp := 183) (te := 185) (ts := 9) q5 (by kernel_rfl) (by kernel_rfl) Tryz.underlying83 err_ty Tryz.underlying183 Tryz.underlying185 rfl rfl Tryz.underlying9 (by kernel_rfl) (by kernel_rfl)
  exact ⟨⟨_, _, cell_of_var (by kernel_rfl) v5⟩, ⟨_, _, cell_of_var (by kernel_rfl) v4⟩⟩
end Go.Proofs.YtnagecbepidfiaaGreatDoor.Np
/- What is proved here: PolicyBack, walked: for every policy, every text and every place that come in the law returns true and leaves them; conditions: the tables and the two errors lie, the policy lies. -/
namespace Go.Proofs.YtnagecbepidfiaaGreatDoor.Pol
set_option maxRecDepth 100000
open Go.RowKit Go.Proofs.YtnagecbepidfiaaGreatDoor.Nc Go.Proofs.YtnagecbepidfiaaGreatDoor.Np Go.Proofs.YtnagecbepidfiaaGreatDoor.Nq
set_option linter.unusedVariables false
set_option linter.unusedSimpArgs false

theorem Bnd.paths8 {p : Po} (h : Bnd p) : ∀ m ∈ p.marks, m.path.length ≤ 1000 := fun m hm => by have := h.paths m hm; omega
theorem Ok.paths8 {p : Po} (h : Ok p) : ∀ m ∈ p.marks, m.path.length ≤ 1000 := fun m hm => by have := (Np.mayE_len (h.marks m hm).1).1; omega
end Go.Proofs.YtnagecbepidfiaaGreatDoor.Pol
/- What is proved here: a policy among the arguments, opened; conditions: none. -/
namespace Go.Proofs.YtnagecbepidfiaaGreatDoor.Pol
set_option maxRecDepth 100000
open Go.ChangeShapes Go.WideShapes Go.ChangeAt Go.RowKit Go.Joins Go.Deep Go.Proofs.YtnagecbepidfiaaGreatDoor.Nc Go.Proofs.YtnagecbepidfiaaGreatDoor.Np Go.Proofs.YtnagecbepidfiaaGreatDoor.Nq
set_option linter.unusedVariables false
set_option linter.unusedSimpArgs false

theorem cells9p : Tryz.prog.cellsOf 9 = 1 := by kernel_rfl
theorem cellsUp : Tryz.prog.cellsOf 37 = 1 := by kernel_rfl
theorem cells3p : Tryz.prog.cellsOf 3 = 1 := by kernel_rfl
theorem cellsM1 : Tryz.prog.cellsOf 59 = 2 := by kernel_rfl
theorem cellsS1 : Tryz.prog.cellsOf 52 = 1 := by kernel_rfl
theorem cellsM2 : Tryz.prog.cellsOf 23 = 1 := by kernel_rfl
theorem cellsT1 : Tryz.prog.cellsOf 22 = 1 := by kernel_rfl
theorem u64_rng {z : Int} (h : (Lit.int .u64 z).wf = true) : ∃ c : Nat, z = (c : Int) ∧ c < 18446744073709551616 := by
  simp [Lit.wf] at h
  have m0 : IntKind.u64.min = 0 := by kernel_rfl
  have m1 : IntKind.u64.max = 18446744073709551615 := by kernel_rfl
  rw [m0, m1] at h
  exact ⟨z.toNat, by omega, by omega⟩
set_option maxRecDepth 100000 in
/-- A row of texts among the arguments. -/
theorem strs_cells {H : Type} {enc : TypeId × Value → H} {W : World} {base : Nat} {spare : Nat → Bool} {held : Bool} {fuel : Nat} {cs : List Value} {x : DataW H × List MemPlace}
    (hf : DataW.trod enc Tryz.prog W base spare held fuel 22 cs = some x) : ∃ a n c, ∃ L : List Tx, cs = [.slice a n c] ∧ TxIn W a n L := by
  rcases open_strings Tryz.underlying22 Tryz.underlying9 cells9p hf with ⟨hcs, _⟩ | ⟨a, len, cap, ss, hcs, hb, hl, hm, hz, _, hcell, hsz⟩
  · exact ⟨none, 0, 0, [], hcs, rfl, .inl rfl⟩
  · have hlen : len ≤ ss.length := by rw [hz]; split <;> omega
    refine ⟨some a, len, cap, (ss.take len).map (·.data.toList), hcs, by rw [List.length_map, List.length_take]; omega, ?_⟩
    rcases Nat.eq_zero_or_pos len with h0 | h0
    · exact .inl (by rw [List.length_map, List.length_take]; omega)
    · have h1 := hcell 0 (by omega)
      have hspot : a.spot = none := by simpa [Addr.add] using World.cell?_spot h1
      obtain ⟨b, o, sp⟩ := a
      obtain rfl : sp = none := hspot
      have add_one : ∀ i, (⟨b, o, none⟩ : Addr).add i = ⟨b, o + i, none⟩ := fun i => by
        unfold Addr.add
        by_cases h1 : i = 0 <;> simp [h1]
      rw [add_one] at h1
      refine .inr ⟨b, o, rfl, Np.cellLt h1, fun i hi => ?_⟩
      rw [List.length_map, List.length_take] at hi
      have h2 := hcell i (by omega)
      rw [add_one] at h2
      rw [h2, List.getElem_map, List.getElem_take, List.getD, List.getElem?_eq_getElem (by omega), tx_arr]
      rfl
set_option maxRecDepth 100000 in
/-- A row of steps among the arguments. -/
theorem steps_cells {H : Type} {enc : TypeId × Value → H} {W : World} {base : Nat} {spare : Nat → Bool} {held : Bool} {fuel : Nat} {cs : List Value} {x : DataW H × List MemPlace}
    (hf : DataW.trod enc Tryz.prog W base spare held fuel 52 cs = some x) :
    ∃ a n c L, cs = [.slice a n c] ∧ Np.StepsIn W a n L := by
  rcases open_slice Tryz.underlying52 hf with ⟨hcs, _⟩ | ⟨a, len, cap, m, n, D, Pl, hcs, hb, hl, hm, hmm, hd, hx⟩
  · exact ⟨none, 0, 0, [], hcs, rfl, .inl rfl⟩
  have hlm : len ≤ m := by rw [hmm]; split <;> omega
  have hlen : len ≤ 9223372036854775807 := by
    have : len ≤ maxLen := by omega
    unfold maxLen at this; omega
  by_cases h0 : len = 0
  · exact ⟨some a, len, cap, [], hcs, h0.symm, .inl h0⟩
  have hspot : a.spot = none := by
    obtain ⟨cs0, q1, _⟩ := hx 0 (by omega)
    rw [stepc] at q1
    obtain ⟨_, q2, q3⟩ := World.cells?_some q1
    have q4 := q3 0 (by omega)
    rw [List.getElem?_eq_getElem (by omega)] at q4
    simpa [Addr.add] using World.cell?_spot q4
  obtain ⟨b, o, sp⟩ := a
  obtain rfl : sp = none := hspot
  have each : ∀ i, i < len → ∃ t, StepAt W b (o + i * 3) t := by
    intro i hi
    obtain ⟨cs', h1, h2⟩ := hx i (by omega)
    rw [stepc] at h1
    obtain ⟨hbb, hlen, hcell⟩ := World.cells?_some h1
    obtain ⟨xs, k, rfl, hxx, hcl, hxl, hf⟩ := DataW.trod_struct Tryz.underlying57 h2
    match cs', hlen with
    | [x0, x1, x2], _ =>
      match xs, hxl with
      | [y0, y1, y2], _ =>
        have c3 : Tryz.prog.cellsOf 3 = 1 := by kernel_rfl
        have c9 : Tryz.prog.cellsOf 9 = 1 := by kernel_rfl
        have f0 := hf 0 _ rfl
        have f1 := hf 1 _ rfl
        have f2 := hf 2 _ rfl
        simp only [c3, c9, List.drop_succ_cons, List.drop_zero, List.take_succ_cons, List.take_zero, List.getElem?_cons_zero, List.getElem?_cons_succ] at f0 f1 f2
        have g0 := hcell 0 (by omega)
        have g1 := hcell 1 (by omega)
        have g2 := hcell 2 (by omega)
        simp only [List.getElem?_cons_zero, List.getElem?_cons_succ] at g0 g1 g2
        obtain ⟨z0, e0, _, _⟩ := DataW.trod_int Tryz.underlying3 f0
        obtain ⟨s1, e1, _, _⟩ := DataW.trod_string Tryz.underlying9 f1
        obtain ⟨z2, e2, _, _⟩ := DataW.trod_int Tryz.underlying3 f2
        obtain rfl := (List.cons.inj e0).1
        obtain rfl := (List.cons.inj e1).1
        obtain rfl := (List.cons.inj e2).1
        simp only [add_at, Nat.add_zero] at g0 g1 g2
        exact ⟨⟨z0, s1, z2⟩, g0, g1, g2⟩
  have hbl : b < W.heap.size := by
    obtain ⟨t, h1, _⟩ := each 0 (by omega)
    exact World.block_lt_of_cell? W _ h1
  obtain ⟨f, hf2⟩ : ∃ f : Nat → Pm.St, ∀ i, i < len → StepAt W b (o + i * 3) (f i) := by
    refine ⟨fun i => if h : i < len then Classical.choose (each i h) else ⟨0, Pm.nul, 0⟩, fun i hi => ?_⟩
    dsimp only
    rw [dif_pos hi]
    exact Classical.choose_spec (each i hi)
  refine ⟨some ⟨b, o, none⟩, len, cap, (List.range len).map f, hcs, by simp, .inr ⟨b, o, rfl, hbl, fun i hi => ?_⟩⟩
  rw [List.getElem_map, List.getElem_range]
  exact hf2 i (by simpa using hi)
/-- A mark in its place. -/
def MarkAt (W : World) (b p : Nat) (mk : Mk) : Prop := mk.mask < 18446744073709551616 ∧ ∃ a k c, W.cell? ⟨b, p, none⟩ = some (.slice a k c) ∧ W.cell? ⟨b, p + 1, none⟩ = some (.int .u64 (mk.mask : Int)) ∧ Np.StepsIn W a k mk.path
set_option maxRecDepth 100000 in
theorem marks_cells {H : Type} {enc : TypeId × Value → H} {W : World} {base : Nat} {spare : Nat → Bool} {held : Bool} {fuel : Nat} {cs : List Value} {x : DataW H × List MemPlace}
    (hf : DataW.trod enc Tryz.prog W base spare held fuel 23 cs = some x) :
    ∃ a n c ms, cs = [.slice a n c] ∧ MarksIn W a n ms := by
  rcases open_slice Tryz.underlying23 hf with ⟨hcs, _⟩ | ⟨a, len, cap, m, n, D, Pl, hcs, hb, hl, hm, hmm, hd, hx⟩
  · exact ⟨none, 0, 0, [], hcs, rfl, .inl rfl⟩
  have hlm : len ≤ m := by rw [hmm]; split <;> omega
  by_cases h0 : len = 0
  · exact ⟨some a, len, cap, [], hcs, h0.symm, .inl h0⟩
  have hspot : a.spot = none := by
    obtain ⟨cs0, q1, _⟩ := hx 0 (by omega)
    rw [cellsM1] at q1
    obtain ⟨_, q2, q3⟩ := World.cells?_some q1
    have q4 := q3 0 (by omega)
    rw [List.getElem?_eq_getElem (by omega)] at q4
    simpa [Addr.add] using World.cell?_spot q4
  obtain ⟨b, o, sp⟩ := a
  obtain rfl : sp = none := hspot
  have each : ∀ i, i < len → ∃ mk, MarkAt W b (o + i * 2) mk := by
    intro i hi
    obtain ⟨cs', h1, h2⟩ := hx i (by omega)
    rw [cellsM1] at h1
    obtain ⟨hbb, hlen, hcell⟩ := World.cells?_some h1
    obtain ⟨xs, k, rfl, hxx, hcl, hxl, hf⟩ := DataW.trod_struct Tryz.underlying59 h2
    match cs', hlen with
    | [x0, x1], _ =>
      match xs, hxl with
      | [y0, y1], _ =>
        have f0 := hf 0 _ rfl
        have f1 := hf 1 _ rfl
        simp only [cellsS1, cellsUp, List.drop_succ_cons, List.drop_zero, List.take_succ_cons, List.take_zero, List.getElem?_cons_zero, List.getElem?_cons_succ] at f0 f1
        have g0 := hcell 0 (by omega)
        have g1 := hcell 1 (by omega)
        simp only [List.getElem?_cons_zero, List.getElem?_cons_succ] at g0 g1
        obtain ⟨sa, sn, sc, L, e0, hL⟩ := steps_cells f0
        obtain ⟨z1, e1, _, hw⟩ := DataW.trod_int Tryz.underlying37 f1
        obtain ⟨q, rfl, hq⟩ := u64_rng hw
        obtain rfl := (List.cons.inj e0).1
        obtain rfl := (List.cons.inj e1).1
        simp only [add_at, Nat.add_zero] at g0 g1
        exact ⟨⟨L, q⟩, hq, sa, sn, sc, g0, g1, hL⟩
  have hbl : b < W.heap.size := by
    obtain ⟨t, _, _, _, _, h1, _⟩ := each 0 (by omega)
    exact World.block_lt_of_cell? W _ h1
  obtain ⟨f, hf2⟩ : ∃ f : Nat → Mk, ∀ i, i < len → MarkAt W b (o + i * 2) (f i) := by
    refine ⟨fun i => if h : i < len then Classical.choose (each i h) else ⟨[], 0⟩, fun i hi => ?_⟩
    dsimp only
    rw [dif_pos hi]
    exact Classical.choose_spec (each i hi)
  refine ⟨some ⟨b, o, none⟩, len, cap, (List.range len).map f, hcs, by simp, .inr ⟨b, o, rfl, hbl, fun i hi => ?_⟩⟩
  rw [List.getElem_map, List.getElem_range]
  exact hf2 i (by simpa using hi)
theorem array5 {α : Type} {cs : Array α} (h : cs.size = 5) : ∃ c0 c1 c2 c3 c4, cs = #[c0, c1, c2, c3, c4] := by
  obtain ⟨l⟩ := cs
  match l, h with
  | [c0, c1, c2, c3, c4], _ => exact ⟨c0, c1, c2, c3, c4, rfl⟩
set_option maxRecDepth 100000 in
/-- A policy among the arguments. -/
theorem open_policy {H : Type} {enc : TypeId × Value → H} {W : World} {base : Nat} {spare : Nat → Bool} {held : Bool} {r : Reach} {b0 : Nat} {v : Value} {d : DataW H} {ps : List MemPlace}
    (hval : Value.okWide Tryz.prog W r b0 25 v) (h : DataW.Trod enc Tryz.prog W base spare held 25 v d ps) : ∃ p, PolIn W v p := by
  simp only [Value.okWide, Tryz.underlying25] at hval
  obtain ⟨cs, rfl, hsz, _⟩ := hval
  have e5 : Tryz.prog.cellsOf 25 = 5 := by kernel_rfl
  rw [e5] at hsz
  obtain ⟨c0, c1, c2, c3, c4, rfl⟩ := array5 hsz
  obtain ⟨fuel, hf⟩ := h
  obtain ⟨xs, k, _, hxx, hcl, hxl, hf⟩ := DataW.trod_struct Tryz.underlying25 hf
  match xs, hxl with
  | [y0, y1, y2, y3, y4], _ =>
    have f0 := hf 0 _ rfl
    have f1 := hf 1 _ rfl
    have f2 := hf 2 _ rfl
    have f3 := hf 3 _ rfl
    have f4 := hf 4 _ rfl
    simp only [Value.cells, cellsT1, cellsM2, cells9p, cells3p, List.drop_succ_cons, List.drop_zero, List.take_succ_cons, List.take_zero, List.getElem?_cons_zero, List.getElem?_cons_succ] at f0 f1 f2 f3 f4
    obtain ⟨a, n, c, C, e0, hC⟩ := strs_cells f0
    obtain ⟨b, m, dd, M, e1, hM⟩ := marks_cells f1
    obtain ⟨s2, e2, _, _⟩ := DataW.trod_string Tryz.underlying9 f2
    obtain ⟨z3, e3, _, _⟩ := DataW.trod_int Tryz.underlying3 f3
    obtain ⟨z4, e4, _, _⟩ := DataW.trod_int Tryz.underlying3 f4
    obtain rfl := (List.cons.inj e0).1
    obtain rfl := (List.cons.inj e1).1
    obtain rfl := (List.cons.inj e2).1
    obtain rfl := (List.cons.inj e3).1
    obtain rfl := (List.cons.inj e4).1
    exact ⟨⟨C, M, s2.data.toList, z3, z4⟩, a, n, c, b, m, dd, s2, rfl, rfl, hC, hM⟩
end Go.Proofs.YtnagecbepidfiaaGreatDoor.Pol
/- What is proved here: a row of items that came in lies as the walks ask. -/
namespace Go.Proofs.YtnagecbepidfiaaGreatDoor
set_option maxRecDepth 100000
open Go.RowKit Go.ChangeShapes Go.WideShapes Go.Deep
set_option linter.unusedVariables false
set_option linter.unusedSimpArgs false

theorem weights_all {H : Type} {P : Program} {e : TypeId} {d : DataW H} {q : Nat} (hq : q ∈ d.weights P e) : ∀ {l : List (DataW H)}, d ∈ l → q ∈ DataW.weightsAll P e l
  | [], h => absurd h (by simp)
  | x :: r, h => by
    simp only [DataW.weightsAll, List.mem_append]
    rcases List.mem_cons.1 h with rfl | h
    · exact .inl hq
    · exact .inr (weights_all hq h)
theorem add_at (b o i j : Nat) : ((⟨b, o, none⟩ : Addr).add i).add j = ⟨b, o + i + j, none⟩ := by
  unfold Addr.add
  by_cases h1 : i = 0 <;> by_cases h2 : j = 0 <;> simp [h1, h2]
theorem add_one (b o i : Nat) : (⟨b, o, none⟩ : Addr).add i = ⟨b, o + i, none⟩ := by
  unfold Addr.add
  by_cases h1 : i = 0 <;> simp [h1]

theorem item_bytes : Tryz.prog.bytesOf 93 = 80 := by kernel_rfl
theorem item_cells : Tryz.prog.cellsOf 93 = 6 := by kernel_rfl
theorem str_bytes : Tryz.prog.bytesOf 9 = 16 := by kernel_rfl

set_option maxRecDepth 100000 in
theorem open_items {H : Type} {enc : TypeId × Value → H} {W : World} {base fuel : Nat} {spare : Nat → Bool} {held : Bool} {cs : List Value} {x : DataW H × List MemPlace} (h : DataW.trod enc Tryz.prog W base spare held fuel 36 cs = some x)
    (hw : ∀ q, q ∈ x.1.weights Tryz.prog 36 → q ≤ reachBytes) : ∃ a n c, cs = [.slice a n c] ∧ n ≤ 140737488355328 ∧ ∀ i, i < n → ItemAt W a i := by
  have hrb := reachBytes_lt
  rcases open_slice Tryz.underlying36 h with ⟨rfl, rfl⟩ | ⟨a, len, cap, m, n, D, Pl, rfl, hb, hl, hm, hmm, rfl, hx⟩
  · exact ⟨none, 0, 0, rfl, by omega, fun i hi => absurd hi (by omega)⟩
  have hlm : len ≤ m := by rw [hmm]; split <;> omega
  have hn : len ≤ 140737488355328 := by
    have := hw ((((List.range len).map D).length + ((List.range (m - len)).map fun j => D (len + j)).length) * Tryz.prog.bytesOf 93) (by
      simp only [DataW.weights, Tryz.underlying36]
      exact List.mem_cons_self)
    rw [item_bytes, List.length_map, List.length_map, List.length_range, List.length_range] at this
    omega
  refine ⟨some a, len, cap, rfl, hn, fun i hi => ?_⟩
  have hspot : a.spot = none := by
    obtain ⟨cs0, q1, _⟩ := hx 0 (by omega)
    rw [item_cells] at q1
    obtain ⟨_, q2, q3⟩ := World.cells?_some q1
    have q4 := q3 0 (by omega)
    rw [List.getElem?_eq_getElem (by omega)] at q4
    simpa [Addr.add] using World.cell?_spot q4
  obtain ⟨b, o, sp⟩ := a
  obtain rfl : sp = none := hspot
  have hwD : ∀ q, q ∈ (D i).weights Tryz.prog 93 → q ≤ reachBytes := fun q hq => hw q (by
    simp only [DataW.weights, Tryz.underlying36]
    exact List.mem_cons_of_mem _ (List.mem_append_left _ (weights_all hq (List.mem_map_of_mem (List.mem_range.2 hi)))))
  obtain ⟨cs', h1, h2⟩ := hx i (by omega)
  rw [item_cells] at h1
  obtain ⟨hbb, hlen, hcell⟩ := World.cells?_some h1
  obtain ⟨xs, k, rfl, hxx, hcl, hxl, hf⟩ := DataW.trod_struct Tryz.underlying93 h2
  match cs', hlen with
  | [x0, x1, x2, x3, x4, x5], _ =>
    match xs, hxl with
    | [y0, y1, y2, y3, y4, y5], _ =>
      have c3 : Tryz.prog.cellsOf 3 = 1 := by kernel_rfl
      have c9 : Tryz.prog.cellsOf 9 = 1 := by kernel_rfl
      have c64 : Tryz.prog.cellsOf 37 = 1 := by kernel_rfl
      have cs9 : Tryz.prog.cellsOf 22 = 1 := by kernel_rfl
      have f0 := hf 0 _ rfl
      have f1 := hf 1 _ rfl
      have f2 := hf 2 _ rfl
      have f3 := hf 3 _ rfl
      have f4 := hf 4 _ rfl
      have f5 := hf 5 _ rfl
      simp only [c3, c9, c64, cs9, List.drop_succ_cons, List.drop_zero, List.take_succ_cons, List.take_zero, List.getElem?_cons_zero, List.getElem?_cons_succ] at f0 f1 f2 f3 f4 f5
      have g0 := hcell 0 (by omega)
      have g1 := hcell 1 (by omega)
      have g2 := hcell 2 (by omega)
      have g3 := hcell 3 (by omega)
      have g4 := hcell 4 (by omega)
      have g5 := hcell 5 (by omega)
      simp only [List.getElem?_cons_zero, List.getElem?_cons_succ] at g0 g1 g2 g3 g4 g5
      obtain ⟨z0, e0, _, _⟩ := DataW.trod_int Tryz.underlying3 f0
      obtain ⟨z1, e1, _, _⟩ := DataW.trod_int Tryz.underlying3 f1
      obtain ⟨z2, e2, _, w2⟩ := DataW.trod_int Tryz.underlying37 f2
      obtain ⟨s3, e3, _, _⟩ := DataW.trod_string Tryz.underlying9 f3
      obtain ⟨s4, e4, _, _⟩ := DataW.trod_string Tryz.underlying9 f4
      obtain rfl := (List.cons.inj e0).1
      obtain rfl := (List.cons.inj e1).1
      obtain rfl := (List.cons.inj e2).1
      obtain rfl := (List.cons.inj e3).1
      obtain rfl := (List.cons.inj e4).1
      have hD : D i = DataW.agg [y0.1, y1.1, y2.1, y3.1, y4.1, y5.1] := congrArg Prod.fst hxx
      have hw5 : ∀ q, q ∈ y5.1.weights Tryz.prog 22 → q ≤ reachBytes := fun q hq => hwD q (by
        rw [hD]
        simp only [DataW.weights, Tryz.underlying93]
        exact DataW.weights_mem_each (j := 5) (t := 22) rfl rfl q hq)
      have hz2 : 0 ≤ z2 ∧ z2 ≤ 18446744073709551615 := by
        have hq := w2
        simp [Lit.wf] at hq
        have m0 : IntKind.u64.min = 0 := by kernel_rfl
        have m1 : IntKind.u64.max = 18446744073709551615 := by kernel_rfl
        first | exact hq | (rw [m0, m1] at hq; exact hq)
      obtain ⟨mk, rfl⟩ : ∃ mk : Nat, z2 = (mk : Int) := ⟨z2.toNat, by omega⟩
      simp only [add_at, Nat.add_zero] at g0 g1 g2 g3 g4 g5
      have hblt : b < W.heap.size := World.block_lt_of_cell? W _ g0
      rcases open_strings Tryz.underlying22 Tryz.underlying9 c9 f5 with ⟨e5, _⟩ | ⟨a2, len2, cap2, ss, e5, _, hl2, hc2, hss, hy5, hcs, _⟩
      · obtain rfl := (List.cons.inj e5).1
        exact ⟨b, o, z0, z1, mk, s3, s4, none, 0, [], rfl, hblt, by omega, ⟨g0, g1, g2, g3, g4, g5⟩, by simp, fun j hj => absurd hj (by simp)⟩
      · obtain rfl := (List.cons.inj e5).1
        have hsl : len2 ≤ ss.length := by rw [hss]; split <;> omega
        have hkl : (ss.take len2).length = len2 := by rw [List.length_take]; omega
        have hk47 : len2 ≤ 140737488355328 := by
          have := hw5 (((strs (H := H) (ss.take len2)).length + (strs (H := H) (ss.drop len2)).length) * Tryz.prog.bytesOf 9) (by
            rw [hy5]
            simp only [DataW.weights, Tryz.underlying22]
            exact List.mem_cons_self)
          rw [str_bytes] at this
          simp [strs] at this
          omega
        refine ⟨b, o, z0, z1, mk, s3, s4, some a2, cap2, ss.take len2, rfl, hblt, by omega, ⟨g0, g1, g2, g3, g4, by rw [hkl]; exact g5⟩, by omega, fun j hj => ?_⟩
        rw [hkl] at hj
        have hsp : a2.spot = none := by
          have q := hcs 0 (by omega)
          simpa [Addr.add] using World.cell?_spot q
        obtain ⟨b2, o2, sp2⟩ := a2
        obtain rfl : sp2 = none := hsp
        have q := hcs j (by omega)
        rw [add_one] at q
        refine ⟨b2, o2, rfl, trivial, World.block_lt_of_cell? W _ q, ?_⟩
        rw [q, List.getElem_take]
        simp [List.getD, List.getElem?_eq_getElem (show j < ss.length by omega)]
end Go.Proofs.YtnagecbepidfiaaGreatDoor
/- What is proved here: what the rows of layer 4 want besides their walks: a world in which the two tables of unicode/utf8 lie as they are listed; a row of items opened; conditions: none. -/
namespace Go.Proofs.YtnagecbepidfiaaGreatDoor
set_option maxRecDepth 100000
open Go.ChangeShapes Go.WideShapes Go.ChangeAt Go.RowKit Go.Joins
open Go.ChangeMaps (open_string shut_string)
set_option linter.unusedVariables false
set_option linter.unusedSimpArgs false

theorem own : ownKnob Tryz.prog.godebug = none := by kernel_rfl
theorem laidOut : laidOutB Tryz.prog = true := by kernel_rfl

def tab3 : List Int := [128, 191, 160, 191, 128, 159, 144, 191, 128, 143, 0, 0, 0, 0, 0, 0, 0, 0, 0, 0, 0, 0, 0, 0, 0, 0, 0, 0, 0, 0, 0, 0]
def putRow (h : Array Obj) (g : Nat) (cs : Array Value) : Array Obj := h.modify g fun
  | .cells _ t frozen => .cells cs t frozen
  | o => o
/-- The settled world, the listed tables holding what their initialisers lay. -/
def tabWorld (w0 : World) : World :=
  { w0 with heap := putRow (putRow w0.heap 0 (Go.Pinned.utf8FirstZ.map fun (z : Nat) => Value.int .u8 (z : Int)).toArray) 1 (tab3.map fun z => Value.int .u8 z).toArray }

theorem slice_of {P : Program} {r : Reach} {b : Nat} {W : World} {t e : TypeId} {v : Value} {a : Option Addr} {n c : Nat} (ht : P.underlying t = some (.slice e)) (hv : Value.okWide P W r b t v) (h : v.cells.toList = [.slice a n c]) : v = .slice a n c := by
  simp only [Value.okWide, ht, Cell.okWide] at hv
  cases v <;> simp_all [Cell.ok, Value.cells]
set_option maxRecDepth 100000 in
/-- A row of items among the arguments. -/
theorem open_row {H : Type} {enc : TypeId × Value → H} {W : World} {base : Nat} {spare : Nat → Bool} {held : Bool} {r : Reach} {b0 : Nat} {v : Value} {d : DataW H} {ps : List MemPlace} {ts : List TypeId} {ds : List (DataW H)} {j : Nat}
    (hval : Value.okWide Tryz.prog W r b0 36 v) (h : DataW.Trod enc Tryz.prog W base spare held 36 v d ps)
    (hwt : (DataW.weightsEach Tryz.prog ts ds).all (· ≤ reachBytes) = true) (ht : ts[j]? = some 36) (hd : ds[j]? = some d) :
    ∃ a n c, v = .slice a n c ∧ n ≤ 140737488355328 ∧ ∀ i, i < n → i < 80 → ItemAt W a i := by
  obtain ⟨m, hm⟩ := h
  obtain ⟨a, n, c, hc, hn, hi⟩ := open_items hm (fun q hq => of_decide_eq_true (List.all_eq_true.1 hwt q (DataW.weights_mem_each ht hd q hq)))
  exact ⟨a, n, c, slice_of Tryz.underlying36 hval hc, hn, fun i h _ => hi i h⟩
end Go.Proofs.YtnagecbepidfiaaGreatDoor
/- What is proved here: nothing; it joins the two bases of cards with a policy and a row of items. -/
