/- What is proved here: a row of items that came in lies as the walks ask. -/
import Derived.Test.YtppkknmgdahniaaDoorZDf
import Derived.Deep.Slices
import Derived.SliceStrings
import Derived.SizedLaws
import Derived.Test.YtppkknmgdahniaaDoorCards
import Derived.Test.YtppkknmgdahniaaDoorTie
import Derived.WalkKit
import Derived.ProofKit
import Derived.OpenShut
import Derived.ShutString
import Derived.Deep.DeepHandedRow
import Derived.Lib.LaidTab
import Derived.Lib.SmallJoins
namespace Go.Proofs.YtppkknmgdahniaaDoor
set_option maxRecDepth 100000
open Go.RowKit Go.ChangeShapes Go.WideShapes Go.Deep
set_option linter.unusedVariables false
set_option linter.unusedSimpArgs false

theorem weights_all {H : Type} {P : Program} {e : TypeId} {d : DataW H} {q : Nat} (hq : q ∈ d.weights P e) : ∀ {l : List (DataW H)}, d ∈ l → q ∈ DataW.weightsAll P e l
  | [], h => absurd h (by simp)
  | x :: r, h => by
    simp only [DataW.weightsAll, List.mem_append]
    rcases List.mem_cons.1 h with rfl | h
    · exact .inl hq
    · exact .inr (weights_all hq h)
theorem add_at (b o i j : Nat) : ((⟨b, o, none⟩ : Addr).add i).add j = ⟨b, o + i + j, none⟩ := by
  unfold Addr.add
  by_cases h1 : i = 0 <;> by_cases h2 : j = 0 <;> simp [h1, h2]
theorem add_one (b o i : Nat) : (⟨b, o, none⟩ : Addr).add i = ⟨b, o + i, none⟩ := by
  unfold Addr.add
  by_cases h1 : i = 0 <;> simp [h1]

theorem item_bytes : Tryd.prog.bytesOf 69 = 80 := by kernel_rfl
theorem item_cells : Tryd.prog.cellsOf 69 = 6 := by kernel_rfl
theorem str_bytes : Tryd.prog.bytesOf 9 = 16 := by kernel_rfl

set_option maxRecDepth 100000 in
theorem open_items {H : Type} {enc : TypeId × Value → H} {W : World} {base fuel : Nat} {spare : Nat → Bool} {held : Bool} {cs : List Value} {x : DataW H × List MemPlace} (h : DataW.trod enc Tryd.prog W base spare held fuel 22 cs = some x)
    (hw : ∀ q, q ∈ x.1.weights Tryd.prog 22 → q ≤ reachBytes) : ∃ a n c, cs = [.slice a n c] ∧ n ≤ 140737488355328 ∧ ∀ i, i < n → ItemAt W a i := by
  have hrb := reachBytes_lt
  rcases open_slice Tryd.underlying22 h with ⟨rfl, rfl⟩ | ⟨a, len, cap, m, n, D, Pl, rfl, hb, hl, hm, hmm, rfl, hx⟩
  · exact ⟨none, 0, 0, rfl, by omega, fun i hi => absurd hi (by omega)⟩
  have hlm : len ≤ m := by rw [hmm]; split <;> omega
  have hn : len ≤ 140737488355328 := by
    have := hw ((((List.range len).map D).length + ((List.range (m - len)).map fun j => D (len + j)).length) * Tryd.prog.bytesOf 69) (by
      simp only [DataW.weights, Tryd.underlying22]
      exact List.mem_cons_self)
    rw [item_bytes, List.length_map, List.length_map, List.length_range, List.length_range] at this
    omega
  refine ⟨some a, len, cap, rfl, hn, fun i hi => ?_⟩
  have hspot : a.spot = none := by
    obtain ⟨cs0, q1, _⟩ := hx 0 (by omega)
    rw [item_cells] at q1
    obtain ⟨_, q2, q3⟩ := World.cells?_some q1
    have q4 := q3 0 (by omega)
    rw [List.getElem?_eq_getElem (by omega)] at q4
    simpa [Addr.add] using World.cell?_spot q4
  obtain ⟨b, o, sp⟩ := a
  obtain rfl : sp = none := hspot
  have hwD : ∀ q, q ∈ (D i).weights Tryd.prog 69 → q ≤ reachBytes := fun q hq => hw q (by
    simp only [DataW.weights, Tryd.underlying22]
    exact List.mem_cons_of_mem _ (List.mem_append_left _ (weights_all hq (List.mem_map_of_mem (List.mem_range.2 hi)))))
  obtain ⟨cs', h1, h2⟩ := hx i (by omega)
  rw [item_cells] at h1
  obtain ⟨hbb, hlen, hcell⟩ := World.cells?_some h1
  obtain ⟨xs, k, rfl, hxx, hcl, hxl, hf⟩ := DataW.trod_struct Tryd.underlying69 h2
  match cs', hlen with
  | [x0, x1, x2, x3, x4, x5], _ =>
    match xs, hxl with
    | [y0, y1, y2, y3, y4, y5], _ =>
      have c3 : Tryd.prog.cellsOf 3 = 1 := by kernel_rfl
      have c9 : Tryd.prog.cellsOf 9 = 1 := by kernel_rfl
      have c64 : Tryd.prog.cellsOf 23 = 1 := by kernel_rfl
      have cs9 : Tryd.prog.cellsOf 27 = 1 := by kernel_rfl
      have f0 := hf 0 _ rfl
      have f1 := hf 1 _ rfl
      have f2 := hf 2 _ rfl
      have f3 := hf 3 _ rfl
      have f4 := hf 4 _ rfl
      have f5 := hf 5 _ rfl
      simp only [c3, c9, c64, cs9, List.drop_succ_cons, List.drop_zero, List.take_succ_cons, List.take_zero, List.getElem?_cons_zero, List.getElem?_cons_succ] at f0 f1 f2 f3 f4 f5
      have g0 := hcell 0 (by omega)
      have g1 := hcell 1 (by omega)
      have g2 := hcell 2 (by omega)
      have g3 := hcell 3 (by omega)
      have g4 := hcell 4 (by omega)
      have g5 := hcell 5 (by omega)
      simp only [List.getElem?_cons_zero, List.getElem?_cons_succ] at g0 g1 g2 g3 g4 g5
      obtain ⟨z0, e0, _, _⟩ := DataW.trod_int Tryd.underlying3 f0
      obtain ⟨z1, e1, _, _⟩ := DataW.trod_int Tryd.underlying3 f1
      obtain ⟨z2, e2, _, w2⟩ := DataW.trod_int Tryd.underlying23 f2
      obtain ⟨s3, e3, _, _⟩ := DataW.trod_string Tryd.underlying9 f3
      obtain ⟨s4, e4, _, _⟩ := DataW.trod_string Tryd.underlying9 f4
      obtain rfl := (List.cons.inj e0).1
      obtain rfl := (List.cons.inj e1).1
      obtain rfl := (List.cons.inj e2).1
      obtain rfl := (List.cons.inj e3).1
      obtain rfl := (List.cons.inj e4).1
      have hD : D i = DataW.agg [y0.1, y1.1, y2.1, y3.1, y4.1, y5.1] := congrArg Prod.fst hxx
      have hw5 : ∀ q, q ∈ y5.1.weights Tryd.prog 27 → q ≤ reachBytes := fun q hq => hwD q (by
        rw [hD]
        simp only [DataW.weights, Tryd.underlying69]
        exact DataW.weights_mem_each (j := 5) (t := 27) rfl rfl q hq)
      have hz2 : 0 ≤ z2 ∧ z2 ≤ 18446744073709551615 := by
        have hq := w2
        simp [Lit.wf] at hq
        have m0 : IntKind.u64.min = 0 := by kernel_rfl
        have m1 : IntKind.u64.max = 18446744073709551615 := by kernel_rfl
        first | exact hq | (rw [m0, m1] at hq; exact hq)
      obtain ⟨mk, rfl⟩ : ∃ mk : Nat, z2 = (mk : Int) := ⟨z2.toNat, by omega⟩
      simp only [add_at, Nat.add_zero] at g0 g1 g2 g3 g4 g5
      have hblt : b < W.heap.size := World.block_lt_of_cell? W _ g0
      rcases open_strings Tryd.underlying27 Tryd.underlying9 c9 f5 with ⟨e5, _⟩ | ⟨a2, len2, cap2, ss, e5, _, hl2, hc2, hss, hy5, hcs, _⟩
      · obtain rfl := (List.cons.inj e5).1
        exact ⟨b, o, z0, z1, mk, s3, s4, none, 0, [], rfl, hblt, by omega, ⟨g0, g1, g2, g3, g4, g5⟩, by simp, fun j hj => absurd hj (by simp)⟩
      · obtain rfl := (List.cons.inj e5).1
        have hsl : len2 ≤ ss.length := by rw [hss]; split <;> omega
        have hkl : (ss.take len2).length = len2 := by rw [List.length_take]; omega
        have hk47 : len2 ≤ 140737488355328 := by
          have := hw5 (((strs (H := H) (ss.take len2)).length + (strs (H := H) (ss.drop len2)).length) * Tryd.prog.bytesOf 9) (by
            rw [hy5]
            simp only [DataW.weights, Tryd.underlying27]
            exact List.mem_cons_self)
          rw [str_bytes] at this
          simp [strs] at this
          omega
        refine ⟨b, o, z0, z1, mk, s3, s4, some a2, cap2, ss.take len2, rfl, hblt, by omega, ⟨g0, g1, g2, g3, g4, by rw [hkl]; exact g5⟩, by omega, fun j hj => ?_⟩
        rw [hkl] at hj
        have hsp : a2.spot = none := by
          have q := hcs 0 (by omega)
          simpa [Addr.add] using World.cell?_spot q
        obtain ⟨b2, o2, sp2⟩ := a2
        obtain rfl : sp2 = none := hsp
        have q := hcs j (by omega)
        rw [add_one] at q
        refine ⟨b2, o2, rfl, trivial, World.block_lt_of_cell? W _ q, ?_⟩
        rw [q, List.getElem_take]
        simp [List.getD, List.getElem?_eq_getElem (show j < ss.length by omega)]
end Go.Proofs.YtppkknmgdahniaaDoor
/- What is proved here: what the rows of layer 9 want besides their walks: a world in which the listed tables lie; a row of items opened; conditions: none. -/
namespace Go.Proofs.YtppkknmgdahniaaDoor
set_option maxRecDepth 100000
open Go.ChangeShapes Go.WideShapes Go.ChangeAt Go.RowKit Go.Joins
open Go.ChangeMaps (open_string shut_string)
set_option linter.unusedVariables false
set_option linter.unusedSimpArgs false

theorem own : ownKnob Tryd.prog.godebug = none := by kernel_rfl
theorem laidOut : laidOutB Tryd.prog = true := by kernel_rfl

def tab1 : List Int := [1, 10, 100, 1000, 10000, 100000, 1000000, 10000000, 100000000, 1000000000, 10000000000, 100000000000, 1000000000000, 10000000000000, 100000000000000, 1000000000000000, 10000000000000000, 100000000000000000, 1000000000000000000, 10000000000000000000]
def tab4 : List Int := [0, 1, 28, 2, 29, 14, 24, 3, 30, 22, 20, 15, 25, 17, 4, 8, 31, 27, 13, 23, 21, 19, 16, 7, 26, 12, 18, 6, 11, 5, 10, 9]
def tab5 : List Int := [0, 1, 56, 2, 57, 49, 28, 3, 61, 58, 42, 50, 38, 29, 17, 4, 62, 47, 59, 36, 45, 43, 51, 22, 53, 39, 33, 30, 24, 18, 12, 5, 63, 55, 48, 27, 60, 41, 37, 16, 46, 35, 44, 21, 52, 32, 23, 11, 54, 26, 40, 15, 34, 20, 31, 10, 25, 14, 19, 9, 13, 8, 7, 6]
def putRow (h : Array Obj) (g : Nat) (cs : Array Value) : Array Obj := h.modify g fun
  | .cells _ t frozen => .cells cs t frozen
  | o => o
/-- The settled world, the listed tables holding what their initialisers lay. -/
def tabWorld (w0 : World) : World :=
  { w0 with heap := putRow (putRow (putRow w0.heap 0 (tab1.map fun z => Value.int .u64 z).toArray) 1 (tab4.map fun z => Value.int .u8 z).toArray) 2 (tab5.map fun z => Value.int .u8 z).toArray }

theorem slice_of {P : Program} {r : Reach} {b : Nat} {W : World} {t e : TypeId} {v : Value} {a : Option Addr} {n c : Nat} (ht : P.underlying t = some (.slice e)) (hv : Value.okWide P W r b t v) (h : v.cells.toList = [.slice a n c]) : v = .slice a n c := by
  simp only [Value.okWide, ht, Cell.okWide] at hv
  cases v <;> simp_all [Cell.ok, Value.cells]
set_option maxRecDepth 100000 in
/-- A row of items among the arguments. -/
theorem open_row {H : Type} {enc : TypeId × Value → H} {W : World} {base : Nat} {spare : Nat → Bool} {held : Bool} {r : Reach} {b0 : Nat} {v : Value} {d : DataW H} {ps : List MemPlace} {ts : List TypeId} {ds : List (DataW H)} {j : Nat}
    (hval : Value.okWide Tryd.prog W r b0 22 v) (h : DataW.Trod enc Tryd.prog W base spare held 22 v d ps)
    (hwt : (DataW.weightsEach Tryd.prog ts ds).all (· ≤ reachBytes) = true) (ht : ts[j]? = some 22) (hd : ds[j]? = some d) :
    ∃ a n c, v = .slice a n c ∧ n ≤ 140737488355328 ∧ ∀ i, i < n → i < 80 → ItemAt W a i := by
  obtain ⟨m, hm⟩ := h
  obtain ⟨a, n, c, hc, hn, hi⟩ := open_items hm (fun q hq => of_decide_eq_true (List.all_eq_true.1 hwt q (DataW.weights_mem_each ht hd q hq)))
  exact ⟨a, n, c, slice_of Tryd.underlying22 hval hc, hn, fun i h _ => hi i h⟩
end Go.Proofs.YtppkknmgdahniaaDoor
