/- What is proved here: what the rows of layer 4 want besides their walks: a world in which the two tables of unicode/utf8 lie as they are listed; a row of items opened; conditions: none. -/
import Derived.Test.YtigpfbfkdccdaaaDoorCards
import Derived.Test.YtigpfbfkdccdaaaDoorTie
import Derived.WalkKit
import Derived.ProofKit
import Derived.OpenShut
import Derived.ShutString
import Derived.Deep.DeepHandedRow
import Derived.Lib.LaidTab
import Derived.Lib.SmallJoins
import Derived.Test.YtigpfbfkdccdaaaDoorRi
namespace Go.Proofs.YtigpfbfkdccdaaaDoor
open Go.ChangeShapes Go.WideShapes Go.ChangeAt Go.RowKit Go.Joins
open Go.ChangeMaps (open_string shut_string)
set_option linter.unusedVariables false
set_option linter.unusedSimpArgs false

theorem own : ownKnob Tryd.prog.godebug = none := by kernel_rfl
theorem laidOut : laidOutB Tryd.prog = true := by kernel_rfl

def tab3 : List Int := [128, 191, 160, 191, 128, 159, 144, 191, 128, 143, 0, 0, 0, 0, 0, 0, 0, 0, 0, 0, 0, 0, 0, 0, 0, 0, 0, 0, 0, 0, 0, 0]
def putRow (h : Array Obj) (g : Nat) (cs : Array Value) : Array Obj := h.modify g fun
  | .cells _ t frozen => .cells cs t frozen
  | o => o
/-- The settled world, the listed tables holding what their initialisers lay. -/
def tabWorld (w0 : World) : World :=
  { w0 with heap := putRow (putRow w0.heap 1 (Go.Pinned.utf8FirstZ.map fun (z : Nat) => Value.int .u8 (z : Int)).toArray) 2 (tab3.map fun z => Value.int .u8 z).toArray }

theorem slice_of {P : Program} {r : Reach} {b : Nat} {W : World} {t e : TypeId} {v : Value} {a : Option Addr} {n c : Nat} (ht : P.underlying t = some (.slice e)) (hv : Value.okWide P W r b t v) (h : v.cells.toList = [.slice a n c]) : v = .slice a n c := by
  simp only [Value.okWide, ht, Cell.okWide] at hv
  cases v <;> simp_all [Cell.ok, Value.cells]
set_option maxRecDepth 100000 in
/-- A row of items among the arguments. -/
theorem open_row {H : Type} {enc : TypeId × Value → H} {W : World} {base : Nat} {spare : Nat → Bool} {held : Bool} {r : Reach} {b0 : Nat} {v : Value} {d : DataW H} {ps : List MemPlace} {ts : List TypeId} {ds : List (DataW H)} {j : Nat}
    (hval : Value.okWide Tryd.prog W r b0 22 v) (h : DataW.Trod enc Tryd.prog W base spare held 22 v d ps)
    (hwt : (DataW.weightsEach Tryd.prog ts ds).all (· ≤ reachBytes) = true) (ht : ts[j]? = some 22) (hd : ds[j]? = some d) :
    ∃ a n c, v = .slice a n c ∧ n ≤ 140737488355328 ∧ ∀ i, i < n → i < 80 → ItemAt W a i := by
  obtain ⟨m, hm⟩ := h
  obtain ⟨a, n, c, hc, hn, hi⟩ := open_items hm (fun q hq => of_decide_eq_true (List.all_eq_true.1 hwt q (DataW.weights_mem_each ht hd q hq)))
  exact ⟨a, n, c, slice_of Tryd.underlying22 hval hc, hn, fun i h _ => hi i h⟩
end Go.Proofs.YtigpfbfkdccdaaaDoor
