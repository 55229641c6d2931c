/- What is proved here: what the rows of layer 10 want besides their walks: a world in which the two tables of unicode/utf8 and the table of signs lie as they are listed; conditions: none. -/
import Derived.Test.YtppkknmgdahniabDoorCards
import Derived.Test.YtppkknmgdahniabDoorTie
import Derived.WalkKit
import Derived.ProofKit
import Derived.OpenShut
import Derived.ShutString
import Derived.Deep.DeepHandedRow
import Derived.Lib.LaidTab
import Derived.Lib.LaidU8T
import Derived.Lib.SmallJoins
import Derived.Lib.LaidU8
import Derived.Test.YtppkknmgdahniabDoorBc
import Derived.Test.YtppkknmgdahniabDoorNg
namespace Go.Proofs.YtppkknmgdahniabDoor
set_option maxRecDepth 100000
open Go.ChangeShapes Go.WideShapes Go.ChangeAt Go.RowKit Go.Joins
open Go.ChangeMaps (open_string shut_string)
set_option linter.unusedVariables false
set_option linter.unusedSimpArgs false

theorem own : ownKnob Tryd.prog.godebug = none := by kernel_rfl
theorem laidOut : laidOutB Tryd.prog = true := by kernel_rfl

def tab3 : List Int := [128, 191, 160, 191, 128, 159, 144, 191, 128, 143, 0, 0, 0, 0, 0, 0, 0, 0, 0, 0, 0, 0, 0, 0, 0, 0, 0, 0, 0, 0, 0, 0]
def putRow (h : Array Obj) (g : Nat) (cs : Array Value) : Array Obj := h.modify g fun
  | .cells _ t frozen => .cells cs t frozen
  | o => o
/-- The settled world, the listed tables holding what their initialisers lay. -/
def tabWorld (w0 : World) : World :=
  { w0 with heap := putRow (putRow (putRow w0.heap 1 (Go.Pinned.utf8FirstZ.map fun (z : Nat) => Value.int .u8 (z : Int)).toArray) 2 (tab3.map fun z => Value.int .u8 z).toArray) 0 Lex.signA }

theorem u8x : U8Extra Tryd.prog Tryd.laysQ_ren := {
  n3 := by kernel_rfl
  n4 := by kernel_rfl
  y3 := by kernel_rfl
  y4 := by kernel_rfl
  c5 := by kernel_rfl
  c119 := by kernel_rfl
  c138 := by kernel_rfl }
theorem first_is : (Rows.laid_unicode_utf8_first : DataW Unit) = Lib.firstData := by kernel_rfl
theorem accept_is : (Rows.laid_unicode_utf8_acceptRanges : DataW Unit) = Lib.acceptData := by kernel_rfl
theorem tab_u8 {W : World} {l : List (String × DataW Unit)} (h : laidMet Tryd.prog l W) (h4 : ("unicode/utf8.acceptRanges", (Rows.laid_unicode_utf8_acceptRanges : DataW Unit)) ∈ l)
    (h3 : ("unicode/utf8.first", (Rows.laid_unicode_utf8_first : DataW Unit)) ∈ l) : Tabs W := by
  have r3 := Lib.laidMet.reads h h3
  have r4 := Lib.laidMet.reads h h4
  rw [first_is] at r3
  rw [accept_is] at r4
  exact utf8Tabs_of_readsT (U8Types.of260 Tryd.laysQ260) u8x r3 r4
theorem sign_data : (Rows.laid_bowdler_lex_signs : DataW Unit) = .agg (Lex.signB.map fun x => .lit (.string x.data.toList)) := by kernel_rfl
theorem tab_signs {W : World} {l : List (String × DataW Unit)} (h : laidMet Tryd.prog l W) (h4 : ("bowdler/lex.signs", (Rows.laid_bowdler_lex_signs : DataW Unit)) ∈ l) : Lex.Sg W := by
  obtain ⟨g, t, cs, fuel, p, hg, ht, hv, hr⟩ := Lib.laidMet.reads h h4
  rw [sign_data] at hr
  obtain rfl : g = 0 := Option.some.inj (hg.symm.trans (show Tryd.prog.globalNamed "bowdler/lex.signs" = some 0 by kernel_rfl))
  obtain rfl : t = 54 := Option.some.inj (ht.symm.trans (show (Tryd.prog.globals[0]?).map (·.type) = some 54 by kernel_rfl))
  have c9 : Tryd.prog.cellsOf 9 = 1 := by kernel_rfl
  have hlen : cs.toList.length = 22 := by
    obtain ⟨xs, m, -, -, hl, -⟩ := DataW.trod_array Tryd.underlying54 hr
    rw [hl]
    kernel_rfl
  have hcs : cs = Lex.signA := by
    apply Array.toList_inj.1
    apply List.ext_getElem?
    intro i
    by_cases hi : i < 22
    · obtain ⟨f2, d, q, h1, h2⟩ := Lib.array_elem Tryd.underlying54 hr i hi
      rw [c9, Nat.mul_one] at h2
      obtain ⟨x, e1, e2, -⟩ := DataW.trod_string Tryd.underlying9 h2
      have h3 : cs.toList[i]? = some (.string x) := by
        have := congrArg (fun l : List Value => l[0]?) e1
        simpa [List.getElem?_take, List.getElem?_drop] using this
      have h5 : i < Lex.signB.length := hi
      have h4 : (Lex.signB.map fun x => (DataW.lit (.string x.data.toList) : DataW Unit))[i]? = some d := h1
      rw [List.getElem?_map, List.getElem?_eq_getElem h5] at h4
      have e3 : d = .lit (.string x.data.toList) := congrArg Prod.fst e2
      rw [e3] at h4
      have h6 := Option.some.inj h4
      injection h6 with h7
      injection h7 with h8
      have h9 : Lex.signB[i]'h5 = x := ByteArray.ext (Array.toList_inj.1 h8)
      rw [h3, Lex.signA_is]
      simp [List.getElem?_eq_getElem h5, h9]
    · rw [List.getElem?_eq_none (by omega), List.getElem?_eq_none (by rw [Lex.signA_is]; show 22 ≤ i; omega)]
  rw [hcs] at hv
  unfold World.var? at hv
  rw [hg] at hv
  simp only [Option.bind_some] at hv
  split at hv
  · rename_i c2 t2 f2 e
    obtain rfl := Option.some.inj hv
    exact ⟨_, _, e⟩
  · cases hv
end Go.Proofs.YtppkknmgdahniabDoor
