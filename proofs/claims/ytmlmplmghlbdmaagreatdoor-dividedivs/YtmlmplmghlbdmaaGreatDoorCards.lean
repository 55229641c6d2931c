/-
  DERIVED. GIVEN WITH THE SEED: THE CARDS: each row of YtmlmplmghlbdmaaGreatDoorRows.lean that lists a variable, with what it lists TIED to the program's text (the seventh form; the later family's looks); each row that meets fmt, with fmt's text TOLD by the authors' own Lean function (tested against real Go, not proved from fmt's source: count such statements apart). THE CARD IS WHAT COUNTS. Prove the row's statement (the work); the ties are given (YtmlmplmghlbdmaaGreatDoorTie.lean); close each card by the builder's one call (the guide's Derived/Test/ToyasCard.lean, 'card_holds'). Laid BY PROGRAM, IN A SANDBOX (cutbox-door.mjs). By AI agents, Wed Nov 11 2026. No macro, syntax, notation, axiom, sorry.
-/
import Derived.Test.YtmlmplmghlbdmaaGreatDoorRows
import GoSem.ClaimSeven
namespace Go.Proofs.YtmlmplmghlbdmaaGreatDoor
namespace Rows

/-- THE TIED CARD OF 'bowdlerlaw02.DivideDivs'. -/
def divideDivsCard : Claim7 := { stood := { row := divideDivsRow, standIns := [], harness := (true, "5b387cea130a448f2a96c073e5bb1c90f0e796631458cad8ecac2d81aea16ef9"), looks := false }, kinds := [], alts := [], laidByText := true, laidKinds := [.data, .data, .data, .data, .pinned], laidTests := true, laidLooks := .later }
def DivideDivsCardSaid : Prop := Claim7.holds Tryz.pinned (.plain (OpenSpec.ofChange divideDivsSpec)) divideDivsCard

/-- THE TIED CARD OF 'bowdlerlaw02.DivideWholes'. -/
def divideWholesCard : Claim7 := { stood := { row := divideWholesRow, standIns := [], harness := (true, "5b387cea130a448f2a96c073e5bb1c90f0e796631458cad8ecac2d81aea16ef9"), looks := false }, kinds := [], alts := [], laidByText := true, laidKinds := [.data, .data, .data, .data, .pinned], laidTests := true, laidLooks := .later }
def DivideWholesCardSaid : Prop := Claim7.holds Tryz.pinned (.plain (OpenSpec.ofChange divideWholesSpec)) divideWholesCard

/-- THE TIED CARD OF 'bowdlerlaw02.DivideBack'. -/
def divideBackCard : Claim7 := { stood := { row := divideBackRow, standIns := [], harness := (true, "5b387cea130a448f2a96c073e5bb1c90f0e796631458cad8ecac2d81aea16ef9"), looks := false }, kinds := [], alts := [], laidByText := true, laidKinds := [.data, .data, .data, .data, .pinned], laidTests := true, laidLooks := .later }
def DivideBackCardSaid : Prop := Claim7.holds Tryz.pinned (.plain (OpenSpec.ofChange divideBackSpec)) divideBackCard

/-- THE TIED CARD OF 'bowdlerlaw02.DivideNear'. -/
def divideNearCard : Claim7 := { stood := { row := divideNearRow, standIns := [], harness := (true, "5b387cea130a448f2a96c073e5bb1c90f0e796631458cad8ecac2d81aea16ef9"), looks := false }, kinds := [], alts := [], laidByText := true, laidKinds := [.data, .data, .data, .data, .pinned], laidTests := true, laidLooks := .later }
def DivideNearCardSaid : Prop := Claim7.holds Tryz.pinned (.plain (OpenSpec.ofChange divideNearSpec)) divideNearCard

/-- THE TIED CARD OF 'bowdlerlaw02.DivideTurns'. -/
def divideTurnsCard : Claim7 := { stood := { row := divideTurnsRow, standIns := [], harness := (true, "5b387cea130a448f2a96c073e5bb1c90f0e796631458cad8ecac2d81aea16ef9"), looks := false }, kinds := [], alts := [], laidByText := true, laidKinds := [.data, .data, .data, .data, .pinned], laidTests := true, laidLooks := .later }
def DivideTurnsCardSaid : Prop := Claim7.holds Tryz.pinned (.plain (OpenSpec.ofChange divideTurnsSpec)) divideTurnsCard

/-- THE TIED CARD OF 'bowdlerlaw02.DividePows'. -/
def dividePowsCard : Claim7 := { stood := { row := dividePowsRow, standIns := [], harness := (true, "5b387cea130a448f2a96c073e5bb1c90f0e796631458cad8ecac2d81aea16ef9"), looks := false }, kinds := [], alts := [], laidByText := true, laidKinds := [.data, .data, .data, .data, .pinned], laidTests := true, laidLooks := .later }
def DividePowsCardSaid : Prop := Claim7.holds Tryz.pinned (.plain (OpenSpec.ofChange dividePowsSpec)) dividePowsCard

/-- THE TIED CARD OF 'bowdlerlaw02.DivideSteps'. -/
def divideStepsCard : Claim7 := { stood := { row := divideStepsRow, standIns := [], harness := (true, "5b387cea130a448f2a96c073e5bb1c90f0e796631458cad8ecac2d81aea16ef9"), looks := false }, kinds := [], alts := [], laidByText := true, laidKinds := [.data, .data, .data, .data, .pinned], laidTests := true, laidLooks := .later }
def DivideStepsCardSaid : Prop := Claim7.holds Tryz.pinned (.plain (OpenSpec.ofChange divideStepsSpec)) divideStepsCard

/-- THE SECOND FORM's CARD OF 'bowdlerlaw02.DivideDivs'. -/
def divideDivsUptoCard : Claim7 := { stood := { row := divideDivsUptoRow, standIns := [], harness := (true, "5b387cea130a448f2a96c073e5bb1c90f0e796631458cad8ecac2d81aea16ef9"), looks := false }, kinds := [], alts := [], laidByText := true, laidKinds := [.data, .data, .data, .data, .pinned], laidTests := true, laidLooks := .later }
def DivideDivsUptoCardSaid : Prop := Claim7.holds Tryz.pinned (.plain (OpenSpec.upto divideDivsSpec)) divideDivsUptoCard

/-- THE SECOND FORM's CARD OF 'bowdlerlaw02.DivideWholes'. -/
def divideWholesUptoCard : Claim7 := { stood := { row := divideWholesUptoRow, standIns := [], harness := (true, "5b387cea130a448f2a96c073e5bb1c90f0e796631458cad8ecac2d81aea16ef9"), looks := false }, kinds := [], alts := [], laidByText := true, laidKinds := [.data, .data, .data, .data, .pinned], laidTests := true, laidLooks := .later }
def DivideWholesUptoCardSaid : Prop := Claim7.holds Tryz.pinned (.plain (OpenSpec.upto divideWholesSpec)) divideWholesUptoCard

/-- THE SECOND FORM's CARD OF 'bowdlerlaw02.DivideBack'. -/
def divideBackUptoCard : Claim7 := { stood := { row := divideBackUptoRow, standIns := [], harness := (true, "5b387cea130a448f2a96c073e5bb1c90f0e796631458cad8ecac2d81aea16ef9"), looks := false }, kinds := [], alts := [], laidByText := true, laidKinds := [.data, .data, .data, .data, .pinned], laidTests := true, laidLooks := .later }
def DivideBackUptoCardSaid : Prop := Claim7.holds Tryz.pinned (.plain (OpenSpec.upto divideBackSpec)) divideBackUptoCard

/-- THE SECOND FORM's CARD OF 'bowdlerlaw02.DivideNear'. -/
def divideNearUptoCard : Claim7 := { stood := { row := divideNearUptoRow, standIns := [], harness := (true, "5b387cea130a448f2a96c073e5bb1c90f0e796631458cad8ecac2d81aea16ef9"), looks := false }, kinds := [], alts := [], laidByText := true, laidKinds := [.data, .data, .data, .data, .pinned], laidTests := true, laidLooks := .later }
def DivideNearUptoCardSaid : Prop := Claim7.holds Tryz.pinned (.plain (OpenSpec.upto divideNearSpec)) divideNearUptoCard

/-- THE SECOND FORM's CARD OF 'bowdlerlaw02.DivideTurns'. -/
def divideTurnsUptoCard : Claim7 := { stood := { row := divideTurnsUptoRow, standIns := [], harness := (true, "5b387cea130a448f2a96c073e5bb1c90f0e796631458cad8ecac2d81aea16ef9"), looks := false }, kinds := [], alts := [], laidByText := true, laidKinds := [.data, .data, .data, .data, .pinned], laidTests := true, laidLooks := .later }
def DivideTurnsUptoCardSaid : Prop := Claim7.holds Tryz.pinned (.plain (OpenSpec.upto divideTurnsSpec)) divideTurnsUptoCard

/-- THE SECOND FORM's CARD OF 'bowdlerlaw02.DividePows'. -/
def dividePowsUptoCard : Claim7 := { stood := { row := dividePowsUptoRow, standIns := [], harness := (true, "5b387cea130a448f2a96c073e5bb1c90f0e796631458cad8ecac2d81aea16ef9"), looks := false }, kinds := [], alts := [], laidByText := true, laidKinds := [.data, .data, .data, .data, .pinned], laidTests := true, laidLooks := .later }
def DividePowsUptoCardSaid : Prop := Claim7.holds Tryz.pinned (.plain (OpenSpec.upto dividePowsSpec)) dividePowsUptoCard

/-- THE SECOND FORM's CARD OF 'bowdlerlaw02.DivideSteps'. -/
def divideStepsUptoCard : Claim7 := { stood := { row := divideStepsUptoRow, standIns := [], harness := (true, "5b387cea130a448f2a96c073e5bb1c90f0e796631458cad8ecac2d81aea16ef9"), looks := false }, kinds := [], alts := [], laidByText := true, laidKinds := [.data, .data, .data, .data, .pinned], laidTests := true, laidLooks := .later }
def DivideStepsUptoCardSaid : Prop := Claim7.holds Tryz.pinned (.plain (OpenSpec.upto divideStepsSpec)) divideStepsUptoCard
end Rows
end Go.Proofs.YtmlmplmghlbdmaaGreatDoor
