/-
  DERIVED. GIVEN WITH THE SEED: THE CARDS: each row of YtijelgmmmceflaaDoorRows.lean that lists a variable, with what it lists TIED to the program's text (the seventh form; the later family's looks); each row that meets fmt, with fmt's text TOLD by the authors' own Lean function (tested against real Go, not proved from fmt's source: count such statements apart). THE CARD IS WHAT COUNTS. Prove the row's statement (the work); the ties are given (YtijelgmmmceflaaDoorTie.lean); close each card by the builder's one call (the guide's Derived/Test/ToyasCard.lean, 'card_holds'). Laid BY PROGRAM, IN A SANDBOX (cutbox-door.mjs). By AI agents, Wed Nov 11 2026. No macro, syntax, notation, axiom, sorry.
-/
import Derived.Test.YtijelgmmmceflaaDoorRows
import GoSem.ClaimSeven
namespace Go.Proofs.YtijelgmmmceflaaDoor
namespace Rows

/-- THE TIED CARD OF 'bowdlerlaw01.DecParses'. -/
def decParsesCard : Claim7 := { stood := { row := decParsesRow, standIns := [], harness := (true, "04b702dc8c30b18d28214ad040d1c968c4930ea9d81c4b38ac96f4cbb3b0f1d1"), looks := false }, kinds := [], alts := [], laidByText := true, laidKinds := [.data, .data, .data, .data, .pinned], laidTests := true, laidLooks := .later }
def DecParsesCardSaid : Prop := Claim7.holds Tryd.pinned (.plain (OpenSpec.ofChange decParsesSpec)) decParsesCard

/-- THE TIED CARD OF 'bowdlerlaw01.DecWorks'. -/
def decWorksCard : Claim7 := { stood := { row := decWorksRow, standIns := [], harness := (true, "04b702dc8c30b18d28214ad040d1c968c4930ea9d81c4b38ac96f4cbb3b0f1d1"), looks := false }, kinds := [], alts := [], laidByText := true, laidKinds := [.data, .pinned], laidTests := true, laidLooks := .later }
def DecWorksCardSaid : Prop := Claim7.holds Tryd.pinned (.plain (OpenSpec.ofChange decWorksSpec)) decWorksCard

/-- THE TIED CARD OF 'bowdlerlaw01.DecBack'. -/
def decBackCard : Claim7 := { stood := { row := decBackRow, standIns := [], harness := (true, "04b702dc8c30b18d28214ad040d1c968c4930ea9d81c4b38ac96f4cbb3b0f1d1"), looks := false }, kinds := [], alts := [], laidByText := true, laidKinds := [.data, .pinned], laidTests := true, laidLooks := .later }
def DecBackCardSaid : Prop := Claim7.holds Tryd.pinned (.plain (OpenSpec.ofChange decBackSpec)) decBackCard

/-- THE TIED CARD OF 'bowdlerlaw01.DecRules'. -/
def decRulesCard : Claim7 := { stood := { row := decRulesRow, standIns := [], harness := (true, "04b702dc8c30b18d28214ad040d1c968c4930ea9d81c4b38ac96f4cbb3b0f1d1"), looks := false }, kinds := [], alts := [], laidByText := true, laidKinds := [.data, .pinned], laidTests := true, laidLooks := .later }
def DecRulesCardSaid : Prop := Claim7.holds Tryd.pinned (.plain (OpenSpec.ofChange decRulesSpec)) decRulesCard

/-- THE TIED CARD OF 'bowdlerlaw01.DecOrder'. -/
def decOrderCard : Claim7 := { stood := { row := decOrderRow, standIns := [], harness := (true, "04b702dc8c30b18d28214ad040d1c968c4930ea9d81c4b38ac96f4cbb3b0f1d1"), looks := false }, kinds := [], alts := [], laidByText := true, laidKinds := [.data, .data, .data, .data, .pinned], laidTests := true, laidLooks := .later }
def DecOrderCardSaid : Prop := Claim7.holds Tryd.pinned (.plain (OpenSpec.ofChange decOrderSpec)) decOrderCard

/-- THE TIED CARD OF 'bowdlerlaw01.DecInts'. -/
def decIntsCard : Claim7 := { stood := { row := decIntsRow, standIns := [], harness := (true, "04b702dc8c30b18d28214ad040d1c968c4930ea9d81c4b38ac96f4cbb3b0f1d1"), looks := false }, kinds := [], alts := [], laidByText := true, laidKinds := [.data, .data, .data, .data, .pinned], laidTests := true, laidLooks := .later }
def DecIntsCardSaid : Prop := Claim7.holds Tryd.pinned (.plain (OpenSpec.ofChange decIntsSpec)) decIntsCard

/-- THE TIED CARD OF 'bowdlerlaw01.DecScale'. -/
def decScaleCard : Claim7 := { stood := { row := decScaleRow, standIns := [], harness := (true, "04b702dc8c30b18d28214ad040d1c968c4930ea9d81c4b38ac96f4cbb3b0f1d1"), looks := false }, kinds := [], alts := [], laidByText := true, laidKinds := [.data, .pinned], laidTests := true, laidLooks := .later }
def DecScaleCardSaid : Prop := Claim7.holds Tryd.pinned (.plain (OpenSpec.ofChange decScaleSpec)) decScaleCard

/-- THE TIED CARD OF 'bowdlerlaw01.DecPrints'. -/
def decPrintsCard : Claim7 := { stood := { row := decPrintsRow, standIns := [], harness := (true, "04b702dc8c30b18d28214ad040d1c968c4930ea9d81c4b38ac96f4cbb3b0f1d1"), looks := false }, kinds := [], alts := [], laidByText := true, laidKinds := [.data, .pinned], laidTests := true, laidLooks := .later }
def DecPrintsCardSaid : Prop := Claim7.holds Tryd.pinned (.plain (OpenSpec.ofChange decPrintsSpec)) decPrintsCard

/-- THE SECOND FORM's CARD OF 'bowdlerlaw01.DecParses'. -/
def decParsesUptoCard : Claim7 := { stood := { row := decParsesUptoRow, standIns := [], harness := (true, "04b702dc8c30b18d28214ad040d1c968c4930ea9d81c4b38ac96f4cbb3b0f1d1"), looks := false }, kinds := [], alts := [], laidByText := true, laidKinds := [.data, .data, .data, .data, .pinned], laidTests := true, laidLooks := .later }
def DecParsesUptoCardSaid : Prop := Claim7.holds Tryd.pinned (.plain (OpenSpec.upto decParsesSpec)) decParsesUptoCard

/-- THE SECOND FORM's CARD OF 'bowdlerlaw01.DecWorks'. -/
def decWorksUptoCard : Claim7 := { stood := { row := decWorksUptoRow, standIns := [], harness := (true, "04b702dc8c30b18d28214ad040d1c968c4930ea9d81c4b38ac96f4cbb3b0f1d1"), looks := false }, kinds := [], alts := [], laidByText := true, laidKinds := [.data, .pinned], laidTests := true, laidLooks := .later }
def DecWorksUptoCardSaid : Prop := Claim7.holds Tryd.pinned (.plain (OpenSpec.upto decWorksSpec)) decWorksUptoCard

/-- THE SECOND FORM's CARD OF 'bowdlerlaw01.DecBack'. -/
def decBackUptoCard : Claim7 := { stood := { row := decBackUptoRow, standIns := [], harness := (true, "04b702dc8c30b18d28214ad040d1c968c4930ea9d81c4b38ac96f4cbb3b0f1d1"), looks := false }, kinds := [], alts := [], laidByText := true, laidKinds := [.data, .pinned], laidTests := true, laidLooks := .later }
def DecBackUptoCardSaid : Prop := Claim7.holds Tryd.pinned (.plain (OpenSpec.upto decBackSpec)) decBackUptoCard

/-- THE SECOND FORM's CARD OF 'bowdlerlaw01.DecRules'. -/
def decRulesUptoCard : Claim7 := { stood := { row := decRulesUptoRow, standIns := [], harness := (true, "04b702dc8c30b18d28214ad040d1c968c4930ea9d81c4b38ac96f4cbb3b0f1d1"), looks := false }, kinds := [], alts := [], laidByText := true, laidKinds := [.data, .pinned], laidTests := true, laidLooks := .later }
def DecRulesUptoCardSaid : Prop := Claim7.holds Tryd.pinned (.plain (OpenSpec.upto decRulesSpec)) decRulesUptoCard

/-- THE SECOND FORM's CARD OF 'bowdlerlaw01.DecOrder'. -/
def decOrderUptoCard : Claim7 := { stood := { row := decOrderUptoRow, standIns := [], harness := (true, "04b702dc8c30b18d28214ad040d1c968c4930ea9d81c4b38ac96f4cbb3b0f1d1"), looks := false }, kinds := [], alts := [], laidByText := true, laidKinds := [.data, .data, .data, .data, .pinned], laidTests := true, laidLooks := .later }
def DecOrderUptoCardSaid : Prop := Claim7.holds Tryd.pinned (.plain (OpenSpec.upto decOrderSpec)) decOrderUptoCard

/-- THE SECOND FORM's CARD OF 'bowdlerlaw01.DecInts'. -/
def decIntsUptoCard : Claim7 := { stood := { row := decIntsUptoRow, standIns := [], harness := (true, "04b702dc8c30b18d28214ad040d1c968c4930ea9d81c4b38ac96f4cbb3b0f1d1"), looks := false }, kinds := [], alts := [], laidByText := true, laidKinds := [.data, .data, .data, .data, .pinned], laidTests := true, laidLooks := .later }
def DecIntsUptoCardSaid : Prop := Claim7.holds Tryd.pinned (.plain (OpenSpec.upto decIntsSpec)) decIntsUptoCard

/-- THE SECOND FORM's CARD OF 'bowdlerlaw01.DecScale'. -/
def decScaleUptoCard : Claim7 := { stood := { row := decScaleUptoRow, standIns := [], harness := (true, "04b702dc8c30b18d28214ad040d1c968c4930ea9d81c4b38ac96f4cbb3b0f1d1"), looks := false }, kinds := [], alts := [], laidByText := true, laidKinds := [.data, .pinned], laidTests := true, laidLooks := .later }
def DecScaleUptoCardSaid : Prop := Claim7.holds Tryd.pinned (.plain (OpenSpec.upto decScaleSpec)) decScaleUptoCard

/-- THE SECOND FORM's CARD OF 'bowdlerlaw01.DecPrints'. -/
def decPrintsUptoCard : Claim7 := { stood := { row := decPrintsUptoRow, standIns := [], harness := (true, "04b702dc8c30b18d28214ad040d1c968c4930ea9d81c4b38ac96f4cbb3b0f1d1"), looks := false }, kinds := [], alts := [], laidByText := true, laidKinds := [.data, .pinned], laidTests := true, laidLooks := .later }
def DecPrintsUptoCardSaid : Prop := Claim7.holds Tryd.pinned (.plain (OpenSpec.upto decPrintsSpec)) decPrintsUptoCard
end Rows
end Go.Proofs.YtijelgmmmceflaaDoor
