/- What is proved here: RedactMore, walked; conditions: the row of items lies, the table of powers of ten lies. -/
import Derived.Test.YtppkknmgdahniaaDoorZYg
import Derived.Test.YtppkknmgdahniaaDoorZYe
import Derived.Test.YtppkknmgdahniaaDoorZYj
namespace Go.Proofs.YtppkknmgdahniaaDoor.Pol
set_option maxRecDepth 100000
open Go.RowKit Go.Proofs.YtppkknmgdahniaaDoor.Nc Go.Proofs.YtppkknmgdahniaaDoor.Np Go.Proofs.YtppkknmgdahniaaDoor.Nq
set_option maxRecDepth 100000
set_option linter.unusedVariables false
set_option linter.unusedSimpArgs false

theorem txt_of (l : List UInt8) : ∃ s : ByteArray, l = s.data.toList := ⟨⟨l.toArray⟩, by simp⟩
end Go.Proofs.YtppkknmgdahniaaDoor.Pol
