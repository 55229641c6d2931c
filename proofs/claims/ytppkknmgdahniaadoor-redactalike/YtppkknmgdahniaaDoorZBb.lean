/- What is proved here: what Names of package cats, and the document's own Names, do with a row of texts that lies, walked; conditions: as each theorem states. What is proved here: what the document's own Names does with a row of texts that lies, walked; conditions: as each theorem states. What is proved here: what Mask of package cats does with a row of names that lies, walked; conditions: as each theorem states. -/
import Derived.Test.YtppkknmgdahniaaDoorZBa
import Derived.Test.YtppkknmgdahniaaDoorZAb
import Derived.Test.YtppkknmgdahniaaDoorZAc
namespace Go.Proofs.YtppkknmgdahniaaDoor.Nc
set_option maxRecDepth 100000
open Go.RowKit Go.Maps
set_option linter.unusedVariables false
set_option linter.unusedSimpArgs false

/-- A builder stands as it stood, if nothing that lay has turned. -/
theorem stays {T e : TypeId} {B b : Nat} {bs : List Value} {W W' : World} (h : Lib.IsBuilderF T e B b bs W) (hk : Below W.heap.size W W') : Lib.IsBuilderF T e B b bs W' := by
  have one : ∀ p, Lib.BuilderAtF T e B b p bs W → Lib.BuilderAtF T e B b p bs W' := fun p g => by
    have hlt := g.lt
    obtain ⟨g1, v, g2, g3, g4⟩ := g
    refine ⟨g1, v, ?_, ?_, g4⟩
    · rw [hk.block b hlt]; exact g2
    · exact g3.kept (row := none) ⟨hk.os, hk.tape, hk.output, hk.size, fun k hl _ => hk.block k hl⟩ (Classical.em _)
  rcases h with h | h
  · exact .inl (one _ h)
  · exact .inr (one _ h)
end Go.Proofs.YtppkknmgdahniaaDoor.Nc

namespace Go.Proofs.YtppkknmgdahniaaDoor.Nc
set_option maxRecDepth 100000
open Go.RowKit Go.Maps
set_option linter.unusedVariables false
set_option linter.unusedSimpArgs false

end Go.Proofs.YtppkknmgdahniaaDoor.Nc

namespace Go.Proofs.YtppkknmgdahniaaDoor.Nc
set_option maxRecDepth 100000
open Go.RowKit Go.Maps
set_option linter.unusedVariables false
set_option linter.unusedSimpArgs false

theorem len_size (s : ByteArray) : s.data.toList.length = s.size := by rw [Array.length_toList]; rfl
end Go.Proofs.YtppkknmgdahniaaDoor.Nc
