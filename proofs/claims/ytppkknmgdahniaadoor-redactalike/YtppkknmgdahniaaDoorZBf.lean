/- What is proved here: what mayStep and May of package path, and the document's own may and May, do with steps that lie, walked; conditions: the tables of unicode/utf8 lie, and as each theorem states. What is proved here: what the document's own may, May, one and Match do with steps that lie, walked; conditions: as each theorem states. -/
import Derived.Test.YtppkknmgdahniaaDoorZBe
import Derived.Test.YtppkknmgdahniaaDoorZBc
import Derived.Deep.OwnRows
import Derived.Deep.DeepCutAuto
import Derived.Deep.CutRange
import Derived.Deep.CutBlock
import Derived.Deep.RegionWith
namespace Go.Proofs.YtppkknmgdahniaaDoor.Np
set_option maxRecDepth 100000
open Go.RowKit
set_option linter.unusedVariables false
set_option linter.unusedSimpArgs false

/-- Whether a step may be. -/
def mayB (t : Pm.St) : Bool := decide (t = Pm.bareS t) && (if t.k = 1 then decide (t.s.size ≤ 24) && Lib.validD t.s.data.toList else if t.k = 2 then decide (0 ≤ t.n) && decide (t.n ≤ 9999) else decide (3 ≤ t.k) && decide (t.k ≤ 5))
def mayE (L : List Pm.St) : Int := if 8 < L.length then 3 else if L.all mayB then 0 else 21
theorem mayB_cl {t : Pm.St} (h : mayB t = true) : Pm.Cl t := by
  unfold mayB at h
  rw [Bool.and_eq_true, decide_eq_true_eq] at h
  refine ⟨h.1.symm, ?_⟩
  by_cases h1 : t.k = 1
  · omega
  by_cases h2 : t.k = 2
  · omega
  rw [if_neg h1, if_neg h2, Bool.and_eq_true, decide_eq_true_eq, decide_eq_true_eq] at h
  omega
theorem mayE_len {L : List Pm.St} (h : mayE L = 0) : L.length ≤ 8 ∧ ∀ t ∈ L, mayB t = true := by
  unfold mayE at h
  split at h
  · cases h
  · split at h
    · rename_i h1 h2
      exact ⟨by omega, List.all_eq_true.1 h2⟩
    · cases h
end Go.Proofs.YtppkknmgdahniaaDoor.Np

namespace Go.Proofs.YtppkknmgdahniaaDoor.Np
set_option maxRecDepth 100000
open Go.RowKit
set_option linter.unusedVariables false
set_option linter.unusedSimpArgs false

end Go.Proofs.YtppkknmgdahniaaDoor.Np
