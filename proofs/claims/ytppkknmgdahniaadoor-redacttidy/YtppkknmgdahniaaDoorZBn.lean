/- What is proved here: what readSteps of package path does with any text, told what readStep answers, and what Parse makes of it, walked; conditions: as each theorem states. Written by steps_p_gen.py. What is proved here: what Print of package path does with a row of steps that may be, walked; conditions: as each theorem states. -/
import Derived.Test.YtppkknmgdahniaaDoorZBg
import Derived.OwnWalk
import Derived.Deep.RegionHeld3
namespace Go.Proofs.YtppkknmgdahniaaDoor.Np
set_option maxRecDepth 100000
open Go.Proofs.YtppkknmgdahniaaDoor.Nq
open Go.RowKit
set_option linter.unusedVariables false
set_option linter.unusedSimpArgs false

theorem Acc.start (w : World) : Acc w.heap.size ((w.alloc (.cells #[.slice none 0 0] 52)).alloc (.cells #[.int .i64 0] 3)) (w.heap.size + 1) w.heap.size [] := by
  have h1 : (w.alloc (.cells #[.slice none 0 0] 52)).heap.size = w.heap.size + 1 := by simp
  have e1 := World.cell?_alloc_at (w := w.alloc (.cells #[.slice none 0 0] 52)) #[.int .i64 0] 3 (w.heap.size + 1) 0 h1.symm
  have e2 := World.frozen?_alloc_at (w := w.alloc (.cells #[.slice none 0 0] 52)) #[.int .i64 0] 3 (w.heap.size + 1) 0 h1.symm
  have e3 := (Below.refl _ _).alloc (a := w.alloc (.cells #[.slice none 0 0] 52)) (Nat.le_refl _) (.cells #[.int .i64 0] 3)
  refine ⟨by omega, Nat.le_refl _, by omega, by simp, by simp; omega, e1.trans rfl, e2, ?_, .slice none 0 0, ?_, ⟨rfl, .inl ⟨rfl, rfl⟩⟩, (fun e => by cases e), (fun e => by cases e)⟩
  · rw [e3.frozen (p := ⟨w.heap.size, 0, none⟩) (by simp)]
    exact World.frozen?_alloc_at _ _ _ _ rfl
  · rw [e3.cell (p := ⟨w.heap.size, 0, none⟩) (by simp)]
    exact World.cell?_alloc_at _ _ _ _ rfl

end Go.Proofs.YtppkknmgdahniaaDoor.Np

namespace Go.Proofs.YtppkknmgdahniaaDoor.Np
set_option maxRecDepth 100000
open Go.Proofs.YtppkknmgdahniaaDoor.Nq
open Go.RowKit
set_option linter.unusedVariables false
set_option linter.unusedSimpArgs false

def ptL (L : List Pm.St) : List UInt8 := 36 :: L.flatMap prL
end Go.Proofs.YtppkknmgdahniaaDoor.Np
