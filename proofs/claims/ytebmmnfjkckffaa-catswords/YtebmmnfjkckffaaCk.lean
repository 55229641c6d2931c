/- What is proved here: what shown of the laws does (the document's example), walked; conditions: none. -/
import Derived.Test.YtebmmnfjkckffaaCi
namespace Go.Proofs.Ytebmmnfjkckffaa
open Go.RowKit Go.Maps
set_option linter.unusedVariables false
set_option linter.unusedSimpArgs false

def L3 : List Cm.Tx := [[112, 105, 105], [103, 101, 111], [109, 101, 100]]
theorem shown_mask : Cm.maskF L3 0 (Cm.words (⟨#[109, 101, 100, 32, 32, 112, 105, 105]⟩ : ByteArray).data.toList) = (5, 0) := by decide +kernel
theorem row_new (w : World) (L : List Cm.Tx) (t : TypeId) : RowAt (w.alloc (.cells (L.map fun l => Value.string ⟨l.toArray⟩).toArray t)) w.heap.size L := by
  refine ⟨by simp, fun i hi => ?_⟩
  have := cell_of_row (w.alloc (.cells (L.map fun l => Value.string ⟨l.toArray⟩).toArray t)) w.heap.size i _ t (0, 0) (heap_alloc_new w _)
  rw [this]
  simp [hi]

set_option maxRecDepth 100000 in
theorem shown_any (w : World) : Calls Try.prog 8 #[] w fun e w' => e = .returned (.bool true) ∧ Below w.heap.size w w' := by
  have hr := row_new w L3 9
  have C := fun W (h : RowAt W w.heap.size L3) => mask_any w.heap.size 3 3 L3 rfl (by omega) (by decide) (by decide) ⟨#[109, 101, 100, 32, 32, 112, 105, 105]⟩ (by decide) 5 0 shown_mask W h
  have W1 := fun W => within_any 5 7 (by omega) (by omega) W
  have W2 := fun W => within_any 5 4 (by omega) (by omega) W
  rw [show Cm.subB 5 7 = true from rfl] at W1
  rw [show Cm.subB 5 4 = false from rfl] at W2
  go_enter Try.func8, Try.ntmps8
  go_wp2_with fail
  refine (C _ hr).mono ?_
  rintro e w1 ⟨rfl, hB⟩
  go_wp2_with fail
  refine (W1 _).mono ?_
  rintro e w2 ⟨rfl, rfl⟩
  go_wp2_with fail
  refine (W2 _).mono ?_
  rintro e w3 ⟨rfl, rfl⟩
  go_wp2
  go_ret
  exact ⟨rfl, ((Below.refl _ _).alloc (Nat.le_refl _) _).trans (hB.mono (by simp))⟩
end Go.Proofs.Ytebmmnfjkckffaa
