/- What is proved here: what package tree's eachKid makes of a value, walked; condition: what it does with each kid is known; at most a million kids. What is proved here: what package tree's Clone and Bare make of a value, walked; condition: not too many keys and kids anywhere. What is proved here: what package tree's Bare and Tidy make of a value, walked; condition: not too many keys and kids anywhere. What is proved here: what the document's own Texts and Same answer of what is the same, walked. -/
import Derived.Test.YtppkknmgdahniaaDoorZDa
import Derived.Deep.RegionWith
import Derived.BigQuiet
import Derived.Deep.QuietTactic
namespace Go.Proofs.YtppkknmgdahniaaDoor
set_option maxRecDepth 100000
open Go.RowKit
set_option linter.unusedVariables false
set_option linter.unusedSimpArgs false

theorem kinfo_val : (Tryd.prog.info? 31).map (fun i => (i.zero, i.size, i.bytes)) = some (some (.agg #[.int .i64 0, .int .u64 0, .bool false, .string ⟨#[]⟩, .int .i64 0, .string ⟨#[]⟩, .slice none 0 0, .slice none 0 0, .int .i64 0]), 9, 120) := by kernel_rfl

/-- What lies in a row that is being filled. -/
def Filled (lo : Nat) (w : World) (n G k : Nat) (F : Tr → Tr) (l : List Tr) : Prop :=
  (∃ cur, w.heap[G]? = some (.cells cur 31 (0, 0)) ∧ cur.size = l.length * 9) ∧
  ∀ j, j < k → ∀ h : j < l.length, ∃ cs, Row9 w G (j * 9) cs ∧ Lies (fun b => lo ≤ b ∧ b ≠ G) w n (.agg cs) (F (l[j]'h))
theorem Filled.below {lo : Nat} {w w' : World} {n G k : Nat} {F : Tr → Tr} {l : List Tr} (h : Filled lo w n G k F l) (hb : Below w.heap.size w w') : Filled lo w' n G k F l := by
  obtain ⟨⟨cur, h1, h2⟩, h3⟩ := h
  have hG : G < w.heap.size := (Array.getElem?_eq_some_iff.1 h1).1
  refine ⟨⟨cur, by rw [hb.block G hG]; exact h1, h2⟩, fun j hj hl => ?_⟩
  obtain ⟨cs, r, p⟩ := h3 j hj hl
  exact ⟨cs, r.keep (ok := anyB) trivial hG (Kept.of_below hb), p.below hb⟩
theorem box2 (w : World) (c1 c2 : Array Value) (t1 t2 : TypeId) (W : World) (hB : Below ((w.alloc (.cells c1 t1)).alloc (.cells c2 t2)).heap.size ((w.alloc (.cells c1 t1)).alloc (.cells c2 t2)) W) :
    (∀ r, W.cell? ⟨w.heap.size, r, none⟩ = c1[r]?) ∧ (∀ r, W.cell? ⟨w.heap.size + 1, r, none⟩ = c2[r]?) ∧ (∀ r, W.frozen? ⟨w.heap.size, r, none⟩ = false) ∧ (∀ r, W.frozen? ⟨w.heap.size + 1, r, none⟩ = false) ∧ w.heap.size + 1 < W.heap.size ∧ Below w.heap.size w W := by
  have hz := hB.size
  have hz2 : ((w.alloc (.cells c1 t1)).alloc (.cells c2 t2)).heap.size = w.heap.size + 2 := by simp
  refine ⟨fun r => ?_, fun r => ?_, fun r => ?_, fun r => ?_, by omega, ?_⟩
  · rw [hB.cell (p := ⟨w.heap.size, r, none⟩) (by simp; omega), World.cell?_alloc_past _ _ _ (by simp)]
    exact World.cell?_alloc_at _ _ _ _ rfl
  · rw [hB.cell (p := ⟨w.heap.size + 1, r, none⟩) (by simp)]
    exact World.cell?_alloc_at _ _ _ _ (by simp)
  · rw [hB.frozen (p := ⟨w.heap.size, r, none⟩) (by simp; omega), World.frozen?_alloc_past _ _ _ (by simp)]
    exact World.frozen?_alloc_at _ _ _ _ rfl
  · rw [hB.frozen (p := ⟨w.heap.size + 1, r, none⟩) (by simp)]
    exact World.frozen?_alloc_at _ _ _ _ (by simp)
  · exact (((Below.refl _ w).alloc (Nat.le_refl _) _).alloc (by simp) _).trans (hB.mono (by omega))

end Go.Proofs.YtppkknmgdahniaaDoor

namespace Go.Proofs.YtppkknmgdahniaaDoor
set_option maxRecDepth 100000
open Go.RowKit
set_option linter.unusedVariables false
set_option linter.unusedSimpArgs false

end Go.Proofs.YtppkknmgdahniaaDoor

namespace Go.Proofs.YtppkknmgdahniaaDoor
set_option maxRecDepth 100000
open Go.RowKit
set_option linter.unusedVariables false
set_option linter.unusedSimpArgs false

end Go.Proofs.YtppkknmgdahniaaDoor

namespace Go.Proofs.YtppkknmgdahniaaDoor
set_option maxRecDepth 100000
open Go.RowKit
set_option linter.unusedVariables false
set_option linter.unusedSimpArgs false

theorem below_drewN' {B : Nat} {a w : World} (h : Below B a w) : ∀ {n : Nat}, Below B a (w.drewN n) := fun {n} => ⟨h.os, h.tape, h.output, h.size, h.block⟩
theorem beq_selfB (u : ByteArray) : (u.toList == u.toList) = true := beq_self_eq_true _
theorem bne_selfB (u : ByteArray) : (u.toList != u.toList) = false := bne_self_eq_false _
/-- Two boxes, in a later world. -/
theorem two_box (w : World) (c1 c2 : Array Value) (t1 t2 : TypeId) (W : World) (hB : Below ((w.alloc (.cells c1 t1)).alloc (.cells c2 t2)).heap.size ((w.alloc (.cells c1 t1)).alloc (.cells c2 t2)) W) :
    (∀ r, W.cell? ⟨w.heap.size, r, none⟩ = c1[r]?) ∧ (∀ r, W.cell? ⟨w.heap.size + 1, r, none⟩ = c2[r]?) ∧ Below w.heap.size w W := by
  have hz := hB.size
  refine ⟨fun r => ?_, fun r => ?_, ?_⟩
  · rw [hB.cell (p := ⟨w.heap.size, r, none⟩) (by simp; omega), World.cell?_alloc_past _ _ _ (by simp)]
    exact World.cell?_alloc_at _ _ _ _ rfl
  · rw [hB.cell (p := ⟨w.heap.size + 1, r, none⟩) (by simp)]
    exact World.cell?_alloc_at _ _ _ _ (by simp)
  · exact (((Below.refl _ w).alloc (Nat.le_refl _) _).alloc (by simp) _).trans (hB.mono (by simp; omega))

end Go.Proofs.YtppkknmgdahniaaDoor
