/- What is proved here: what MayName of package cats, CutPrefix and Clone of the library, and printStep of package path do, walked; conditions: as each theorem states. What is proved here: the ways through readStep of package path, by the texts that a text begins with, and readPlainKey, walked; conditions: as each theorem states. Written by readstep_gen.py. What is proved here: what the closure of Parse does, that takes a step into its row, walked; conditions: as the theorem states. -/
import Derived.Test.YtppkknmgdahniaaDoorZBf
import Derived.Test.YtppkknmgdahniaaDoorZAc
import Derived.Test.YtppkknmgdahniaaDoorZAb
import Derived.Test.YtppkknmgdahniaaDoorZBd
import Derived.Lib.ItoaLen
import Derived.Test.YtppkknmgdahniaaDoorZBe
namespace Go.Proofs.YtppkknmgdahniaaDoor.Np
set_option maxRecDepth 100000
open Go.Proofs.YtppkknmgdahniaaDoor.Nq
open Go.RowKit
set_option linter.unusedVariables false
set_option linter.unusedSimpArgs false

/-- A step's text. -/
def prL (t : Pm.St) : List UInt8 :=
  if t.k = 1 then (if Cm.nameB t.s.data.toList then 46 :: t.s.data.toList else 91 :: (Qm.quoteL t.s.data.toList ++ [93]))
  else if t.k = 2 then 91 :: (Lib.itoa t.n ++ [93]) else if t.k = 3 then [46, 42] else if t.k = 4 then [91, 42, 93] else [42, 42]
theorem mayB_key {t : Pm.St} (h : mayB t = true) (h1 : t.k = 1) : t.s.size ≤ 24 ∧ t.n = 0 ∧ Lib.validD t.s.data.toList = true := by
  have hc := (mayB_cl h).1
  unfold mayB at h
  rw [if_pos h1, Bool.and_eq_true, Bool.and_eq_true, decide_eq_true_eq, decide_eq_true_eq] at h
  refine ⟨h.2.1, ?_, h.2.2⟩
  rw [← hc]; unfold Pm.bareS; rw [if_pos h1]
theorem mayB_at {t : Pm.St} (h : mayB t = true) (h2 : t.k = 2) : 0 ≤ t.n ∧ t.n ≤ 9999 ∧ t.s = Pm.nul := by
  have hc := (mayB_cl h).1
  unfold mayB at h
  rw [if_neg (by omega), if_pos h2, Bool.and_eq_true, Bool.and_eq_true, decide_eq_true_eq, decide_eq_true_eq, decide_eq_true_eq] at h
  refine ⟨h.2.1, h.2.2, ?_⟩
  rw [← hc]; unfold Pm.bareS; rw [if_neg (by omega), if_pos h2]
end Go.Proofs.YtppkknmgdahniaaDoor.Np

namespace Go.Proofs.YtppkknmgdahniaaDoor.Np
set_option maxRecDepth 100000
open Go.Proofs.YtppkknmgdahniaaDoor.Nq
open Go.RowKit
set_option linter.unusedVariables false
set_option linter.unusedSimpArgs false

/-- The block of a result that is a step. -/
def Res (B : Nat) (W : World) (g : Nat) : Prop := B ≤ g ∧ g < W.heap.size ∧ (W.cell? ⟨g, 0, none⟩ = some (.int .i64 0) ∧ W.cell? ⟨g, 1, none⟩ = some (.string ⟨#[]⟩) ∧ W.cell? ⟨g, 2, none⟩ = some (.int .i64 0)) ∧ (W.frozen? ⟨g, 0, none⟩ = false ∧ W.frozen? ⟨g, 1, none⟩ = false ∧ W.frozen? ⟨g, 2, none⟩ = false)
theorem Res.new (w : World) : Res w.heap.size (w.alloc (.cells #[.int .i64 0, .string ⟨#[]⟩, .int .i64 0] 54)) w.heap.size :=
  ⟨Nat.le_refl _, by simp, ⟨World.cell?_alloc_at _ _ _ _ rfl, World.cell?_alloc_at _ _ _ _ rfl, World.cell?_alloc_at _ _ _ _ rfl⟩, ⟨World.frozen?_alloc_at _ _ _ _ rfl, World.frozen?_alloc_at _ _ _ _ rfl, World.frozen?_alloc_at _ _ _ _ rfl⟩⟩
theorem Res.next {B g : Nat} {W W' : World} (h : Res B W g) (hB : Below W.heap.size W W') : Res B W' g := by
  obtain ⟨h1, h2, ⟨a0, a1, a2⟩, ⟨f0, f1, f2⟩⟩ := h
  exact ⟨h1, Nat.lt_of_lt_of_le h2 hB.size, ⟨(hB.cell (p := ⟨g, 0, none⟩) h2).trans a0, (hB.cell (p := ⟨g, 1, none⟩) h2).trans a1, (hB.cell (p := ⟨g, 2, none⟩) h2).trans a2⟩,
    ⟨(hB.frozen (p := ⟨g, 0, none⟩) h2).trans f0, (hB.frozen (p := ⟨g, 1, none⟩) h2).trans f1, (hB.frozen (p := ⟨g, 2, none⟩) h2).trans f2⟩⟩
end Go.Proofs.YtppkknmgdahniaaDoor.Np

namespace Go.Proofs.YtppkknmgdahniaaDoor.Np
set_option maxRecDepth 100000
open Go.Proofs.YtppkknmgdahniaaDoor.Nq
open Go.RowKit
set_option linter.unusedVariables false
set_option linter.unusedSimpArgs false

/-- What Parse has taken so far: how many, and the first eight. -/
def Acc (B : Nat) (W : World) (cb sb : Nat) (D : List Pm.St) : Prop :=
  B ≤ cb ∧ B ≤ sb ∧ cb ≠ sb ∧ cb < W.heap.size ∧ sb < W.heap.size ∧ W.cell? ⟨cb, 0, none⟩ = some (.int .i64 (D.length : Int)) ∧ W.frozen? ⟨cb, 0, none⟩ = false ∧ W.frozen? ⟨sb, 0, none⟩ = false ∧
    ∃ v, W.cell? ⟨sb, 0, none⟩ = some v ∧ W.ownsRow B 54 3 v (min 8 D.length) (rowS (D.take 8)) ∧ (v.ownBlock ≠ some cb ∧ v.ownBlock ≠ some sb)
theorem ownS_block {w w' : World} {base k : Nat} {v : Value} {xs : List Value} (h : w.ownsRow base 54 3 v k xs) (hB : ∀ g, v.ownBlock = some g → w'.heap[g]? = w.heap[g]?) : w'.ownsRow base 54 3 v k xs := by
  obtain ⟨h0, h⟩ := h
  refine ⟨h0, ?_⟩
  rcases h with ⟨e, e2⟩ | ⟨g', cap', cur, hv, hg, hh, r⟩
  · exact .inl ⟨e, e2⟩
  · refine .inr ⟨g', cap', cur, hv, hg, ?_, r⟩
    rw [hB g' (by rw [hv]; rfl)]
    exact hh
theorem frozen_set (W : World) (p : Addr) (u : Value) (a : Addr) : (W.setCell p u).frozen? a = W.frozen? a := by
  first | exact World.frozen?_setCell _ _ _ _ | simp
theorem Acc.next {B cb sb : Nat} {W W' : World} {D : List Pm.St} (h : Acc B W cb sb D) (hB : Below W.heap.size W W') : Acc B W' cb sb D := by
  obtain ⟨h1, h2, h3, h4, h5, h6, h7, h8, v, h9, h10, h11⟩ := h
  exact ⟨h1, h2, h3, Nat.lt_of_lt_of_le h4 hB.size, Nat.lt_of_lt_of_le h5 hB.size, (hB.cell (p := ⟨cb, 0, none⟩) h4).trans h6, (hB.frozen (p := ⟨cb, 0, none⟩) h4).trans h7, (hB.frozen (p := ⟨sb, 0, none⟩) h5).trans h8,
    v, (hB.cell (p := ⟨sb, 0, none⟩) h5).trans h9, ownS_block h10 (fun g hg => hB.block g (h10.lt g hg).2), h11⟩

end Go.Proofs.YtppkknmgdahniaaDoor.Np
