/- What is proved here: a row of steps behind one of the call's own, at a step of a region that draws its order; conditions: as each theorem states. -/
import Derived.Test.YtomhgafpjpnmdaaGreatDoorPy
namespace Go.Proofs.YtomhgafpjpnmdaaGreatDoor
open Go.RowKit
set_option linter.unusedVariables false
set_option linter.unusedSimpArgs false

theorem oper_append_steps (w : World) {o : Oper} {a : Act} {K : Act → World → Prop} {Q : Exit → Act → World → Prop} (s x : Operand)
    (ho : o.op = .call { callee := .builtin .append, args := #[s, x], argTypes := #[22, 22] })
    (base g cap n : Nat) (X : List Pm.St) (hs : a.eval s = .slice (some ⟨g, 0, none⟩) n cap) (hown : w.ownsRow base 33 3 (.slice (some ⟨g, 0, none⟩) n cap) n (rowS X))
    (b ob m c : Nat) (Y : List Pm.St) (hx : a.eval x = .slice (some ⟨b, ob, none⟩) m c) (hl : Y.length = m) (hY : RowSt w b ob Y)
    (hnm : n + m ≤ 1000) (hbase : base ≤ w.heap.size)
    (h : ∀ g' cap' w', w'.ownsRow base 33 3 (.slice (some ⟨g', 0, none⟩) (n + m) cap') (n + m) (rowS (X ++ Y)) → w.grownBy w' (some g) → (g' = g ∨ w.heap.size ≤ g') → K (a.put o.dst (.slice (some ⟨g', 0, none⟩) (n + m) cap')) w') :
    Oper.wp Tryz.prog o a w K Q := by
  obtain ⟨i0, hi, hz0, hz1, hz2⟩ := info_parts infoS
  obtain ⟨g', cap', w', hr, h2, h3, h4⟩ := run_append_own2 (P := Tryz.prog) w base 22 o.type 33 i0 (.agg #[.int .i64 0, .string ⟨#[]⟩, .int .i64 0]) 3 32 Tryz.underlying22 hi hz0 hz1 hz2 rfl (by decide) g cap n (rowS X) hown ⟨b, ob, none⟩ m c (rowS Y) (by rw [rowS_len, hl]) hY.news rowS_one (by unfold maxLen; omega) (by omega) hbase
  unfold Oper.wp execOp
  simp only [ho, resolve, invoke, builtin, Sem.run_bind, Sem.run_pure, Result.andThen_ok, List.map_toArray, List.map_cons, List.map_nil, hs, hx, hr]
  exact h g' cap' w' (by rw [rowS_app]; exact h2) h3 h4
theorem RowSt.grown {w w' : World} {b o g : Nat} {L : List Pm.St} (h : RowSt w b o L) (hg : w.grownBy w' (some g)) (hne : b ≠ g) : RowSt w' b o L := by
  have e : w'.heap[b]? = w.heap[b]? := hg.block b h.1 (fun e => hne (Option.some.inj e))
  exact ⟨Nat.lt_of_lt_of_le h.1 hg.size, fun i hi => ⟨(World.cell?_of_block (w := w) e).trans (h.2 i hi).1, (World.cell?_of_block (w := w) e).trans (h.2 i hi).2.1, (World.cell?_of_block (w := w) e).trans (h.2 i hi).2.2⟩⟩
theorem own_alloc {w : World} {base g k cap : Nat} {xs : List Value} (h : w.ownsRow base 33 3 (.slice (some ⟨g, 0, none⟩) k cap) k xs) (o : Obj) : (w.alloc o).ownsRow base 33 3 (.slice (some ⟨g, 0, none⟩) k cap) k xs := ownS_step h ((Below.refl _ _).alloc (Nat.le_refl _) o)
theorem row2_new (w : World) (t u : Pm.St) (ty : TypeId) : RowSt (w.alloc (.cells #[.int .i64 t.k, .string t.s, .int .i64 t.n, .int .i64 u.k, .string u.s, .int .i64 u.n] ty)) w.heap.size 0 [t, u] := by
  refine ⟨by simp, fun i hi => ?_⟩
  have hi3 : i = 0 ∨ i = 1 := by simp at hi; omega
  rcases hi3 with rfl | rfl <;> exact ⟨World.cell?_alloc_at _ _ _ _ rfl, World.cell?_alloc_at _ _ _ _ rfl, World.cell?_alloc_at _ _ _ _ rfl⟩
end Go.Proofs.YtomhgafpjpnmdaaGreatDoor
