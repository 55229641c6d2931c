/- What is proved here: what package tree's eachKid makes of a value, walked; condition: what it does with each kid is known; at most a million kids. What is proved here: what package tree's Clone and Bare make of a value, walked; condition: not too many keys and kids anywhere. What is proved here: what package tree's Bare and Tidy make of a value, walked; condition: not too many keys and kids anywhere. What is proved here: what the document's own Texts and Same answer of what is the same, walked. -/
import Derived.Test.YtjjagpebpnmniaaDoorZDa
import Derived.Deep.RegionWith
import Derived.BigQuiet
import Derived.Deep.QuietTactic
namespace Go.Proofs.YtjjagpebpnmniaaDoor
set_option maxRecDepth 100000
open Go.RowKit
set_option linter.unusedVariables false
set_option linter.unusedSimpArgs false

theorem kinfo_val : (Tryd.prog.info? 31).map (fun i => (i.zero, i.size, i.bytes)) = some (some (.agg #[.int .i64 0, .int .u64 0, .bool false, .string ⟨#[]⟩, .int .i64 0, .string ⟨#[]⟩, .slice none 0 0, .slice none 0 0, .int .i64 0]), 9, 120) := by kernel_rfl

/-- What lies in a row that is being filled. -/
def Filled (lo : Nat) (w : World) (n G k : Nat) (F : Tr → Tr) (l : List Tr) : Prop :=
  (∃ cur, w.heap[G]? = some (.cells cur 31 (0, 0)) ∧ cur.size = l.length * 9) ∧
  ∀ j, j < k → ∀ h : j < l.length, ∃ cs, Row9 w G (j * 9) cs ∧ Lies (fun b => lo ≤ b ∧ b ≠ G) w n (.agg cs) (F (l[j]'h))
theorem Filled.below {lo : Nat} {w w' : World} {n G k : Nat} {F : Tr → Tr} {l : List Tr} (h : Filled lo w n G k F l) (hb : Below w.heap.size w w') : Filled lo w' n G k F l := by
  obtain ⟨⟨cur, h1, h2⟩, h3⟩ := h
  have hG : G < w.heap.size := (Array.getElem?_eq_some_iff.1 h1).1
  refine ⟨⟨cur, by rw [hb.block G hG]; exact h1, h2⟩, fun j hj hl => ?_⟩
  obtain ⟨cs, r, p⟩ := h3 j hj hl
  exact ⟨cs, r.keep (ok := anyB) trivial hG (Kept.of_below hb), p.below hb⟩
end Go.Proofs.YtjjagpebpnmniaaDoor

namespace Go.Proofs.YtjjagpebpnmniaaDoor
set_option maxRecDepth 100000
open Go.RowKit
set_option linter.unusedVariables false
set_option linter.unusedSimpArgs false

end Go.Proofs.YtjjagpebpnmniaaDoor

namespace Go.Proofs.YtjjagpebpnmniaaDoor
set_option maxRecDepth 100000
open Go.RowKit
set_option linter.unusedVariables false
set_option linter.unusedSimpArgs false

end Go.Proofs.YtjjagpebpnmniaaDoor

namespace Go.Proofs.YtjjagpebpnmniaaDoor
set_option maxRecDepth 100000
open Go.RowKit
set_option linter.unusedVariables false
set_option linter.unusedSimpArgs false

theorem below_drewN' {B : Nat} {a w : World} (h : Below B a w) : ∀ {n : Nat}, Below B a (w.drewN n) := fun {n} => ⟨h.os, h.tape, h.output, h.size, h.block⟩
theorem beq_selfB (u : ByteArray) : (u.toList == u.toList) = true := beq_self_eq_true _
theorem bne_selfB (u : ByteArray) : (u.toList != u.toList) = false := bne_self_eq_false _
end Go.Proofs.YtjjagpebpnmniaaDoor
