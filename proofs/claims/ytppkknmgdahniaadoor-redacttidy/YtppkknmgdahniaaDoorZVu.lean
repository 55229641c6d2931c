/- What is proved here: eachNode with the visit of Label, walked: each node of a tree that lies in blocks of its own has the masks of its place; conditions: the policy lies, and as the theorem states. -/
import Derived.Test.YtppkknmgdahniaaDoorZVt
namespace Go.Proofs.YtppkknmgdahniaaDoor.Pol
set_option maxRecDepth 100000
open Go.RowKit Go.Proofs.YtppkknmgdahniaaDoor.Nc Go.Proofs.YtppkknmgdahniaaDoor.Np Go.Proofs.YtppkknmgdahniaaDoor.Nq
set_option linter.unusedVariables false
set_option linter.unusedSimpArgs false

/-- What does not turn in the loop over the kids. -/
structure Ctx (w0 w2 : World) (n lo hi b G N m9 : Nat) (l : List Tr) (at9 : List Pm.St) (atv : Value) (s : Nat → Nat) : Prop where
  base : Below w0.heap.size w0 w2
  ok : ∀ t, t ∈ l → okT n t
  len : l.length = N
  alen : at9.length = m9
  bound : m9 + n + 1 ≤ 900
  lo0 : w0.heap.size ≤ lo
  loG : lo ≤ G
  Ghi : G < hi
  hisz : hi ≤ w2.heap.size
  bo : b < lo ∨ hi ≤ b
  r : ∀ g, atv.ownBlock = some g → (g < lo ∨ hi ≤ g) ∧ g ≠ b
  s0 : s 0 = G + 1
  s1 : s N ≤ hi
  s2 : ∀ i, i < N → s i ≤ s (i + 1)
end Go.Proofs.YtppkknmgdahniaaDoor.Pol
