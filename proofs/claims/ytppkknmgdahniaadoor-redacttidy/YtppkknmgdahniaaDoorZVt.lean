/- What is proved here: eachNode with the visit of Label, walked: each node of a tree that lies in blocks of its own has the masks of its place; conditions: the policy lies, and as the theorem states. -/
import Derived.Test.YtppkknmgdahniaaDoorZYa
import Derived.Test.YtppkknmgdahniaaDoorZPy
import Derived.Deep.RegionHeld3
namespace Go.Proofs.YtppkknmgdahniaaDoor.Pol
set_option maxRecDepth 100000
open Go.RowKit Go.Proofs.YtppkknmgdahniaaDoor.Nc Go.Proofs.YtppkknmgdahniaaDoor.Np Go.Proofs.YtppkknmgdahniaaDoor.Nq
set_option linter.unusedVariables false
set_option linter.unusedSimpArgs false

/-- A row of kids, each with blocks of its own. -/
def KidsL (w : World) (n G : Nat) (s : Nat → Nat) (f : Nat → Tr) (N : Nat) : Prop := G < w.heap.size ∧ (∀ r, w.frozen? ⟨G, r, none⟩ = false) ∧ ∀ i, i < N → ∃ cs, Row9 w G (i * 9) cs ∧ Own w n (s i) (s (i + 1)) (.agg cs) (f i)
theorem KidsL.keep {w w' : World} {n G N hi : Nat} {s : Nat → Nat} {f : Nat → Tr} {ok : Nat → Prop} (h : KidsL w n G s f N) (s0 : s 0 = G + 1) (s1 : s N ≤ hi) (s2 : ∀ i, i < N → s i ≤ s (i + 1)) (hK : Kept ok w w') (hG : ∀ b, G ≤ b → b < hi → ok b) (hGh : G < hi) : KidsL w' n G s f N := by
  obtain ⟨h1, h2, h3⟩ := h
  have hGo := hG G (Nat.le_refl _) hGh
  refine ⟨Nat.lt_of_lt_of_le h1 hK.1, fun r => by rw [← h2 r]; exact World.frozen?_of_block (a := ⟨G, r, none⟩) (hK.2 G hGo h1), fun i hi => ?_⟩
  obtain ⟨cs, r, p⟩ := h3 i hi
  have m1 := s_mono s2 0 i (by omega) (by omega)
  have m2 := s_mono s2 (i + 1) N (by omega) (by omega)
  exact ⟨cs, r.keep hGo h1 hK, p.keep hK (fun b b1 b2 => hG b (by omega) (by omega))⟩
end Go.Proofs.YtppkknmgdahniaaDoor.Pol
