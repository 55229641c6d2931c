/- What is proved here: how what is told of trees hangs together: bare, tidy, with, deep, held, flat. What is proved here: what the statements' own flat answers, walked. -/
import Derived.Test.YtjjagpebpnmniaaDoorZDf
import Derived.Deep.RegionWith
import Derived.Test.YtjjagpebpnmniaaDoorZDg
import Derived.Deep.LoopGhost
import Derived.Test.YtjjagpebpnmniaaDoorZDd
import Derived.Test.YtjjagpebpnmniaaDoorZDb
namespace Go.Proofs.YtjjagpebpnmniaaDoor
set_option maxRecDepth 100000
set_option linter.unusedVariables false
set_option linter.unusedSimpArgs false

end Go.Proofs.YtjjagpebpnmniaaDoor

namespace Go.Proofs.YtjjagpebpnmniaaDoor
set_option maxRecDepth 100000
open Go.RowKit
set_option linter.unusedVariables false
set_option linter.unusedSimpArgs false

end Go.Proofs.YtjjagpebpnmniaaDoor
/- What is proved here: what the document's own Bare makes of a value, walked; condition: not too many keys and kids anywhere. What is proved here: cmp.Compare of ints, and what the statements' own null and one answer. What is proved here: what package tree's Cmp answers of values of two kinds, and of lists; May of null. What is proved here: what package tree's May answers of null. What is proved here: the document's examples of the statements of trees hold. What is proved here: the document's examples, which stand at the head of the statements of trees, hold. -/
namespace Go.Proofs.YtjjagpebpnmniaaDoor
set_option maxRecDepth 100000
open Go.RowKit
set_option linter.unusedVariables false
set_option linter.unusedSimpArgs false

/-- A value more, in a row that is owned. -/
theorem RowOk.more {ok1 ok2 : Nat → Prop} {lo d g cap g' cap' : Nat} {w w' : World} {Ts : List Tr} {css : List (List Value)} {c : List Value} {t : Tr} (h1 : css.length = Ts.length) (h2 : ∀ c, c ∈ css → c.length = 9 ∧ ∀ u, u ∈ c → u.oneCell' = true)
    (h4 : ∀ j, ∀ h1 : j < css.length, ∀ h2 : j < Ts.length, Lies ok1 w d (.agg (css[j]'h1).toArray) (Ts[j]'h2))
    (hc : c.length = 9 ∧ ∀ u, u ∈ c → u.oneCell' = true) (hl : Lies ok1 w d (.agg c.toArray) t)
    (hown : w'.ownsRow lo 31 9 (.slice (some ⟨g', 0, none⟩) (Ts.length + 1) cap') (Ts.length + 1) (css.flatten ++ c)) (hgr : w.grownBy w' (some g)) (hng : ∀ b, ok1 b → b ≠ g) (hi : ∀ b, b < w.heap.size → ok1 b → ok2 b) : RowOk ok2 lo w' d g' cap' (Ts ++ [t]) := by
  have hkept : Kept ok1 w w' := ⟨hgr.size, fun b hb hlb => hgr.block b hlb (fun e => hng b hb (Option.some.inj e))⟩
  refine ⟨css ++ [c], by simp [h1], ?_, ?_, ?_⟩
  · intro x hx
    rcases List.mem_append.1 hx with hx | hx
    · exact h2 x hx
    · rw [List.mem_singleton.1 hx]; exact hc
  · rw [List.flatten_append, List.length_append]
    simpa using hown
  · intro j j1 j2
    by_cases e : j < css.length
    · rw [List.getElem_append_left e, List.getElem_append_left (by omega)]
      exact (h4 j e (by omega)).keep hkept hi
    · have e2 : j = css.length := by simp at j1; omega
      subst e2
      rw [List.getElem_append_right (by omega), List.getElem_append_right (by omega)]
      simp only [h1, Nat.sub_self, List.getElem_cons_zero]
      exact hl.keep hkept hi
theorem RowOk.lt {ok : Nat → Prop} {lo d g cap : Nat} {w : World} {Ts : List Tr} (h : RowOk ok lo w d g cap Ts) : lo ≤ g ∧ g < w.heap.size ∧ Ts.length ≤ cap := by
  obtain ⟨css, _, _, hown, _⟩ := h
  have h1 := hown.lt g rfl
  refine ⟨h1.1, h1.2, ?_⟩
  rcases hown.2 with ⟨e, _⟩ | ⟨g', cap', cur, hv, _, _, hnc, _⟩
  · cases e
  · rw [(Value.slice.inj hv).2.2]
    exact hnc
theorem RowOk.nil (ok : Nat → Prop) (lo d : Nat) (W : World) (hlo : lo ≤ W.heap.size) : RowOk ok lo (W.alloc (.cells #[] 31)) d W.heap.size 0 [] :=
  ⟨[], rfl, fun c hc => absurd hc (by simp), World.ownsRow_made W #[] 0 hlo (by decide) rfl, fun j h1 h2 => absurd h1 (by simp)⟩
end Go.Proofs.YtjjagpebpnmniaaDoor

namespace Go.Proofs.YtjjagpebpnmniaaDoor
set_option maxRecDepth 100000
open Go.RowKit
set_option linter.unusedVariables false
set_option linter.unusedSimpArgs false

end Go.Proofs.YtjjagpebpnmniaaDoor

namespace Go.Proofs.YtjjagpebpnmniaaDoor
set_option maxRecDepth 100000
open Go.RowKit
set_option linter.unusedVariables false
set_option linter.unusedSimpArgs false

end Go.Proofs.YtjjagpebpnmniaaDoor

namespace Go.Proofs.YtjjagpebpnmniaaDoor
set_option maxRecDepth 100000
open Go.RowKit
set_option linter.unusedVariables false
set_option linter.unusedSimpArgs false

end Go.Proofs.YtjjagpebpnmniaaDoor

namespace Go.Proofs.YtjjagpebpnmniaaDoor
set_option maxRecDepth 100000
open Go.RowKit
set_option linter.unusedVariables false
set_option linter.unusedSimpArgs false

end Go.Proofs.YtjjagpebpnmniaaDoor

namespace Go.Proofs.YtjjagpebpnmniaaDoor
set_option maxRecDepth 100000
open Go.RowKit
set_option linter.unusedVariables false
set_option linter.unusedSimpArgs false

end Go.Proofs.YtjjagpebpnmniaaDoor
/- What is proved here: a copy's row of kids lies in a block of its own that may be written to. What is proved here: package tree's Same is true of one tree, walked; what the document's own With makes of a value. -/
namespace Go.Proofs.YtjjagpebpnmniaaDoor
set_option maxRecDepth 100000
open Go.RowKit
set_option linter.unusedVariables false
set_option linter.unusedSimpArgs false

/-- The row of kids lies in a new block that may be written to. -/
def FreeRow (lo : Nat) (W : World) (v : Value) : Prop := ∀ cs b o n c, v = .agg cs → cs[7]? = some (.slice (some ⟨b, o, none⟩) n c) → lo ≤ b ∧ b < W.heap.size ∧ ∀ r, W.frozen? ⟨b, r, none⟩ = false
theorem FreeRow.nil (lo : Nat) (W : World) (x0 x1 x2 x3 x4 x5 x6 x8 : Value) (n c : Nat) : FreeRow lo W (.agg #[x0, x1, x2, x3, x4, x5, x6, .slice none n c, x8]) := by
  intro cs b o n c e h
  obtain rfl := Value.agg.inj e
  simp at h
theorem FreeRow.one {lo : Nat} {W W0 : World} {G n c : Nat} {t : TypeId} {x0 x1 x2 x3 x4 x5 x6 x8 : Value} (hlo : lo ≤ G) (h0 : W0.heap.size ≤ W.heap.size) (hh : ∃ cur, W.heap[G]? = some (.cells cur t (0, 0))) : FreeRow lo W (.agg #[x0, x1, x2, x3, x4, x5, x6, .slice (some ⟨G, 0, none⟩) n c, x8]) := by
  intro cs b o n c e h
  obtain rfl := Value.agg.inj e
  simp at h
  obtain ⟨⟨rfl, _⟩, _⟩ := h
  obtain ⟨cur, hh⟩ := hh
  exact ⟨hlo, (Array.getElem?_eq_some_iff.1 hh).1, fun r => by simp [World.frozen?, hh]⟩
theorem FreeRow.keep {lo lo' k : Nat} {W V : World} {v : Value} (h : FreeRow lo W v) (hK : Kept (fun b => k ≤ b) W V) (hk : k ≤ lo) (hl : lo' ≤ lo) : FreeRow lo' V v := by
  intro cs b o n c e he
  obtain ⟨h1, h2, h3⟩ := h cs b o n c e he
  exact ⟨by omega, Nat.lt_of_lt_of_le h2 hK.1, fun r => by rw [← h3 r]; exact World.frozen?_of_block (a := ⟨b, r, .none⟩) (hK.2 b (Nat.le_trans hk h1) h2)⟩

end Go.Proofs.YtjjagpebpnmniaaDoor

namespace Go.Proofs.YtjjagpebpnmniaaDoor
set_option maxRecDepth 100000
open Go.RowKit
set_option linter.unusedVariables false
set_option linter.unusedSimpArgs false

end Go.Proofs.YtjjagpebpnmniaaDoor
