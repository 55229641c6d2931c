/- What is proved here: the document's examples of the statements of trees hold. What is proved here: the document's examples, which stand at the head of the statements of trees, hold. -/
import Derived.Test.YtigpfbfkdccdaaaDoorKw
import Derived.Test.YtigpfbfkdccdaaaDoorWt
namespace Go.Proofs.YtigpfbfkdccdaaaDoor
open Go.RowKit
set_option linter.unusedVariables false
set_option linter.unusedSimpArgs false

theorem cmp_ones (ka ka' : Option Addr) (kn kc kn' kc' : Nat) (da da' : Option Addr) (dn dc dn' dc' : Nat) (w : World) : Calls Tryd.prog 20 #[.agg #[.int .i64 4, .int .u64 0, .bool false, .string ⟨#[49]⟩, .int .i64 0, .string ⟨#[]⟩, .slice ka kn kc, .slice da dn dc, .int .i64 0], .agg #[.int .i64 4, .int .u64 0, .bool false, .string ⟨#[49]⟩, .int .i64 0, .string ⟨#[]⟩, .slice ka' kn' kc', .slice da' dn' dc', .int .i64 0]] w fun e w' => e = .returned (.int .i64 0) ∧ Below w.heap.size w w' := by
  have hm : Dm.May ⟨false, [49], 0⟩ := ⟨by intro c hc; simp at hc; subst hc; decide, by decide, by decide, .inr ⟨⟨49, [], rfl, by decide⟩, .inl rfl⟩⟩
  have HC := khide (fun W => cmp_any false [49] 0 false [49] 0 0 W hm hm (by decide))
  clear hm
  go_enter Tryd.func20, Tryd.ntmps20
  go_wp2_with fail
  refine (kunhide HC _).mono ?_
  rintro e W ⟨rfl, hb⟩
  go_wp2_with fail
  go_ret
  exact ⟨rfl, below_next (((Below.refl _ w).alloc (Nat.le_refl _) _).alloc (by simp) _) hb⟩
def oneT : Tr := Tr.mk ⟨4, 0, false, ⟨#[49]⟩, 0, ⟨#[]⟩, [], 0⟩ []
def nullT : Tr := Tr.mk ⟨1, 0, false, ⟨#[]⟩, 0, ⟨#[]⟩, [], 0⟩ []
def kindI (t u : Tr) : Int := sgnI (Tr.hd t).k (Tr.hd u).k
theorem cmp_two (a b : Value) (t u : Tr) (W : World) (ht : t ∈ [oneT]) (hu : u ∈ [oneT, nullT]) (h1 : Lies anyB W 1 a t) (h2 : Lies anyB W 1 b u) :
    Calls Tryd.prog 20 #[a, b] W fun e W' => e = .returned (.int .i64 (kindI t u)) ∧ Below W.heap.size W W' := by
  obtain ⟨h, l, ka, kc, da, dc, e1, rfl, _⟩ := h1.node
  obtain ⟨h', l', ka', kc', da', dc', e2, rfl, _⟩ := h2.node
  rw [List.mem_singleton.1 ht] at e1 ⊢
  obtain ⟨rfl, rfl⟩ := Tr.mk_inj e1
  simp only [List.mem_cons, List.not_mem_nil, or_false] at hu
  rcases hu with rfl | rfl
  · obtain ⟨rfl, rfl⟩ := Tr.mk_inj e2
    exact cmp_ones _ _ _ _ _ _ _ _ _ _ _ _ W
  · obtain ⟨rfl, rfl⟩ := Tr.mk_inj e2
    exact tcmp_kind 4 1 (by decide) 0 0 _ _ _ _ _ _ _ _ _ _ _ _ _ _ _ _ _ _ _ _ _ _ W
end Go.Proofs.YtigpfbfkdccdaaaDoor

namespace Go.Proofs.YtigpfbfkdccdaaaDoor
open Go.RowKit
set_option linter.unusedVariables false
set_option linter.unusedSimpArgs false

theorem lies_one (W : World) : Lies anyB W 1 (.agg #[.int .i64 4, .int .u64 0, .bool false, .string ⟨#[49]⟩, .int .i64 0, .string ⟨#[]⟩, .slice none 0 0, .slice none 0 0, .int .i64 0]) oneT := ⟨_, [], _, _, rfl, rfl, by decide, ⟨none, 0, rfl, ⟨Nat.le_refl _, fun _ => rfl⟩, fun i hi => absurd hi (by simp)⟩, ⟨none, 0, rfl, ⟨Nat.le_refl _, fun _ => rfl⟩, fun i hi => absurd hi (by simp)⟩⟩
theorem lies_null (W : World) : Lies anyB W 1 (.agg #[.int .i64 1, .int .u64 0, .bool false, .string ⟨#[]⟩, .int .i64 0, .string ⟨#[]⟩, .slice none 0 0, .slice none 0 0, .int .i64 0]) nullT := ⟨_, [], _, _, rfl, rfl, by decide, ⟨none, 0, rfl, ⟨Nat.le_refl _, fun _ => rfl⟩, fun i hi => absurd hi (by simp)⟩, ⟨none, 0, rfl, ⟨Nat.le_refl _, fun _ => rfl⟩, fun i hi => absurd hi (by simp)⟩⟩
theorem kids_one {X : World} {g : Nat} (hb : Box X g #[.int .i64 4, .int .u64 0, .bool false, .string ⟨#[49]⟩, .int .i64 0, .string ⟨#[]⟩, .slice none 0 0, .slice none 0 0, .int .i64 0]) : KidsIn anyB (Lies anyB X 1) X (.slice (some ⟨g, 0, none⟩) 1 1) [oneT] := by
  refine ⟨_, 1, rfl, ⟨Nat.le_refl _, fun e => by cases e⟩, fun i hi => ?_⟩
  obtain rfl : i = 0 := by simpa using hi
  refine ⟨g, 0, #[.int .i64 4, .int .u64 0, .bool false, .string ⟨#[49]⟩, .int .i64 0, .string ⟨#[]⟩, .slice none 0 0, .slice none 0 0, .int .i64 0], rfl, trivial, hb.2.2, fun r hr => ?_, lies_one X⟩
  rw [show 0 + 0 * 9 + r = r by omega, hb.1 r, Array.getElem?_eq_getElem hr]
theorem kids_two {X : World} {g : Nat} (hb : Box X g #[.int .i64 4, .int .u64 0, .bool false, .string ⟨#[49]⟩, .int .i64 0, .string ⟨#[]⟩, .slice none 0 0, .slice none 0 0, .int .i64 0, .int .i64 1, .int .u64 0, .bool false, .string ⟨#[]⟩, .int .i64 0, .string ⟨#[]⟩, .slice none 0 0, .slice none 0 0, .int .i64 0]) : KidsIn anyB (Lies anyB X 1) X (.slice (some ⟨g, 0, none⟩) 2 2) [oneT, nullT] := by
  refine ⟨_, 2, rfl, ⟨Nat.le_refl _, fun e => by cases e⟩, fun i hi => ?_⟩
  have hi2 : i = 0 ∨ i = 1 := by have : i < 2 := hi; omega
  rcases hi2 with rfl | rfl
  · refine ⟨g, 0, #[.int .i64 4, .int .u64 0, .bool false, .string ⟨#[49]⟩, .int .i64 0, .string ⟨#[]⟩, .slice none 0 0, .slice none 0 0, .int .i64 0], rfl, trivial, hb.2.2, fun r hr => ?_, lies_one X⟩
    rw [show 0 + 0 * 9 + r = r by omega, hb.1 r]
    have h9 : r < 9 := hr
    match r, h9 with
    | 0, _ | 1, _ | 2, _ | 3, _ | 4, _ | 5, _ | 6, _ | 7, _ | 8, _ => rfl
  · refine ⟨g, 0, #[.int .i64 1, .int .u64 0, .bool false, .string ⟨#[]⟩, .int .i64 0, .string ⟨#[]⟩, .slice none 0 0, .slice none 0 0, .int .i64 0], rfl, trivial, hb.2.2, fun r hr => ?_, lies_null X⟩
    rw [show 0 + 1 * 9 + r = 9 + r by omega, hb.1 (9 + r)]
    have h9 : r < 9 := hr
    match r, h9 with
    | 0, _ | 1, _ | 2, _ | 3, _ | 4, _ | 5, _ | 6, _ | 7, _ | 8, _ => rfl

set_option maxHeartbeats 1000000 in
theorem tshown_any (w : World) : Calls Tryd.prog 10 #[] w fun e w' => e = .returned (.bool true) ∧ Below w.heap.size w w' := by
  go_enter Tryd.func10, Tryd.ntmps10
  go_wp2_with fail
  refine (null_any _).mono ?_
  rintro e W1 ⟨rfl, b1⟩
  go_wp2_with fail
  refine (tcmp_kind 1 2 (by decide) 0 0 _ _ _ _ _ _ _ _ _ _ _ _ _ _ _ _ _ _ _ _ _ _ _).mono ?_
  rintro e W2 ⟨rfl, b2⟩
  go_wp2_with fail
  refine (tcmp_kind 4 5 (by decide) 0 0 _ _ _ _ _ _ _ _ _ _ _ _ _ _ _ _ _ _ _ _ _ _ _).mono ?_
  rintro e W3 ⟨rfl, b3⟩
  go_wp2_with fail
  refine (one_any _).mono ?_
  rintro e W4 ⟨rfl, b4⟩
  go_wp2_with fail
  refine (one_any _).mono ?_
  rintro e W5 ⟨rfl, b5⟩
  go_wp2_with fail
  refine (null_any _).mono ?_
  rintro e W6 ⟨rfl, b6⟩
  go_wp2_with fail
  have q1 := (((Box.new W4 #[.int .i64 4, .int .u64 0, .bool false, .string ⟨#[49]⟩, .int .i64 0, .string ⟨#[]⟩, .slice none 0 0, .slice none 0 0, .int .i64 0] 33).kept (ok := anyB) (Kept.of_below b5) trivial).kept (ok := anyB) (Kept.of_below b6) trivial).kept (ok := anyB) (Kept.of_below ((Below.refl _ W6).alloc (o := .cells #[.int .i64 4, .int .u64 0, .bool false, .string ⟨#[49]⟩, .int .i64 0, .string ⟨#[]⟩, .slice none 0 0, .slice none 0 0, .int .i64 0, .int .i64 1, .int .u64 0, .bool false, .string ⟨#[]⟩, .int .i64 0, .string ⟨#[]⟩, .slice none 0 0, .slice none 0 0, .int .i64 0] 33) (Nat.le_refl _))) trivial
  have q2 := Box.new W6 #[.int .i64 4, .int .u64 0, .bool false, .string ⟨#[49]⟩, .int .i64 0, .string ⟨#[]⟩, .slice none 0 0, .slice none 0 0, .int .i64 0, .int .i64 1, .int .u64 0, .bool false, .string ⟨#[]⟩, .int .i64 0, .string ⟨#[]⟩, .slice none 0 0, .slice none 0 0, .int .i64 0] 33
  refine (tcmp_list 0 0 _ _ _ _ _ _ _ _ _ _ _ _ _ _ _ _ _ _ _ _ _ _ _ (-1) (fun W hW => comparefunc_any kindI anyB anyB 1 _ _ [oneT] [oneT, nullT] W (kids_one (q1.kept (ok := anyB) (Kept.of_below hW) trivial)) (kids_two (q2.kept (ok := anyB) (Kept.of_below hW) trivial)) (by decide) (by decide) (fun a b t u W' ht hu h1 h2 => cmp_two a b t u W' ht hu h1 h2))).mono ?_
  rintro e W7 ⟨rfl, b7⟩
  clear q1 q2
  have hB := below_next ((below_next (below_next ((below_next (below_next (below_next b1 b2) b3) b4).alloc (by have := b1.size; have := b2.size; have := b3.size; have := b4.size; omega) (.cells #[.int .i64 4, .int .u64 0, .bool false, .string ⟨#[49]⟩, .int .i64 0, .string ⟨#[]⟩, .slice none 0 0, .slice none 0 0, .int .i64 0] 33)) b5) b6).alloc (by have := b1.size; have := b2.size; have := b3.size; have := b4.size; have := b5.size; have := b6.size; simp at *; omega) (.cells #[.int .i64 4, .int .u64 0, .bool false, .string ⟨#[49]⟩, .int .i64 0, .string ⟨#[]⟩, .slice none 0 0, .slice none 0 0, .int .i64 0, .int .i64 1, .int .u64 0, .bool false, .string ⟨#[]⟩, .int .i64 0, .string ⟨#[]⟩, .slice none 0 0, .slice none 0 0, .int .i64 0] 33)) b7
  have HB := khide hB
  clear b1 b2 b3 b4 b5 b6 b7 hB
  go_wp2_with fail
  refine (null_any _).mono ?_
  rintro e W8 ⟨rfl, b8⟩
  go_wp2_with fail
  refine (may_null _).mono ?_
  rintro e W9 ⟨rfl, b9⟩
  go_wp2_with fail
  go_ret
  exact ⟨rfl, below_next (below_next (kunhide HB) b8) b9⟩
end Go.Proofs.YtigpfbfkdccdaaaDoor
