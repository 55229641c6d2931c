/- What is proved here: the laws' example of layer 9, walked; condition: the table of powers of ten lies. -/
import Derived.Test.YtppkknmgdahniaaDoorZYf
import Derived.Test.YtppkknmgdahniaaDoorZYc
namespace Go.Proofs.YtppkknmgdahniaaDoor.Pol
set_option maxRecDepth 100000
open Go.RowKit Go.Proofs.YtppkknmgdahniaaDoor.Nc Go.Proofs.YtppkknmgdahniaaDoor.Np Go.Proofs.YtppkknmgdahniaaDoor.Nq
set_option maxRecDepth 100000
set_option linter.unusedVariables false
set_option linter.unusedSimpArgs false

def numTr (c : UInt8) : Tr := Tr.mk ⟨4, 0, false, ⟨#[c]⟩, 0, ⟨#[]⟩, [], 0⟩ []
def lstTr : Tr := Tr.mk ⟨6, 1, false, ⟨#[]⟩, 0, ⟨#[]⟩, [], 0⟩ [numTr 50]
def headTr : Tr := Tr.mk ⟨7, 0, false, ⟨#[]⟩, 0, ⟨#[]⟩, [⟨#[97]⟩, ⟨#[98]⟩], 0⟩ [numTr 49, lstTr]
theorem num_ok (c : UInt8) (h : c = 49 ∨ c = 50) : NumOk false ⟨#[c]⟩ 0 := ⟨⟨false, [c], 0⟩, ⟨by intro x hx; simp at hx; subst hx; rcases h with rfl | rfl <;> decide, by simp, by simp, .inr ⟨⟨c, [], rfl, by rcases h with rfl | rfl <;> decide⟩, .inl rfl⟩⟩, rfl, rfl, rfl⟩
theorem num_h (c : UInt8) (h : c = 49 ∨ c = 50) : goodH ⟨4, 0, false, ⟨#[c]⟩, 0, ⟨#[]⟩, [], 0⟩ 0 := by
  unfold goodH HdOk
  simp [num_ok c h]
theorem lst_h : goodH ⟨6, 1, false, ⟨#[]⟩, 0, ⟨#[]⟩, [], 0⟩ 1 := by
  unfold goodH HdOk
  simp
theorem key_h (c : UInt8) (h : c = 97 ∨ c = 98) : keyOk ⟨#[c]⟩ := by
  rcases h with rfl | rfl <;> exact ⟨by decide, by decide +kernel⟩
theorem head_h : goodH ⟨7, 0, false, ⟨#[]⟩, 0, ⟨#[]⟩, [⟨#[97]⟩, ⟨#[98]⟩], 0⟩ 2 := by
  unfold goodH HdOk
  refine ⟨by simp, fun _ => ⟨rfl, by decide, fun x hx => ?_⟩, fun h => absurd rfl h⟩
  have hx : x ∈ [(⟨#[97]⟩ : ByteArray), ⟨#[98]⟩] := hx
  simp only [List.mem_cons, List.not_mem_nil, or_false] at hx
  rcases hx with rfl | rfl
  · exact key_h 97 (.inl rfl)
  · exact key_h 98 (.inr rfl)
theorem num_good (c : UInt8) (h : c = 49 ∨ c = 50) : ∀ n, goodT n (numTr c)
  | 0 => trivial
  | n + 1 => ⟨num_h c h, fun k hk => by
      have hk : k ∈ ([] : List Tr) := hk
      cases hk⟩
theorem lst_good : ∀ n, goodT n lstTr
  | 0 => trivial
  | n + 1 => ⟨lst_h, fun k hk => by
      have hk : k ∈ [numTr 50] := hk
      rw [List.mem_singleton.1 hk]; exact num_good 50 (.inr rfl) n⟩
theorem head_good : goodT 3 headTr := ⟨head_h, fun k hk => by
    have hk : k ∈ [numTr 49, lstTr] := hk
    simp only [List.mem_cons, List.not_mem_nil, or_false] at hk
    rcases hk with rfl | rfl
    · exact num_good 49 (.inl rfl) 2
    · exact lst_good 2⟩
theorem head_view0 : showL (hidU 0) [35] 3 headTr = (⟨#[123, 34, 97, 34, 58, 49, 44, 34, 98, 34, 58, 35, 125]⟩ : ByteArray).data.toList := by decide +kernel
theorem head_view1 : showL (hidU 1) [35] 3 headTr = (⟨#[123, 34, 97, 34, 58, 49, 44, 34, 98, 34, 58, 91, 50, 93, 125]⟩ : ByteArray).data.toList := by decide +kernel
theorem row9_own {w : World} {base n g cap : Nat} {css : List (List Value)} (h : w.ownsRow base 31 9 (.slice (some ⟨g, 0, none⟩) n cap) n css.flatten) (hc : ∀ c ∈ css, c.length = 9) (i : Nat) (hi : i < css.length) : Row9 w g (0 + i * 9) (css[i]'hi).toArray := by
  intro r hr
  have hc9 : (css[i]'hi).length = 9 := hc _ (List.getElem_mem _)
  have hr9 : r < 9 := by simpa [hc9] using hr
  have hfa := flat_at css hc i r hr9 hi
  have := h.cells (g := g) rfl (i * 9 + r) ((css[i]'hi)[r]'(by omega)) (by rw [hfa, List.getElem?_eq_getElem (by omega)])
  have e1 : (⟨g, 0, none⟩ : Addr).add (i * 9 + r) = ⟨g, 0 + i * 9 + r, none⟩ := by unfold Addr.add; split <;> simp_all
  rw [e1] at this
  rw [this]
  simp
theorem row9_set {w : World} {b o g k : Nat} {v : Value} {cs : Array Value} (h : Row9 w b o cs) (hn : b ≠ g ∨ k < o ∨ o + cs.size ≤ k) : Row9 (w.setCell ⟨g, k, none⟩ v) b o cs := by
  intro j hj
  rw [World.cell?_setCell_other _ _ _ _ (fun e => by
    have e1 := (Addr.mk.inj e).1
    have e2 := (Addr.mk.inj e).2.1
    omega)]
  exact h j hj
theorem leaf_lies (w : World) (n : Nat) (c : UInt8) : Lies anyB w (n + 1) (.agg #[.int .i64 4, .int .u64 0, .bool false, .string ⟨#[c]⟩, .int .i64 0, .string ⟨#[]⟩, .slice none 0 0, .slice none 0 0, .int .i64 0]) (numTr c) :=
  ⟨_, [], _, _, rfl, rfl, (show (0 : Nat) < 18446744073709551616 by decide), ⟨none, 0, rfl, ⟨Nat.le_refl _, fun _ => rfl⟩, fun i hi => absurd hi (by simp)⟩, ⟨none, 0, rfl, ⟨Nat.le_refl _, fun _ => rfl⟩, fun i hi => absurd hi (by simp)⟩⟩
/-- The example, its list marked. -/
theorem head_lies {w : World} {base kg kc gg dc gl cl : Nat} (hK : w.ownsRow base 9 1 (.slice (some ⟨kg, 0, none⟩) 2 kc) 2 [.string ⟨#[97]⟩, .string ⟨#[98]⟩])
    (hD : w.ownsRow base 31 9 (.slice (some ⟨gg, 0, none⟩) 2 dc) 2 ([.int .i64 4, .int .u64 0, .bool false, .string ⟨#[49]⟩, .int .i64 0, .string ⟨#[]⟩, .slice none 0 0, .slice none 0 0, .int .i64 0] ++ [.int .i64 6, .int .u64 0, .bool false, .string ⟨#[]⟩, .int .i64 0, .string ⟨#[]⟩, .slice none 0 0, .slice (some ⟨gl, 0, none⟩) 1 cl, .int .i64 0])) (hL : w.ownsRow base 31 9 (.slice (some ⟨gl, 0, none⟩) 1 cl) 1 [.int .i64 4, .int .u64 0, .bool false, .string ⟨#[50]⟩, .int .i64 0, .string ⟨#[]⟩, .slice none 0 0, .slice none 0 0, .int .i64 0]) (h1 : kg ≠ gg) (h2 : gl ≠ gg) :
    Lies anyB (w.setCell ⟨gg, 10, none⟩ (.int .u64 1)) 3 (.agg #[.int .i64 7, .int .u64 0, .bool false, .string ⟨#[]⟩, .int .i64 0, .string ⟨#[]⟩, .slice (some ⟨kg, 0, none⟩) 2 kc, .slice (some ⟨gg, 0, none⟩) 2 dc, .int .i64 0]) headTr := by
  have hkl := (hK.lt kg rfl).2
  have hdl := (hD.lt gg rfl).2
  have hll := (hL.lt gl rfl).2
  have hsz : (w.setCell ⟨gg, 10, none⟩ (.int .u64 1)).heap.size = w.heap.size := by simp [World.setCell]
  have hcap : ∀ {b s n c : Nat} {e : TypeId} {xs : List Value} {g : Nat}, w.ownsRow b e s (.slice (some ⟨g, 0, none⟩) n c) n xs → n ≤ c := fun h => by
    rcases h.2 with ⟨e, _⟩ | ⟨g', cap', cur, hv, _, _, hnc, _⟩
    · cases e
    · rw [(Value.slice.inj hv).2.2]; exact hnc
  have hD2 : w.ownsRow base 31 9 (.slice (some ⟨gg, 0, none⟩) 2 dc) 2 [[.int .i64 4, .int .u64 0, .bool false, .string ⟨#[49]⟩, .int .i64 0, .string ⟨#[]⟩, .slice none 0 0, .slice none 0 0, .int .i64 0], [.int .i64 6, .int .u64 0, .bool false, .string ⟨#[]⟩, .int .i64 0, .string ⟨#[]⟩, .slice none 0 0, .slice (some ⟨gl, 0, none⟩) 1 cl, .int .i64 0]].flatten := hD
  have hL2 : w.ownsRow base 31 9 (.slice (some ⟨gl, 0, none⟩) 1 cl) 1 [[.int .i64 4, .int .u64 0, .bool false, .string ⟨#[50]⟩, .int .i64 0, .string ⟨#[]⟩, .slice none 0 0, .slice none 0 0, .int .i64 0]].flatten := hL
  have r0 := row9_own hD2 (by intro c hc; simp only [List.mem_cons, List.not_mem_nil, or_false] at hc; rcases hc with rfl | rfl <;> rfl) 0 (by simp)
  have r1 := row9_own hD2 (by intro c hc; simp only [List.mem_cons, List.not_mem_nil, or_false] at hc; rcases hc with rfl | rfl <;> rfl) 1 (by simp)
  have r2 := row9_own hL2 (by intro c hc; simp only [List.mem_cons, List.not_mem_nil, or_false] at hc; rcases hc with rfl; rfl) 0 (by decide)
  have q0 := row9_set (g := gg) (k := 10) (v := .int .u64 1) r0 (.inr (.inr (by simp)))
  have q2 := row9_set (g := gg) (k := 10) (v := .int .u64 1) r2 (.inl h2)
  have q1 : Row9 (w.setCell ⟨gg, 10, none⟩ (.int .u64 1)) gg (0 + 1 * 9) #[.int .i64 6, .int .u64 1, .bool false, .string ⟨#[]⟩, .int .i64 0, .string ⟨#[]⟩, .slice none 0 0, .slice (some ⟨gl, 0, none⟩) 1 cl, .int .i64 0] := by
    intro j hj
    by_cases e : j = 1
    · subst e
      exact World.cell?_setCell_same _ _ _ (u := .int .u64 0) (r1 1 (by simp))
    · have hj9 : j < 9 := hj
      rw [World.cell?_setCell_other _ _ _ _ (fun e2 => by have := (Addr.mk.inj e2).2.1; omega)]
      have := r1 j hj9
      rw [this]
      match j, hj9, e with
      | 0, _, _ => rfl
      | 2, _, _ => rfl
      | 3, _, _ => rfl
      | 4, _, _ => rfl
      | 5, _, _ => rfl
      | 6, _, _ => rfl
      | 7, _, _ => rfl
      | 8, _, _ => rfl
  have k0 := hK.cells (g := kg) rfl 0 (.string ⟨#[97]⟩) rfl
  have k1 := hK.cells (g := kg) rfl 1 (.string ⟨#[98]⟩) rfl
  refine ⟨⟨7, 0, false, ⟨#[]⟩, 0, ⟨#[]⟩, [⟨#[97]⟩, ⟨#[98]⟩], 0⟩, [numTr 49, lstTr], _, _, rfl, rfl, by decide, ⟨some ⟨kg, 0, none⟩, kc, rfl, ⟨hcap hK, fun e => by cases e⟩, fun i hi => ⟨kg, 0, rfl, trivial, by rw [hsz]; exact hkl, ?_⟩⟩, ⟨some ⟨gg, 0, none⟩, dc, rfl, ⟨hcap hD, fun e => by cases e⟩, fun i hi => ?_⟩⟩
  · rw [World.cell?_setCell_other _ _ _ _ (fun e => by have := (Addr.mk.inj e).1; omega)]
    have hi2 : i < 2 := hi
    match i, hi2 with
    | 0, _ => exact k0
    | 1, _ => exact k1
  · have hi2 : i < 2 := hi
    match i, hi2 with
    | 0, _ => exact ⟨gg, 0, _, rfl, trivial, by rw [hsz]; exact hdl, q0, leaf_lies _ 1 49⟩
    | 1, _ => exact ⟨gg, 0, _, rfl, trivial, by rw [hsz]; exact hdl, q1, ⟨⟨6, 1, false, ⟨#[]⟩, 0, ⟨#[]⟩, [], 0⟩, [numTr 50], _, _, rfl, rfl, by decide, ⟨none, 0, rfl, ⟨Nat.le_refl _, fun _ => rfl⟩, fun i hi => absurd hi (by simp)⟩, ⟨some ⟨gl, 0, none⟩, cl, rfl, ⟨hcap hL, fun e => by cases e⟩, fun i hi => by
      have hi1 : i < 1 := hi
      match i, hi1 with
      | 0, _ => exact ⟨gl, 0, _, rfl, trivial, by rw [hsz]; exact hll, q2, leaf_lies _ 0 50⟩⟩⟩⟩
end Go.Proofs.YtppkknmgdahniaaDoor.Pol
/- What is proved here: the example at the head of the laws of layer 9, walked: it holds; condition: the table of powers of ten lies. -/
namespace Go.Proofs.YtppkknmgdahniaaDoor.Pol
set_option maxRecDepth 100000
open Go.RowKit Go.Proofs.YtppkknmgdahniaaDoor.Nc Go.Proofs.YtppkknmgdahniaaDoor.Np Go.Proofs.YtppkknmgdahniaaDoor.Nq
set_option maxRecDepth 100000
set_option linter.unusedVariables false
set_option linter.unusedSimpArgs false

set_option maxHeartbeats 4000000 in
theorem shown9_any (w : World) (hP : Pow w) : Calls Tryd.prog 11 #[] w fun e w' => e = .returned (.bool true) ∧ Below w.heap.size w w' := by
  have HP := phide hP
  have CO := phide (head_one w)
  have C0 : Hid (∀ (v : Value) (W : World), Lies anyB W 3 v headTr → Pow W → Calls Tryd.prog 20 #[v, .int .u64 0] W fun e w' => e = .returned (.string ⟨#[123, 34, 97, 34, 58, 49, 44, 34, 98, 34, 58, 35, 125]⟩) ∧ Below W.heap.size W w') :=
    phide (fun v W h hP => view_any anyB 3 v headTr 0 (by decide) _ head_view0 (by decide) W h head_good hP)
  have C1 : Hid (∀ (v : Value) (W : World), Lies anyB W 3 v headTr → Pow W → Calls Tryd.prog 20 #[v, .int .u64 1] W fun e w' => e = .returned (.string ⟨#[123, 34, 97, 34, 58, 49, 44, 34, 98, 34, 58, 91, 50, 93, 125]⟩) ∧ Below W.heap.size W w') :=
    phide (fun v W h hP => view_any anyB 3 v headTr 1 (by decide) _ head_view1 (by decide) W h head_good hP)
  have b0 := beq_selfB ⟨#[123, 34, 97, 34, 58, 49, 44, 34, 98, 34, 58, 35, 125]⟩
  have b1 := beq_selfB ⟨#[123, 34, 97, 34, 58, 49, 44, 34, 98, 34, 58, 91, 50, 93, 125]⟩
  clear hP
  go_enter Tryd.func11, Tryd.ntmps11
  go_wp2_with fail
  refine (show Calls Tryd.prog 34 #[.string ⟨#[123, 34, 97, 34, 58, 49, 44, 34, 98, 34, 58, 91, 50, 93, 125]⟩] w _ from punhide CO).mono ?_
  rintro e9 w1 ⟨ka, kn, kc, da, dn, dc, rfl, hb1, kg, gg, gl, cl, rfl, rfl, rfl, rfl, hK, hD, hL, h1, h2⟩
  obtain ⟨w2, e2, z2, g2, x2⟩ := alloc_facts w1 #[.int .i64 7, .int .u64 0, .bool false, .string ⟨#[]⟩, .int .i64 0, .string ⟨#[]⟩, .slice (some ⟨kg, 0, none⟩) 2 kc, .slice (some ⟨gg, 0, none⟩) 2 dc, .int .i64 0] 31
  have hkl := hK.lt kg rfl
  have hdl := hD.lt gg rfl
  have hll := hL.lt gl rfl
  replace hK := own_at hK (g2.block kg hkl.2)
  replace hD := own_at hD (g2.block gg hdl.2)
  replace hL := own_at hL (g2.block gl hll.2)
  have hb2 := below_next hb1 g2
  have c10 := hD.cells (g := gg) rfl 10 (.int .u64 0) rfl
  rw [show (⟨gg, 0, none⟩ : Addr).add 10 = ⟨gg, 10, none⟩ from rfl] at c10
  have f10 : w2.frozen? ⟨gg, 10, none⟩ = false := by
    obtain ⟨g', cap', hv, hbb, hlt, cur, hcur⟩ := own_get hD (by omega)
    obtain ⟨rfl, _, _⟩ := Addr.mk.inj (Option.some.inj (Value.slice.inj hv).1)
    simp [World.frozen?, hcur]
  have hne : w1.heap.size ≠ gg := by omega
  have hlies := head_lies hK hD hL h1 h2
  have hbx : Bx (w2.setCell ⟨gg, 10, none⟩ (.int .u64 1)) w1.heap.size _ _ := x2.setX hne
  have hb3 : Below w.heap.size w (w2.setCell ⟨gg, 10, none⟩ (.int .u64 1)) := hb2.setCell (p := ⟨gg, 10, none⟩) hdl.1 _
  have y7 := x2.cell 7
  have HE := phide e2
  have HX := phide (And.intro hlies (And.intro hbx hb3))
  clear hK hD hL hlies hbx hb3 hb2 hb1 x2 e2 CO hkl hll g2
  go_upto_region 4 with fail
  rw [punhide HE]
  clear HE
  go_upto_region 5 with fail
  generalize w2.setCell ⟨gg, 10, none⟩ (.int .u64 1) = w3 at *
  obtain ⟨hlies, hbx, hb3⟩ := punhide HX
  have HX3 := phide (And.intro hlies (And.intro hbx hb3))
  have hP3 := phide ((punhide HP).next hb3)
  obtain ⟨v0, v1, v2, v3, v4, v5, v6, v7, v8⟩ : _ ∧ _ ∧ _ ∧ _ ∧ _ ∧ _ ∧ _ ∧ _ ∧ _ := ⟨hbx.cell 0, hbx.cell 1, hbx.cell 2, hbx.cell 3, hbx.cell 4, hbx.cell 5, hbx.cell 6, hbx.cell 7, hbx.cell 8⟩
  clear HX hlies hbx hb3 y7 c10 f10
  go_wp2_with fail
  refine (punhide C0 _ _ (punhide HX3).1 (punhide hP3)).mono ?_
  rintro e9 w4 ⟨rfl, b4⟩
  have hl4 := (punhide HX3).1.below b4
  have hx4 := (punhide HX3).2.1.below b4
  have hb4 := below_next (punhide HX3).2.2 b4
  have hP4 := phide ((punhide hP3).next b4)
  clear v0 v1 v2 v3 v4 v5 v6 v7 v8 b4
  obtain ⟨v0, v1, v2, v3, v4, v5, v6, v7, v8⟩ : _ ∧ _ ∧ _ ∧ _ ∧ _ ∧ _ ∧ _ ∧ _ ∧ _ := ⟨hx4.cell 0, hx4.cell 1, hx4.cell 2, hx4.cell 3, hx4.cell 4, hx4.cell 5, hx4.cell 6, hx4.cell 7, hx4.cell 8⟩
  have HX4 := phide (And.intro hl4 hb4)
  clear hl4 hx4 hb4
  go_wp2_with fail
  refine (punhide C1 _ _ (punhide HX4).1 (punhide hP4)).mono ?_
  rintro e9 w5 ⟨rfl, b5⟩
  have hb5 := below_next (punhide HX4).2 b5
  clear v0 v1 v2 v3 v4 v5 v6 v7 v8 b5
  go_wp2_with fail
  go_returns
  exact ⟨rfl, hb5⟩
end Go.Proofs.YtppkknmgdahniaaDoor.Pol
