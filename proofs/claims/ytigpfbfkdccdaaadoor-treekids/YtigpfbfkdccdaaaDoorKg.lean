/- What is proved here: what slices.Clone makes of a row of texts, walked. -/
import Derived.Test.YtigpfbfkdccdaaaDoorKf
import Derived.Laws.IdiomCopy
import Derived.OwnWalk
namespace Go.Proofs.YtigpfbfkdccdaaaDoor
open Go.RowKit
set_option linter.unusedVariables false
set_option linter.unusedSimpArgs false

theorem kinfo_str : (Tryd.prog.info? 9).map (fun i => (i.zero, i.size, i.bytes)) = some (some (.string ⟨#[]⟩), 1, 16) := by kernel_rfl
theorem kalloc_le {w W : World} (hB : Below w.heap.size w W) (o : Obj) : w.heap.size ≤ (W.alloc o).heap.size := by have := hB.size; simp; omega
theorem strs_of_own {w' : World} {base : Nat} {v : Value} {ks : List ByteArray} (h : w'.ownsRow base 9 1 v ks.length (ks.map Value.string)) : StrsIn (fun b => base ≤ b) w' v ks := by
  rcases h.2 with ⟨rfl, h0⟩ | ⟨g, cap, cur, rfl, hg, hh, hn, hm, hs, ht⟩
  · exact ⟨none, 0, by rw [h0], ⟨by omega, fun _ => rfl⟩, fun i hi => absurd hi (by omega)⟩
  · refine ⟨some ⟨g, 0, none⟩, cap, rfl, ⟨hn, fun e => by cases e⟩, fun i hi => ⟨g, 0, rfl, hg, (Array.getElem?_eq_some_iff.1 hh).1, ?_⟩⟩
    have := h.cells (g := g) rfl i (.string (ks[i]'hi)) (by rw [List.getElem?_map, List.getElem?_eq_getElem hi]; rfl)
    have hadd : (⟨g, 0, none⟩ : Addr).add i = ⟨g, 0 + i, none⟩ := by unfold Addr.add; split <;> simp_all
    rwa [hadd] at this

set_option maxHeartbeats 1000000 in
set_option maxRecDepth 1000000 in
theorem clones_any (ok : Nat → Prop) (v : Value) (ks : List ByteArray) (w : World) (hk : StrsIn ok w v ks) (hn : ks.length ≤ 1000000) :
    Calls Tryd.prog 84 #[v] w fun e w' => ∃ v', e = .returned v' ∧ StrsIn (fun b => w.heap.size ≤ b) w' v' ks ∧ Below w.heap.size w w' := by
  obtain ⟨a, c, rfl, hc, hks⟩ := hk
  obtain ⟨i0, hi, hz0, hz1, hz2⟩ := info_parts kinfo_str
  have hq : ∀ W, (binOp .eql 25 (.slice a ks.length c) (.slice none 0 0)).run Tryd.prog W = .ok (.bool a.isNone) W := fun W => Lib.run_eql_slice_nil W _ _ a ks.length c 0 0 Tryd.underlying25
  cases a with
  | none =>
    have h0 : ks = [] := by
      have h1 := hc.1
      have h2 := hc.2 rfl
      exact List.eq_nil_of_length_eq_zero (by omega)
    subst h0
    replace hq : ∀ W, (binOp .eql 25 (.slice none 0 c) (.slice none 0 0)).run Tryd.prog W = .ok (.bool true) W := hq
    go_enter Tryd.func84, Tryd.ntmps84
    go_wp2_with fail
    go_ret
    exact ⟨_, rfl, ⟨none, 0, rfl, ⟨Nat.le_refl _, fun _ => rfl⟩, fun i hi => absurd hi (by simp)⟩, Below.refl _ _⟩
  | some a =>
    replace hq : ∀ W, (binOp .eql 25 (.slice (some a) ks.length c) (.slice none 0 0)).run Tryd.prog W = .ok (.bool false) W := hq
    have hnews : ∀ j u, (ks.map Value.string)[j]? = some u → (w.alloc (.cells #[] 9)).cell? (a.add j) = some u := by
      intro j u hj
      rw [List.getElem?_map] at hj
      obtain ⟨x, hx, rfl⟩ := Option.map_eq_some_iff.1 hj
      obtain ⟨hj2, rfl⟩ := List.getElem?_eq_some_iff.1 hx
      obtain ⟨b, o, e, ho, hb, hcell⟩ := hks j hj2
      cases e
      have hadd : (⟨b, o, none⟩ : Addr).add j = ⟨b, o + j, none⟩ := by unfold Addr.add; split <;> simp_all
      rw [hadd, World.cell?_alloc_lt _ _ _ hb]
      exact hcell
    have hone : ∀ u ∈ ks.map Value.string, u.oneCell' = true := by
      intro u hu
      obtain ⟨x, _, rfl⟩ := List.mem_map.1 hu
      rfl
    have HNEWS := khide hnews
    have HONE := khide hone
    clear hnews hone hks
    go_enter Tryd.func84, Tryd.ntmps84
    go_wp2_with (at_builtin; refine wpList_append_own _ rfl _ _ 25 rfl w.heap.size 9 i0 (.string ⟨#[]⟩) 1 16 Tryd.underlying25 hi hz0 hz1 hz2 rfl (by decide) _ 0 [] rfl (World.ownsRow_made w #[] 0 (Nat.le_refl _) (by decide) rfl) a ks.length c (ks.map Value.string) rfl (by simp) (kunhide HNEWS) (kunhide HONE) (by unfold maxLen; omega) (by omega) (by simp) ?_)
    intro v' w1 hown hgrow _
    have hB : Below w.heap.size w w1 := ((Below.refl _ w).alloc (Nat.le_refl _) _).grown hgrow (by simp) (fun j hj => by simp [Value.ownBlock] at hj; omega)
    have hst := strs_of_own hown
    clear hown hgrow
    go_wp2_with fail
    go_ret
    exact ⟨_, rfl, hst, hB⟩

/-! ### nine cells are stored -/
theorem setCells_frame (G : Nat) : ∀ (vs : List Value) (o : Nat) (w : World), (w.setCells G o vs).heap.size = w.heap.size ∧ (w.setCells G o vs).os = w.os ∧ (w.setCells G o vs).tape = w.tape ∧ (w.setCells G o vs).output = w.output ∧ (∀ b, b ≠ G → (w.setCells G o vs).heap[b]? = w.heap[b]?)
  | [], _, _ => ⟨rfl, rfl, rfl, rfl, fun _ _ => rfl⟩
  | v :: r, o, w => by
    obtain ⟨a1, a2, a3, a4, a5⟩ := setCells_frame G r (o + 1) (w.setCell ⟨G, o, none⟩ v)
    refine ⟨by show (World.setCells _ G (o + 1) r).heap.size = _; rw [a1]; simp [World.setCell], a2, a3, a4, fun b hb => ?_⟩
    show (World.setCells _ G (o + 1) r).heap[b]? = _
    rw [a5 b hb, Below.heap_setCell _ _ _ _ (by exact hb)]
theorem setCells_below {B : Nat} {a w : World} (h : Below B a w) {G : Nat} (hG : B ≤ G) (o : Nat) (vs : List Value) : Below B a (w.setCells G o vs) := by
  obtain ⟨a1, a2, a3, a4, a5⟩ := setCells_frame G vs o w
  exact h.trans ⟨a2, a3, a4, by rw [a1]; exact Nat.le_refl _, fun k hk => a5 k (by omega)⟩
theorem setCells_kept {ok : Nat → Prop} (w : World) (G o : Nat) (vs : List Value) (hi : ∀ b, ok b → b ≠ G) : Kept ok w (w.setCells G o vs) := by
  obtain ⟨a1, a2, a3, a4, a5⟩ := setCells_frame G vs o w
  exact ⟨by rw [a1]; exact Nat.le_refl _, fun b hb _ => a5 b (hi b hb)⟩
theorem Kept.trans {ok : Nat → Prop} {a b c : World} (h : Kept ok a b) (k : Kept ok b c) : Kept ok a c := ⟨Nat.le_trans h.1 k.1, fun i ho hi => (k.2 i ho (Nat.lt_of_lt_of_le hi h.1)).trans (h.2 i ho hi)⟩
theorem setCell_kept {ok : Nat → Prop} (w : World) (p : Addr) (v : Value) (hi : ∀ b, ok b → b ≠ p.block) : Kept ok w (w.setCell p v) := ⟨by simp [World.setCell], fun b hb _ => Below.heap_setCell _ _ _ _ (hi b hb)⟩
theorem res9 (X : World) (R : Nat) (v0 v1 v2 v3 v4 v5 v6 v7 v8 : Value) (hs : ∀ r, r < 9 → (X.cell? ⟨R, r, none⟩).isSome = true) :
    (X.setCells R 0 [v0, v1, v2, v3, v4, v5, v6, v7, v8]).cell? ⟨R, 0, none⟩ = some v0 ∧ (X.setCells R 0 [v0, v1, v2, v3, v4, v5, v6, v7, v8]).cell? ⟨R, 1, none⟩ = some v1 ∧ (X.setCells R 0 [v0, v1, v2, v3, v4, v5, v6, v7, v8]).cell? ⟨R, 2, none⟩ = some v2 ∧
    (X.setCells R 0 [v0, v1, v2, v3, v4, v5, v6, v7, v8]).cell? ⟨R, 3, none⟩ = some v3 ∧ (X.setCells R 0 [v0, v1, v2, v3, v4, v5, v6, v7, v8]).cell? ⟨R, 4, none⟩ = some v4 ∧ (X.setCells R 0 [v0, v1, v2, v3, v4, v5, v6, v7, v8]).cell? ⟨R, 5, none⟩ = some v5 ∧
    (X.setCells R 0 [v0, v1, v2, v3, v4, v5, v6, v7, v8]).cell? ⟨R, 6, none⟩ = some v6 ∧ (X.setCells R 0 [v0, v1, v2, v3, v4, v5, v6, v7, v8]).cell? ⟨R, 7, none⟩ = some v7 ∧ (X.setCells R 0 [v0, v1, v2, v3, v4, v5, v6, v7, v8]).cell? ⟨R, 8, none⟩ = some v8 := by
  have key := fun r hr => World.cell?_setCells_in R [v0, v1, v2, v3, v4, v5, v6, v7, v8] 0 X (fun j hj => by rw [Nat.zero_add]; exact hs j hj) r hr
  simp only [Nat.zero_add] at key
  exact ⟨key 0 (by simp), key 1 (by simp), key 2 (by simp), key 3 (by simp), key 4 (by simp), key 5 (by simp), key 6 (by simp), key 7 (by simp), key 8 (by simp)⟩
theorem set9_props (w : World) (G o : Nat) (vs : List Value) (cur : Array Value) (t : TypeId) (hh : w.heap[G]? = some (.cells cur t (0, 0))) (ho : o + vs.length ≤ cur.size) :
    (w.setCells G o vs).heap.size = w.heap.size ∧ (w.setCells G o vs).os = w.os ∧ (w.setCells G o vs).tape = w.tape ∧ (w.setCells G o vs).output = w.output ∧ (∀ b, b ≠ G → (w.setCells G o vs).heap[b]? = w.heap[b]?) ∧
    (∃ cur', (w.setCells G o vs).heap[G]? = some (.cells cur' t (0, 0)) ∧ cur'.size = cur.size) := by
  induction vs generalizing o w cur with
  | nil => exact ⟨rfl, rfl, rfl, rfl, fun _ _ => rfl, cur, hh, rfl⟩
  | cons v r ih =>
    have hG : G < w.heap.size := (Array.getElem?_eq_some_iff.1 hh).1
    have h2 : ∃ cur2, (w.setCell ⟨G, o, none⟩ v).heap[G]? = some (.cells cur2 t (0, 0)) ∧ cur2.size = cur.size := by
      refine ⟨_, heap_setCell_same w G o cur t v hh, ?_⟩
      simp
    obtain ⟨cur2, hh2, hs2⟩ := h2
    obtain ⟨a1, a2, a3, a4, a5, cur3, a6, a7⟩ := ih (w.setCell ⟨G, o, none⟩ v) (o + 1) cur2 hh2 (by rw [List.length_cons] at ho; omega)
    refine ⟨by show (World.setCells _ G (o + 1) r).heap.size = _; rw [a1]; simp [World.setCell], a2, a3, a4, fun b hb => ?_, cur3, a6, by omega⟩
    show (World.setCells _ G (o + 1) r).heap[b]? = _
    rw [a5 b hb, Below.heap_setCell _ _ _ _ (by exact hb)]
end Go.Proofs.YtigpfbfkdccdaaaDoor
