/- What is proved here: what the closure of Parse does, that takes a step into its row, walked; conditions: as the theorem states. -/
import Derived.Test.YtomhgafpjpnmdaaGreatDoorPk
import Derived.Test.YtomhgafpjpnmdaaGreatDoorPc
namespace Go.Proofs.YtomhgafpjpnmdaaGreatDoor
open Go.RowKit
set_option linter.unusedVariables false
set_option linter.unusedSimpArgs false

/-- What Parse has taken so far: how many, and the first eight. -/
def Acc (B : Nat) (W : World) (cb sb : Nat) (D : List Pm.St) : Prop :=
  B ≤ cb ∧ B ≤ sb ∧ cb ≠ sb ∧ cb < W.heap.size ∧ sb < W.heap.size ∧ W.cell? ⟨cb, 0, none⟩ = some (.int .i64 (D.length : Int)) ∧ W.frozen? ⟨cb, 0, none⟩ = false ∧ W.frozen? ⟨sb, 0, none⟩ = false ∧
    ∃ v, W.cell? ⟨sb, 0, none⟩ = some v ∧ W.ownsRow B 33 3 v (min 8 D.length) (rowS (D.take 8)) ∧ (v.ownBlock ≠ some cb ∧ v.ownBlock ≠ some sb)
theorem ownS_block {w w' : World} {base k : Nat} {v : Value} {xs : List Value} (h : w.ownsRow base 33 3 v k xs) (hB : ∀ g, v.ownBlock = some g → w'.heap[g]? = w.heap[g]?) : w'.ownsRow base 33 3 v k xs := by
  obtain ⟨h0, h⟩ := h
  refine ⟨h0, ?_⟩
  rcases h with ⟨e, e2⟩ | ⟨g', cap', cur, hv, hg, hh, r⟩
  · exact .inl ⟨e, e2⟩
  · refine .inr ⟨g', cap', cur, hv, hg, ?_, r⟩
    rw [hB g' (by rw [hv]; rfl)]
    exact hh
theorem frozen_set (W : World) (p : Addr) (u : Value) (a : Addr) : (W.setCell p u).frozen? a = W.frozen? a := by
  first | exact World.frozen?_setCell _ _ _ _ | simp
theorem Acc.next {B cb sb : Nat} {W W' : World} {D : List Pm.St} (h : Acc B W cb sb D) (hB : Below W.heap.size W W') : Acc B W' cb sb D := by
  obtain ⟨h1, h2, h3, h4, h5, h6, h7, h8, v, h9, h10, h11⟩ := h
  exact ⟨h1, h2, h3, Nat.lt_of_lt_of_le h4 hB.size, Nat.lt_of_lt_of_le h5 hB.size, (hB.cell (p := ⟨cb, 0, none⟩) h4).trans h6, (hB.frozen (p := ⟨cb, 0, none⟩) h4).trans h7, (hB.frozen (p := ⟨sb, 0, none⟩) h5).trans h8,
    v, (hB.cell (p := ⟨sb, 0, none⟩) h5).trans h9, ownS_block h10 (fun g hg => hB.block g (h10.lt g hg).2), h11⟩

set_option maxRecDepth 100000 in
set_option maxHeartbeats 2000000 in
theorem take_any (B cb sb : Nat) (D : List Pm.St) (t : Pm.St) (hD : D.length ≤ 100000) (w : World) (hA : Acc B w cb sb D) :
    Calls Tryz.prog 25 #[valS t, .pointer (some ⟨cb, 0, none⟩), .pointer (some ⟨sb, 0, none⟩)] w fun e w' => e = .returned (.tuple #[]) ∧ Acc B w' cb sb (D ++ [t]) ∧ Below B w w' := by
  obtain ⟨i0, hi, hz0, hz1, hz2⟩ := info_parts infoS
  have hA1 := hA.next ((Below.refl _ _).alloc (Nat.le_refl _) (.cells #[.int .i64 t.k, .string t.s, .int .i64 t.n] 33))
  have hBw : B ≤ w.heap.size := Nat.le_of_lt (Nat.lt_of_le_of_lt hA.1 hA.2.2.2.1)
  have hB1 : Below B w (w.alloc (.cells #[.int .i64 t.k, .string t.s, .int .i64 t.n] 33)) := (Below.refl _ _).alloc hBw _
  have x0 : (w.alloc (.cells #[.int .i64 t.k, .string t.s, .int .i64 t.n] 33)).cell? ⟨w.heap.size, 0, none⟩ = some (.int .i64 t.k) := World.cell?_alloc_at _ _ _ _ rfl
  have x1 : (w.alloc (.cells #[.int .i64 t.k, .string t.s, .int .i64 t.n] 33)).cell? ⟨w.heap.size, 1, none⟩ = some (.string t.s) := World.cell?_alloc_at _ _ _ _ rfl
  have x2 : (w.alloc (.cells #[.int .i64 t.k, .string t.s, .int .i64 t.n] 33)).cell? ⟨w.heap.size, 2, none⟩ = some (.int .i64 t.n) := World.cell?_alloc_at _ _ _ _ rfl
  have hxc : cb ≠ w.heap.size := by have := hA.2.2.2.1; omega
  have hxs : sb ≠ w.heap.size := by have := hA.2.2.2.2.1; omega
  have hsz : w.heap.size < (w.alloc (.cells #[.int .i64 t.k, .string t.s, .int .i64 t.n] 33)).heap.size := by simp
  obtain ⟨n, hn⟩ : ∃ n, D.length = n := ⟨_, rfl⟩
  have hlen : (D ++ [t]).length = n + 1 := by simp [hn]
  obtain ⟨tk, ts, tn⟩ := t
  unfold valS
  simp only [] at *
  go_enter Tryz.func25, Tryz.ntmps25
  go_upto_region 1 with fail
  generalize w.alloc (.cells #[.int .i64 tk, .string ts, .int .i64 tn] 33) = W1 at *
  obtain ⟨h1, h2, h3, h4, h5, h6, h7, h8, v, h9, h10, h11, h12⟩ := hA1
  rw [hn] at h6 h10 hD
  have hw : IntKind.i64.wrap ((n : Int) + 1) = (n : Int) + 1 := by rw [IntKind.wrap_i64]; omega
  have k1 : ∀ u, (W1.setCell ⟨cb, 0, none⟩ u).cell? ⟨cb, 0, none⟩ = some u := fun u => World.cell?_setCell_same _ _ _ h6
  have k2 : ∀ u, (W1.setCell ⟨cb, 0, none⟩ u).cell? ⟨sb, 0, none⟩ = some v := fun u => by rw [World.cell?_setCell_other _ _ _ _ (fun e => h3 (Addr.mk.inj e).1)]; exact h9
  go_upto_region 2 with fail
  have f1 : ∀ (u : Value) (a : Addr), (W1.setCell ⟨cb, 0, none⟩ u).frozen? a = W1.frozen? a := fun u a => frozen_set _ _ _ _
  have hlt2 : ∀ u : Value, (W1.setCell ⟨cb, 0, none⟩ u).heap.size = W1.heap.size := fun u => by simp [World.setCell]
  have y0 : ∀ u, (W1.setCell ⟨cb, 0, none⟩ u).cell? ⟨w.heap.size, 0, none⟩ = some (.int .i64 tk) := fun u => by rw [World.cell?_setCell_other _ _ _ _ (fun e => hxc (Addr.mk.inj e).1)]; exact x0
  have y1 : ∀ u, (W1.setCell ⟨cb, 0, none⟩ u).cell? ⟨w.heap.size, 1, none⟩ = some (.string ts) := fun u => by rw [World.cell?_setCell_other _ _ _ _ (fun e => hxc (Addr.mk.inj e).1)]; exact x1
  have y2 : ∀ u, (W1.setCell ⟨cb, 0, none⟩ u).cell? ⟨w.heap.size, 2, none⟩ = some (.int .i64 tn) := fun u => by rw [World.cell?_setCell_other _ _ _ _ (fun e => hxc (Addr.mk.inj e).1)]; exact x2
  have o1 : ∀ u, (W1.setCell ⟨cb, 0, none⟩ u).ownsRow B 33 3 v (min 8 n) (rowS (D.take 8)) := fun u => ownS_block h10 (fun g hg => Below.heap_setCell _ _ _ _ (fun e => h11 (by rw [hg]; exact congrArg some e)))
  have b1 : ∀ u, Below B w (W1.setCell ⟨cb, 0, none⟩ u) := fun u => hB1.setCell h1 u
  have q1 := k1 (.int .i64 ((n : Int) + 1)); have q2 := k2 (.int .i64 ((n : Int) + 1)); have q3 := f1 (.int .i64 ((n : Int) + 1)); have q4 := hlt2 (.int .i64 ((n : Int) + 1))
  have q5 := y0 (.int .i64 ((n : Int) + 1)); have q6 := y1 (.int .i64 ((n : Int) + 1)); have q7 := y2 (.int .i64 ((n : Int) + 1)); have q8 := o1 (.int .i64 ((n : Int) + 1)); have q9 := b1 (.int .i64 ((n : Int) + 1))
  generalize W1.setCell ⟨cb, 0, none⟩ (.int .i64 ((n : Int) + 1)) = W2 at *
  clear k1 k2 f1 hlt2 y0 y1 y2 o1 b1 h6 h9 h10 hw x0 x1 x2 hB1
  have r3 : W2.frozen? ⟨cb, 0, none⟩ = false := (q3 _).trans h7
  have r4 : W2.frozen? ⟨sb, 0, none⟩ = false := (q3 _).trans h8
  rw [← q4] at h4 h5 hsz
  clear q3 q4 h7 h8
  by_cases h8n : n < 8
  · have d1 : decide ((n : Int) + 1 ≤ 8) = true := decide_eq_true (by omega)
    rw [Nat.min_eq_right (by omega), List.take_of_length_le (by omega)] at q8
    have o2 := q8.alloc (.cells #[.int .i64 tk, .string ts, .int .i64 tn] 33)
    have hnew := newS W2 ⟨tk, ts, tn⟩ 33
    have hLm : rowS (D ++ [⟨tk, ts, tn⟩]) = rowS D ++ cellsS ⟨tk, ts, tn⟩ := rowS_snoc _ _
    go_wp2_with (at_builtin; refine wpList_append_lies _ rfl _ _ 22 rfl B 33 i0 (.agg #[.int .i64 0, .string ⟨#[]⟩, .int .i64 0]) 3 32 Tryz.underlying22 hi hz0 hz1 hz2 rfl (by decide) _ n _ rfl o2 ⟨W2.heap.size, 0, none⟩ 1 1 (cellsS ⟨tk, ts, tn⟩) rfl rfl hnew (by intro u hu; exact rowS_one (L := [⟨tk, ts, tn⟩]) u (by unfold rowS; simpa using hu)) (by omega) (by unfold maxLen; omega) (by omega) (by simp; omega) (W2.heap.size + 1) (by simp) ?_)
    intro g2 cap2 w4 hown2 hgrow hat hlt4
    rw [← hLm] at hown2
    have hgrow2 : W2.grownBy w4 v.ownBlock := (World.grownBy_alloc W2 _ v.ownBlock).trans hgrow
    have e1 : w4.heap[cb]? = W2.heap[cb]? := hgrow2.block cb h4 (fun e => h11 e.symm)
    have e2 : w4.heap[sb]? = W2.heap[sb]? := hgrow2.block sb h5 (fun e => h12 e.symm)
    have z1 : w4.cell? ⟨cb, 0, none⟩ = some (.int .i64 ((n : Int) + 1)) := (World.cell?_of_block (w := W2) e1).trans q1
    have z2 : w4.cell? ⟨sb, 0, none⟩ = some v := (World.cell?_of_block (w := W2) e2).trans q2
    have z3 : w4.frozen? ⟨cb, 0, none⟩ = false := (World.frozen?_of_block (w := W2) (a := ⟨cb, 0, none⟩) e1).trans r3
    have z4 : w4.frozen? ⟨sb, 0, none⟩ = false := (World.frozen?_of_block (w := W2) (a := ⟨sb, 0, none⟩) e2).trans r4
    have g1 : g2 ≠ cb ∧ g2 ≠ sb := by
      rcases hat with h | h
      · exact ⟨fun e => h11 (by rw [h, e]), fun e => h12 (by rw [h, e])⟩
      · omega
    have hB4 : Below B w w4 := q9.grown hgrow2 (by omega) (fun k hk => (q8.lt k hk).1)
    have hs4 := hgrow2.size
    clear hgrow hgrow2 o2 hnew q1 q2 r3 r4 hat e1 e2 q5 q6 q7 q8 q9
    go_wp2
    go_returns
    refine ⟨rfl, ?_, hB4.setCell h2 _⟩
    refine ⟨h1, h2, h3, by simp [World.setCell]; omega, by simp [World.setCell]; omega, ?_, ?_, ?_, .slice (some ⟨g2, 0, none⟩) (n + 1) cap2, ?_, ?_, ?_, ?_⟩
    · rw [World.cell?_setCell_other _ _ _ _ (fun e => h3 (Addr.mk.inj e).1.symm), z1, hlen]; rfl
    · rw [frozen_set]; exact z3
    · rw [frozen_set]; exact z4
    · exact World.cell?_setCell_same _ _ _ z2
    · rw [hlen, Nat.min_eq_right (by omega), List.take_of_length_le (by omega)]
      exact ownS_block hown2 (fun g hg => Below.heap_setCell _ _ _ _ (fun e => g1.2 ((Option.some.inj hg).trans e)))
    · exact fun e => g1.1 (Option.some.inj e)
    · exact fun e => g1.2 (Option.some.inj e)
  · have d1 : decide ((n : Int) + 1 ≤ 8) = false := decide_eq_false (by omega)
    go_wp2
    go_returns
    refine ⟨rfl, ⟨h1, h2, h3, h4, h5, ?_, r3, r4, v, q2, ?_, h11, h12⟩, q9⟩
    · rw [q1, hlen]; rfl
    · rw [hlen, Nat.min_eq_left (by omega), List.take_append_of_le_length (by omega)]
      rwa [Nat.min_eq_left (by omega)] at q8
end Go.Proofs.YtomhgafpjpnmdaaGreatDoor
