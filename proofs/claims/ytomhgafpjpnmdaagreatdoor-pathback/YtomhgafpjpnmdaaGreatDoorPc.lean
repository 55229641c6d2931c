/- What is proved here: what few, place, key and at of the laws, and the document's own Same, do with rows of steps that lie, walked; conditions: as each theorem states. -/
import Derived.Test.YtomhgafpjpnmdaaGreatDoorPa
import Derived.OwnWalk
import Derived.Deep.AppendLies
namespace Go.Proofs.YtomhgafpjpnmdaaGreatDoor
open Go.RowKit
set_option linter.unusedVariables false
set_option linter.unusedSimpArgs false

/-- A row of steps that came in. -/
def StepsIn (w : World) (a : Option Addr) (n : Nat) (L : List Pm.St) : Prop :=
  L.length = n ∧ (n = 0 ∨ ∃ b o, a = some ⟨b, o, none⟩ ∧ RowSt w b o L)
theorem StepsIn.step {w w' : World} {a : Option Addr} {n : Nat} {L : List Pm.St} (h : StepsIn w a n L) (hB : Below w.heap.size w w') : StepsIn w' a n L := by
  obtain ⟨h1, h2⟩ := h
  refine ⟨h1, ?_⟩
  rcases h2 with h2 | ⟨b, o, e, h2⟩
  · exact .inl h2
  · exact .inr ⟨b, o, e, h2.step hB⟩
def cut40 (s : ByteArray) : ByteArray := if 40 < s.size then s.extract 0 40 else s
theorem cut40_size (s : ByteArray) : (cut40 s).size ≤ 40 := by
  unfold cut40
  split
  · rw [ByteArray.size_extract]; omega
  · omega
def fewS (t : Pm.St) : Pm.St := ⟨t.k, cut40 t.s, t.n⟩
def fewL (L : List Pm.St) : List Pm.St := (L.take 12).map fewS
theorem fewL_len (L : List Pm.St) : (fewL L).length = min 12 L.length := by unfold fewL; simp
theorem fewL_key (L : List Pm.St) : ∀ t ∈ fewL L, t.s.size ≤ 40 := by
  intro t ht
  obtain ⟨x, _, rfl⟩ := List.mem_map.1 ht
  exact cut40_size _
def cellsS (t : Pm.St) : List Value := [.int .i64 t.k, .string t.s, .int .i64 t.n]
def rowS (L : List Pm.St) : List Value := L.flatMap cellsS
theorem rowS_len : ∀ L : List Pm.St, (rowS L).length = L.length * 3
  | [] => rfl
  | t :: r => by
    unfold rowS
    rw [List.flatMap_cons, List.length_append, List.length_cons]
    have := rowS_len r
    unfold rowS at this
    rw [this]; simp [cellsS]; omega
theorem rowS_snoc (L : List Pm.St) (t : Pm.St) : rowS (L ++ [t]) = rowS L ++ cellsS t := by unfold rowS; rw [List.flatMap_append]; simp
theorem rowS_app (L M : List Pm.St) : rowS (L ++ M) = rowS L ++ rowS M := by unfold rowS; rw [List.flatMap_append]
theorem rowS_at : ∀ (L : List Pm.St) (i r : Nat), r < 3 → ∀ h : i < L.length, (rowS L)[i * 3 + r]? = (cellsS (L[i]'h))[r]?
  | [], _, _, _, h => absurd h (by simp)
  | t :: l, 0, r, hr, _ => by
    unfold rowS
    rw [List.flatMap_cons, Nat.zero_mul, Nat.zero_add, List.getElem?_append_left (by simpa [cellsS] using hr)]
    rfl
  | t :: l, i + 1, r, hr, h => by
    unfold rowS
    rw [List.flatMap_cons, List.getElem?_append_right (by simp [cellsS]; omega)]
    have := rowS_at l i r hr (by simpa using h)
    unfold rowS at this
    simp only [cellsS, List.length_cons, List.length_nil]
    rw [show (i + 1) * 3 + r - (0 + 1 + 1 + 1) = i * 3 + r by omega]
    exact this
theorem rowS_one {L : List Pm.St} : ∀ u ∈ rowS L, u.oneCell' = true := by
  intro u hu
  obtain ⟨t, _, h⟩ := List.mem_flatMap.1 hu
  simp only [cellsS, List.mem_cons, List.mem_nil_iff, or_false] at h
  rcases h with rfl | rfl | rfl <;> rfl
theorem addS (g i : Nat) : (⟨g, 0, none⟩ : Addr).add i = ⟨g, i, none⟩ := by unfold Addr.add; split <;> simp_all
/-- A row of the call's own lies as a row. -/
theorem rowst_of {w : World} {base g k cap : Nat} {L : List Pm.St} (h : w.ownsRow base 33 3 (.slice (some ⟨g, 0, none⟩) k cap) k (rowS L)) : RowSt w g 0 L := by
  refine ⟨(h.lt g rfl).2, fun i hi => ?_⟩
  have h0 := h.cells (g := g) rfl (i * 3) (.int .i64 (L[i]'hi).k) (by have := rowS_at L i 0 (by omega) hi; rw [Nat.add_zero] at this; rw [this]; rfl)
  have h1 := h.cells (g := g) rfl (i * 3 + 1) (.string (L[i]'hi).s) (by rw [rowS_at L i 1 (by omega) hi]; rfl)
  have h2 := h.cells (g := g) rfl (i * 3 + 2) (.int .i64 (L[i]'hi).n) (by rw [rowS_at L i 2 (by omega) hi]; rfl)
  rw [addS] at h0 h1 h2
  rw [Nat.zero_add]
  exact ⟨h0, h1, h2⟩
theorem ownS_step {w w' : World} {base g k cap : Nat} {xs : List Value} (h : w.ownsRow base 33 3 (.slice (some ⟨g, 0, none⟩) k cap) k xs) (hB : Below w.heap.size w w') : w'.ownsRow base 33 3 (.slice (some ⟨g, 0, none⟩) k cap) k xs := by
  obtain ⟨h0, h⟩ := h
  refine ⟨h0, ?_⟩
  rcases h with ⟨e, e2⟩ | ⟨g', cap', cur, hv, hg, hh, r⟩
  · exact .inl ⟨e, e2⟩
  · refine .inr ⟨g', cap', cur, hv, hg, ?_, r⟩
    rw [hB.block g' (Array.getElem?_eq_some_iff.1 hh).1]
    exact hh
theorem infoS : (Tryz.prog.info? 33).map (fun i => (i.zero, i.size, i.bytes)) = some (some (.agg #[.int .i64 0, .string ⟨#[]⟩, .int .i64 0]), 3, 32) := by kernel_rfl
theorem newS (w : World) (t : Pm.St) (ty : TypeId) : ∀ j u, (cellsS t)[j]? = some u → (w.alloc (.cells #[.int .i64 t.k, .string t.s, .int .i64 t.n] ty)).cell? ((⟨w.heap.size, 0, none⟩ : Addr).add j) = some u := by
  intro j u h
  rw [addS, World.cell?_alloc_at _ _ _ _ rfl]
  simpa [cellsS] using h

set_option maxRecDepth 100000 in
set_option maxHeartbeats 1000000 in
theorem pfew_any (a : Option Addr) (n c : Nat) (L : List Pm.St) (hn2 : n ≤ 9223372036854775807) (w : World) (hs : StepsIn w a n L) :
    Calls Tryz.prog 9 #[.slice a n c] w fun e w' => Below w.heap.size w w' ∧ ∃ g cap, e = .returned (.slice (some ⟨g, 0, none⟩) (fewL L).length cap) ∧ w.heap.size ≤ g ∧ (fewL L).length ≤ cap ∧ RowSt w' g 0 (fewL L) := by
  obtain ⟨i0, hi, hz0, hz1, hz2⟩ := info_parts infoS
  go_enter Tryz.func9, Tryz.ntmps9
  go_wp2
  go_loopw [3, 4] (fun o i wr => ∃ (k g cap : Nat), i = .int .i64 (k : Int) ∧ o = .slice (some ⟨g, 0, none⟩) k cap ∧ k ≤ n ∧ k ≤ 12 ∧ k ≤ cap ∧ w.heap.size ≤ g ∧ wr.ownsRow w.heap.size 33 3 (.slice (some ⟨g, 0, none⟩) k cap) k (rowS ((fewL L).take k)) ∧ Below w.heap.size w wr) (fun _ i _ => 12 - (intOf i).toNat)
  case atStart =>
    refine ⟨0, w.heap.size, 0, rfl, rfl, by omega, by omega, by omega, Nat.le_refl _, ⟨rfl, .inr ⟨w.heap.size, 0, #[], rfl, Nat.le_refl _, ?_, Nat.le_refl _, by unfold maxLen; omega, rfl, rfl⟩⟩, (Below.refl _ _).alloc (Nat.le_refl _) _⟩
    exact heap_alloc_new w _
  case round =>
    obtain ⟨k, g, cap, rfl, rfl, hkn, hk7, hkc, hg, hown, hB⟩ := hrel
    have hs0 := hs
    obtain ⟨hsl, hs2⟩ := hs0
    by_cases hlt : k < n
    · by_cases h70 : k < 12
      · obtain ⟨b, off, rfl, hrow⟩ := hs2.resolve_left (by omega)
        have hb := hrow.1
        obtain ⟨c0, c1, c2⟩ := (hrow.step hB).2 k (by omega)
        obtain ⟨t, ht⟩ : ∃ t, L[k]'(by omega) = t := ⟨_, rfl⟩
        rw [ht] at c0 c1 c2
        have hLk : (fewL L).take (k + 1) = (fewL L).take k ++ [fewS t] := by
          rw [List.take_succ_eq_append_getElem (by rw [fewL_len]; omega)]
          congr 2
          unfold fewL
          rw [List.getElem_map, List.getElem_take, ht]
        have hLm : rowS ((fewL L).take (k + 1)) = rowS ((fewL L).take k) ++ cellsS (fewS t) := by
          rw [hLk, rowS_snoc]
        obtain ⟨tk, ts, tn⟩ := t
        simp only [] at c0 c1 c2
        have hsz : ∀ o, (wr.alloc o).heap.size = wr.heap.size + 1 := fun o => by simp
        clear hs2 hrow ht hLk hs hsl
        by_cases h40 : 40 < ts.size
        · have d1 : (40 : Int) < (ts.size : Int) := by omega
          have d2 : (40 : Int) ≤ (ts.size : Int) := by omega
          rw [show fewS ⟨tk, ts, tn⟩ = ⟨tk, ts.extract 0 40, tn⟩ by unfold fewS cut40; rw [if_pos h40]] at hLm
          have hown0 := (hown.alloc (.cells #[.int .i64 tk, .string (ts.extract 0 40), .int .i64 tn] 33)).alloc (.cells #[.int .i64 tk, .string (ts.extract 0 40), .int .i64 tn] 33)
          have hnew := newS (wr.alloc (.cells #[.int .i64 tk, .string (ts.extract 0 40), .int .i64 tn] 33)) ⟨tk, (ts.extract 0 40), tn⟩ 33
          rw [hsz] at hnew
          clear hown
          go_wp2_with (at_builtin; refine wpList_append_lies _ rfl _ _ 22 rfl w.heap.size 33 i0 (.agg #[.int .i64 0, .string ⟨#[]⟩, .int .i64 0]) 3 32 Tryz.underlying22 hi hz0 hz1 hz2 rfl (by decide) _ k _ rfl hown0 ⟨wr.heap.size + 1, 0, none⟩ 1 1 (cellsS ⟨tk, (ts.extract 0 40), tn⟩) rfl rfl hnew (by intro u hu; exact rowS_one (L := [⟨tk, (ts.extract 0 40), tn⟩]) u (by unfold rowS; simpa using hu)) (by omega) (by unfold maxLen; omega) (by omega) (Nat.le_trans hB.size (by simp; omega)) (wr.heap.size + 2) (by simp) ?_)
          intro g2 cap2 w1 hown2 hgrow hat hlt2
          rw [← hLm] at hown2
          have hgrow2 : wr.grownBy w1 (some g) := (World.grownBy_alloc wr _ (some g)).trans ((World.grownBy_alloc _ _ (some g)).trans hgrow)
          have hB2 : Below w.heap.size w w1 := hB.grown hgrow2 hB.size (fun j hj => by cases hj; exact hg)
          have hg2 : w.heap.size ≤ g2 := by
            rcases hat with h | h
            · have : g = g2 := by simpa [Value.ownBlock] using h
              omega
            · have := hB.size; omega
          have hc2 : k + 1 ≤ cap2 := by
            rcases hown2.2 with ⟨h, _⟩ | ⟨g', cap', cur, hv, _, _, hnc, _⟩
            · cases h
            · have e1 := Value.slice.inj hv
              rw [e1.2.2]; exact hnc
          clear hown0 hnew hgrow hgrow2 hat hLm hB c0 c1 c2
          go_wp2
          go_roundw
          case rel => exact ⟨k + 1, g2, cap2, by go_num, rfl, by omega, by omega, hc2, hg2, hown2, hB2⟩
          case measure => simp [intOf]; omega
        · have d1 : ¬ (40 : Int) < (ts.size : Int) := by omega
          rw [show fewS ⟨tk, ts, tn⟩ = ⟨tk, ts, tn⟩ by unfold fewS cut40; rw [if_neg h40]] at hLm
          have hown0 := (hown.alloc (.cells #[.int .i64 tk, .string ts, .int .i64 tn] 33)).alloc (.cells #[.int .i64 tk, .string ts, .int .i64 tn] 33)
          have hnew := newS (wr.alloc (.cells #[.int .i64 tk, .string ts, .int .i64 tn] 33)) ⟨tk, ts, tn⟩ 33
          rw [hsz] at hnew
          clear hown
          go_wp2_with (at_builtin; refine wpList_append_lies _ rfl _ _ 22 rfl w.heap.size 33 i0 (.agg #[.int .i64 0, .string ⟨#[]⟩, .int .i64 0]) 3 32 Tryz.underlying22 hi hz0 hz1 hz2 rfl (by decide) _ k _ rfl hown0 ⟨wr.heap.size + 1, 0, none⟩ 1 1 (cellsS ⟨tk, ts, tn⟩) rfl rfl hnew (by intro u hu; exact rowS_one (L := [⟨tk, ts, tn⟩]) u (by unfold rowS; simpa using hu)) (by omega) (by unfold maxLen; omega) (by omega) (Nat.le_trans hB.size (by simp; omega)) (wr.heap.size + 2) (by simp) ?_)
          intro g2 cap2 w1 hown2 hgrow hat hlt2
          rw [← hLm] at hown2
          have hgrow2 : wr.grownBy w1 (some g) := (World.grownBy_alloc wr _ (some g)).trans ((World.grownBy_alloc _ _ (some g)).trans hgrow)
          have hB2 : Below w.heap.size w w1 := hB.grown hgrow2 hB.size (fun j hj => by cases hj; exact hg)
          have hg2 : w.heap.size ≤ g2 := by
            rcases hat with h | h
            · have : g = g2 := by simpa [Value.ownBlock] using h
              omega
            · have := hB.size; omega
          have hc2 : k + 1 ≤ cap2 := by
            rcases hown2.2 with ⟨h, _⟩ | ⟨g', cap', cur, hv, _, _, hnc, _⟩
            · cases h
            · have e1 := Value.slice.inj hv
              rw [e1.2.2]; exact hnc
          clear hown0 hnew hgrow hgrow2 hat hLm hB c0 c1 c2
          go_wp2
          go_roundw
          case rel => exact ⟨k + 1, g2, cap2, by go_num, rfl, by omega, by omega, hc2, hg2, hown2, hB2⟩
          case measure => simp [intOf]; omega
      · have hk : k = 12 := by omega
        have d1 : decide ((k : Int) < 12) = false := decide_eq_false (by omega)
        have hlen : (fewL L).length = k := by rw [fewL_len]; omega
        rw [List.take_of_length_le (by omega)] at hown
        clear hs2 hk hs hsl
        go_wp2
        go_ret
        exact ⟨hB, g, cap, by rw [hlen]; rfl, hg, by omega, rowst_of hown⟩
    · have d1 : decide ((k : Int) < (n : Int)) = false := decide_eq_false (by omega)
      have hlen : (fewL L).length = k := by rw [fewL_len]; omega
      rw [List.take_of_length_le (by omega)] at hown
      clear hs2 hs hsl
      go_wp2
      go_ret
      exact ⟨hB, g, cap, by rw [hlen]; rfl, hg, by omega, rowst_of hown⟩
end Go.Proofs.YtomhgafpjpnmdaaGreatDoor
