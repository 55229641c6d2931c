/- What is proved here: what short and few of the laws do, walked; conditions: as each theorem states. -/
import Derived.Test.YtebmmnfjkckffaaCb
import Derived.Deep.AppendLies
import Derived.OwnWalk
namespace Go.Proofs.Ytebmmnfjkckffaa
open Go.RowKit Go.Maps
set_option linter.unusedVariables false
set_option linter.unusedSimpArgs false

/-- A row of texts that came in. -/
def StrsIn (w : World) (a : Option Addr) (n : Nat) (ss : List ByteArray) : Prop :=
  ss.length = n ∧ (n = 0 ∨ ∃ b off, a = some ⟨b, off, none⟩ ∧ b < w.heap.size ∧ ∀ i, ∀ h : i < ss.length, w.cell? ⟨b, off + i, none⟩ = some (.string (ss[i]'h)))
/-- At most 70 of them, each of at most 100 bytes. -/
def Lf (ss : List ByteArray) : List Cm.Tx := (ss.take 70).map fun s => s.data.toList.take 100
theorem Lf_len (ss : List ByteArray) : (Lf ss).length = min 70 ss.length := by unfold Lf; simp
theorem Lf_short (ss : List ByteArray) : ∀ x ∈ Lf ss, x.length ≤ 100 := by
  intro x hx
  obtain ⟨s, _, rfl⟩ := List.mem_map.1 hx
  exact List.length_take_le _ _
theorem short_any (s : ByteArray) (w : World) : ∃ t : ByteArray, t.data.toList = s.data.toList.take 100 ∧ ∀ w, Calls Try.prog 11 #[.string s] w fun e w' => e = .returned (.string t) ∧ w' = w := by
  by_cases h : 100 < s.size
  · have h1 : (100 : Int) < (s.size : Int) := by omega
    have h2 : (100 : Int) ≤ (s.size : Int) := by omega
    refine ⟨s.extract 0 100, by rw [ByteArray.data_extract, Array.toList_extract]; simp [List.extract], fun w => ?_⟩
    go_enter Try.func11, Try.ntmps11
    go_wp2
    go_ret
    exact ⟨rfl, rfl⟩
  · have h1 : ¬ (100 : Int) < (s.size : Int) := by omega
    refine ⟨s, by rw [List.take_of_length_le]; rw [Array.length_toList]; show s.size ≤ 100; omega, fun w => ?_⟩
    go_enter Try.func11, Try.ntmps11
    go_wp2
    go_ret
    exact ⟨rfl, rfl⟩
abbrev encS (l : Cm.Tx) : Value := .string ⟨l.toArray⟩
theorem row_of {w : World} {base g k cap : Nat} {L : List Cm.Tx} (h : w.ownsRow base 9 1 (.slice (some ⟨g, 0, none⟩) k cap) k (L.map encS)) (hl : L.length = k) : RowAt w g L := by
  refine ⟨(h.lt g rfl).2, fun i hi => ?_⟩
  have := h.cells (g := g) rfl i (encS (L[i]'hi)) (by rw [List.getElem?_map, List.getElem?_eq_getElem hi]; rfl)
  have e1 : (⟨g, 0, none⟩ : Addr).add i = ⟨g, i, none⟩ := by unfold Addr.add; split <;> simp_all
  rwa [e1] at this
theorem info9 : (Try.prog.info? 9).map (fun i => (i.zero, i.size, i.bytes)) = some (some (.string ⟨#[]⟩), 1, 16) := by kernel_rfl

set_option maxRecDepth 100000 in
set_option maxHeartbeats 1000000 in
theorem few_any (a : Option Addr) (n c : Nat) (ss : List ByteArray) (hn2 : n ≤ 9223372036854775807) (w : World) (hs : StrsIn w a n ss) :
    Calls Try.prog 9 #[.slice a n c] w fun e w' => Below w.heap.size w w' ∧ ∃ g cap, e = .returned (.slice (some ⟨g, 0, none⟩) (Lf ss).length cap) ∧ w.heap.size ≤ g ∧ RowAt w' g (Lf ss) := by
  obtain ⟨i0, hi, hz0, hz1, hz2⟩ := info_parts info9
  go_enter Try.func9, Try.ntmps9
  go_wp2
  go_loopw [3, 4] (fun o i wr => ∃ (k g cap : Nat), i = .int .i64 (k : Int) ∧ o = .slice (some ⟨g, 0, none⟩) k cap ∧ k ≤ n ∧ k ≤ 70 ∧ w.heap.size ≤ g ∧ wr.ownsRow w.heap.size 9 1 (.slice (some ⟨g, 0, none⟩) k cap) k (((Lf ss).take k).map encS) ∧ Below w.heap.size w wr) (fun _ i _ => 70 - (intOf i).toNat)
  case atStart =>
    refine ⟨0, w.heap.size, 0, rfl, rfl, by omega, by omega, Nat.le_refl _, ⟨rfl, .inr ⟨w.heap.size, 0, #[], rfl, Nat.le_refl _, ?_, Nat.le_refl _, by unfold maxLen; omega, rfl, rfl⟩⟩, (Below.refl _ _).alloc (Nat.le_refl _) _⟩
    exact heap_alloc_new w _
  case round =>
    obtain ⟨k, g, cap, rfl, rfl, hkn, hk7, hg, hown, hB⟩ := hrel
    obtain ⟨hsl, hs2⟩ := hs
    by_cases hlt : k < n
    · by_cases h70 : k < 70
      · obtain ⟨b, off, rfl, hb, hcell⟩ := hs2.resolve_left (by omega)
        have hc := (hB.cell (p := ⟨b, off + k, none⟩) hb).trans (hcell k (by omega))
        obtain ⟨s, hse⟩ : ∃ s, ss[k]'(by omega) = s := ⟨_, rfl⟩
        rw [hse] at hc
        obtain ⟨t, ht, hC⟩ := short_any s w
        have hLk : (Lf ss).take (k + 1) = (Lf ss).take k ++ [t.data.toList] := by
          rw [List.take_succ_eq_append_getElem (by rw [Lf_len]; omega)]
          congr 2
          unfold Lf
          rw [List.getElem_map, List.getElem_take, hse, ht]
        have hLm : ((Lf ss).take (k + 1)).map encS = ((Lf ss).take k).map encS ++ [.string t] := by
          rw [hLk, List.map_append]
          rfl
        clear hs2 hcell hse ht hLk
        go_wp2_with (first | (go_at_call 11; refine (hC _).mono ?_; rintro e wr ⟨rfl, rfl⟩) | (at_builtin; refine wpList_append_lies _ rfl _ _ 22 rfl w.heap.size 9 i0 (.string ⟨#[]⟩) 1 16 Try.underlying22 hi hz0 hz1 hz2 rfl (by decide) _ k _ rfl (hown.alloc _) ⟨wr.heap.size, 0, none⟩ 1 1 [.string t] rfl rfl (cell_one_new wr _ _) (by intro u hu; rw [List.mem_singleton.1 hu]; rfl) (by omega) (by unfold maxLen; omega) (by omega) (Nat.le_trans hB.size (by simp)) (wr.heap.size + 1) (by simp) ?_))
        intro g2 cap2 w1 hown2 hgrow hat hlt2
        have hown3 : w1.ownsRow w.heap.size 9 1 (.slice (some ⟨g2, 0, none⟩) (k + 1) cap2) (k + 1) (((Lf ss).take (k + 1)).map encS) := by rw [hLm, List.map_take]; exact hown2
        clear hown2
        have hgrow2 : wr.grownBy w1 (some g) := (World.grownBy_alloc wr _ (some g)).trans hgrow
        have hB2 : Below w.heap.size w w1 := hB.grown hgrow2 hB.size (fun j hj => by cases hj; exact hg)
        have hg2 : w.heap.size ≤ g2 := by
          rcases hat with h | h
          · have : g = g2 := by simpa [Value.ownBlock] using h
            omega
          · have := hB.size; omega
        clear hown hgrow hgrow2 hat hc hC hLm hB
        go_wp2
        go_roundw
        case rel => exact ⟨k + 1, g2, cap2, by go_num, rfl, by omega, by omega, hg2, hown3, hB2⟩
        case measure => simp [intOf]; omega
      · have hk : k = 70 := by omega
        have d1 : decide ((k : Int) < 70) = false := decide_eq_false (by omega)
        have hlen : (Lf ss).length = k := by rw [Lf_len]; omega
        rw [List.take_of_length_le (by omega)] at hown
        clear hs2 hk
        go_wp2
        go_ret
        exact ⟨hB, g, cap, by rw [hlen]; rfl, hg, row_of hown hlen⟩
    · have d1 : decide ((k : Int) < (n : Int)) = false := decide_eq_false (by omega)
      have hlen : (Lf ss).length = k := by rw [Lf_len]; omega
      rw [List.take_of_length_le (by omega)] at hown
      clear hs2
      go_wp2
      go_ret
      exact ⟨hB, g, cap, by rw [hlen]; rfl, hg, row_of hown hlen⟩
end Go.Proofs.Ytebmmnfjkckffaa
