/- What is proved here: what the document's own May does with a row of texts that lies, walked; conditions: as each theorem states. -/
import Derived.Test.YtebmmnfjkckffaaCc
namespace Go.Proofs.Ytebmmnfjkckffaa
open Go.RowKit Go.Maps
set_option linter.unusedVariables false
set_option linter.unusedSimpArgs false

theorem plc_cases (L : List Cm.Tx) (x : Cm.Tx) : (plc L x = -1 ∧ x ∉ L) ∨ ∃ k, ∃ h : k < L.length, plc L x = (k : Int) ∧ L[k]'h = x ∧ ∀ j, ∀ hj : j < L.length, j < k → L[j]'hj ≠ x := by
  unfold plc
  cases e : Cm.idx L x with
  | none =>
    refine .inl ⟨rfl, fun hm => ?_⟩
    unfold Cm.idx at e
    rw [List.findIdx?_eq_none_iff] at e
    have := e x hm
    simp at this
  | some k =>
    unfold Cm.idx at e
    rw [List.findIdx?_eq_some_iff_getElem] at e
    obtain ⟨h, h1, h2⟩ := e
    exact .inr ⟨k, h, rfl, by simpa using h1, fun j hj hjk => by simpa using h2 j hjk⟩
theorem plc_self {L : List Cm.Tx} (k : Nat) (h : k < L.length) : ∃ i : Nat, plc L (L[k]'h) = (i : Int) ∧ i ≤ k ∧ ∃ hi : i < L.length, L[i]'hi = L[k]'h := by
  rcases plc_cases L (L[k]'h) with ⟨_, h2⟩ | ⟨i, hi, h1, h2, h3⟩
  · exact absurd (List.getElem_mem h) h2
  · refine ⟨i, h1, ?_, hi, h2⟩
    rcases Nat.lt_or_ge k i with g | g
    · exact absurd rfl (h3 k h g)
    · exact g
theorem nodup_plc {L : List Cm.Tx} (h : ∀ k, ∀ hk : k < L.length, plc L (L[k]'hk) = (k : Int)) : L.Nodup := by
  rw [List.nodup_iff_pairwise_ne, List.pairwise_iff_getElem]
  intro i j hi hj hij e
  have h1 := h i hi
  have h2 := h j hj
  rw [e, h2] at h1
  omega
theorem plc_nodup {L : List Cm.Tx} (hd : L.Nodup) (k : Nat) (hk : k < L.length) : plc L (L[k]'hk) = (k : Int) := by
  obtain ⟨i, h1, h2, hi, h3⟩ := plc_self k hk
  rw [h1]
  rcases Nat.lt_or_ge i k with g | g
  · exact absurd h3 (List.pairwise_iff_getElem.1 hd i k hi hk g)
  · omega

set_option maxRecDepth 100000 in
set_option maxHeartbeats 1000000 in
theorem rmay_any (g n c : Nat) (L : List Cm.Tx) (hn : L.length = n) (hn2 : n ≤ 1000) (hl : ∀ x ∈ L, x.length ≤ 1000) (q : Nat) (hq : Cm.mayE L = q) (w : World) (hr : RowAt w g L) :
    Calls Try.prog 14 #[.slice (some ⟨g, 0, none⟩) n c] w fun e w' => e = .returned (.int .i64 (q : Int)) ∧ w' = w := by
  by_cases h64 : 64 < n
  · have hm : Cm.mayE L = 3 := by unfold Cm.mayE; rw [if_pos (by omega)]
    have hq3 := hq.symm.trans hm
    subst hq3
    clear hq hm
    go_enter Try.func14, Try.ntmps14
    go_wp2
    go_ret
    exact ⟨rfl, rfl⟩
  · rw [may_small (by omega)] at hq
    have HQ := hide hq
    clear hq
    go_enter Try.func14, Try.ntmps14
    go_wp2
    go_loop [3] (fun i => ∃ k : Nat, k ≤ n ∧ i = .int .i64 (k : Int) ∧ ∀ j, ∀ hj : j < L.length, j < k → Cm.nameB (L[j]'hj) = true ∧ plc L (L[j]'hj) = (j : Int)) (fun i => n - (intOf i).toNat)
    case atStart => exact ⟨0, by omega, rfl, fun j _ h => absurd h (by omega)⟩
    case round =>
      obtain ⟨k, hk, rfl, hno⟩ := hrel
      by_cases hlt : k < n
      · obtain ⟨x, hx, hx2, hx3⟩ := txt (L[k]'(by omega))
        have hc := hr.2 k (by omega)
        rw [hx] at hc
        have hxl := hl _ (List.getElem_mem (show k < L.length by omega))
        have hxm : x.data.toList ∈ L := by rw [hx2]; exact List.getElem_mem _
        cases hnm : Cm.nameB x.data.toList
        · have C : ∀ W, Calls Try.prog 12 #[.string x] W fun e w' => e = .returned (.bool false) ∧ w' = W := fun W => by
            have := rmayName_any x W (by omega)
            rwa [hnm] at this
          have hall : L.all Cm.nameB = false := by
            rw [List.all_eq_false]
            exact ⟨_, hxm, by rw [hnm]; simp⟩
          have hq := unhide HQ
          rw [hall] at hq
          have HQ2 := hide (show (20 : Nat) = q from hq)
          clear hq hall hno hxm hnm hx2 hx3 hx hxl HQ
          go_wp2_with (go_at_call 12; refine (C _).mono ?_; rintro e w ⟨rfl, rfl⟩)
          go_ret
          exact ⟨by rw [← unhide HQ2]; rfl, rfl⟩
        · have C : ∀ W, Calls Try.prog 12 #[.string x] W fun e w' => e = .returned (.bool true) ∧ w' = W := fun W => by
            have := rmayName_any x W (by omega)
            rwa [hnm] at this
          obtain ⟨i, hi1, hi2, hi3, hi4⟩ := plc_self (L := L) k (by omega)
          have CP : ∀ W, RowAt W g L → Calls Try.prog 25 #[.slice (some ⟨g, 0, none⟩) n c, .string x] W fun e w' => e = .returned (.int .i64 (i : Int)) ∧ w' = W := fun W h =>
            place_any g n c L hn (by omega) x i (by rw [hx2]; exact hi1) W h
          by_cases hik : i = k
          · subst hik
            have hno2 : ∀ j, ∀ hj : j < L.length, j < i + 1 → Cm.nameB (L[j]'hj) = true ∧ plc L (L[j]'hj) = (j : Int) := fun j hj h => by
              by_cases e : j = i
              · subst e; exact ⟨by rw [← hx2]; exact hnm, hi1⟩
              · exact hno j hj (by omega)
            have d1 : ((i : Int) == (i : Int)) = true := beq_self_eq_true _
            clear hno hi1 hi2 hi3 hi4 hnm hxm hx hx2 hx3
            go_wp2_with (first | (go_at_call 12; refine (C _).mono ?_; rintro e w ⟨rfl, rfl⟩) | (go_at_call 25; refine (CP _ hr).mono ?_; rintro e w ⟨rfl, rfl⟩))
            go_round
            case rel => exact ⟨i + 1, by omega, by go_num, hno2⟩
            case measure => simp [intOf]; omega
          · have hnd : ¬ L.Nodup := fun hd => by
              have := plc_nodup hd k (by omega)
              rw [hi1] at this
              omega
            have hq := unhide HQ
            rw [decide_eq_false hnd, Bool.and_false] at hq
            have HQ2 := hide (show (20 : Nat) = q from hq)
            have d1 : ((i : Int) == (k : Int)) = false := beq_eq_false_iff_ne.2 (by omega)
            clear hno hi1 hi2 hi3 hi4 hnm hxm hx hx2 hx3 hnd hq HQ hik
            go_wp2_with (first | (go_at_call 12; refine (C _).mono ?_; rintro e w ⟨rfl, rfl⟩) | (go_at_call 25; refine (CP _ hr).mono ?_; rintro e w ⟨rfl, rfl⟩))
            go_ret
            exact ⟨by rw [← unhide HQ2]; rfl, rfl⟩
      · have hall : L.all Cm.nameB = true := by
          rw [List.all_eq_true]
          intro y hy
          obtain ⟨j, hj, rfl⟩ := List.getElem_of_mem hy
          exact (hno j hj (by omega)).1
        have hd : L.Nodup := nodup_plc (fun j hj => (hno j hj (by omega)).2)
        have hq := unhide HQ
        rw [hall, decide_eq_true hd] at hq
        have HQ2 := hide (show (0 : Nat) = q from hq)
        clear hq hall hno hd HQ
        go_wp2
        go_ret
        exact ⟨by rw [← unhide HQ2]; rfl, rfl⟩
end Go.Proofs.Ytebmmnfjkckffaa
