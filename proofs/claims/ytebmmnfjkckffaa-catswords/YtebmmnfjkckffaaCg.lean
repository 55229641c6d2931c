/- What is proved here: what the document's own Names does with a row of texts that lies, walked; conditions: as each theorem states. -/
import Derived.Test.YtebmmnfjkckffaaCf
namespace Go.Proofs.Ytebmmnfjkckffaa
open Go.RowKit Go.Maps
set_option linter.unusedVariables false
set_option linter.unusedSimpArgs false

theorem bit_tmod (m k : Nat) : (((m : Int) / 2 ^ k).tmod 2 == 1) = m.testBit k := by
  have h1 : ((m : Int) / 2 ^ k) = ((m / 2 ^ k : Nat) : Int) := by push_cast; rfl
  rw [h1, Bool.eq_iff_iff, ← Cm.shift_bit, beq_iff_eq]
  generalize m / 2 ^ k = q
  rw [Int.tmod_eq_emod_of_nonneg (by omega)]
  omega
theorem app_data (a b : ByteArray) : (a ++ b).data.toList = a.data.toList ++ b.data.toList := by rw [ByteArray.data_append, Array.toList_append]
theorem app_size (a b : ByteArray) : (a ++ b).size = a.size + b.size := ByteArray.size_append
set_option maxRecDepth 100000 in
set_option maxHeartbeats 1000000 in
theorem rnames_any (g n c : Nat) (L : List Cm.Tx) (hn : L.length = n) (hn2 : n ≤ 64) (hl : ∀ x ∈ L, x.length ≤ 1000) (hne : ∀ x ∈ L, x ≠ []) (m : Nat) (hm : m < 18446744073709551616) (u : ByteArray) (hu : Cm.joinB (Cm.selK L m n) = u.data.toList) (w : World) (hr : RowAt w g L) :
    Calls Try.prog 20 #[.slice (some ⟨g, 0, none⟩) n c, .int .u64 (m : Int)] w fun e w' => e = .returned (.string u) ∧ Below w.heap.size w w' := by
  have HU := hide hu
  clear hu
  go_enter Try.func20, Try.ntmps20
  go_wp2
  go_loopw [5, 6] (fun s i wr => ∃ (k : Nat) (t : ByteArray), i = .int .i64 (k : Int) ∧ k ≤ n ∧ s = .string t ∧ t.data.toList = Cm.joinB (Cm.selK L m k) ∧ Below w.heap.size w wr) (fun _ i _ => n - (intOf i).toNat)
  case atStart => exact ⟨0, ⟨#[]⟩, rfl, by omega, rfl, rfl, Below.refl _ _⟩
  case round =>
    obtain ⟨k, t, rfl, hk, rfl, ht, hB⟩ := hrel
    by_cases hlt : k < n
    · obtain ⟨x, hx, hx2, hx3⟩ := txt (L[k]'(by omega))
      have hc := (hr.step hB).2 k (by omega)
      rw [hx] at hc
      have hxl := hl _ (List.getElem_mem (show k < L.length by omega))
      have hjl := Cm.names_len (m := m) (k := k) (by omega) hl
      rw [← ht] at hjl
      cases hbit : m.testBit k
      · have ht2 : t.data.toList = Cm.joinB (Cm.selK L m (k + 1)) := by rw [Cm.selK_no hbit]; exact ht
        have HT := hide ht2
        have hb0 := hbit
        clear ht ht2 hx hx2 hx3 hxl hjl hbit
        have hbt := bit_tmod m k
        rw [hb0] at hbt
        clear hb0
        go_wp2
        go_roundw
        case rel => exact ⟨k + 1, t, by go_num, hlt, rfl, unhide HT, hB⟩
        case measure => simp [intOf]; omega
      · have hsk := Cm.selK_yes (L := L) (k := k) (by omega) hbit
        rw [← hx2] at hsk
        have hjs := Cm.joinB_snoc (Cm.selK L m k) x.data.toList
        rw [← hsk, ← ht] at hjs
        have hem := Cm.joinB_empty (ws := Cm.selK L m k) (fun y hy => hne y (Cm.selK_mem (by omega) hy))
        rw [← ht] at hem
        have hbt := bit_tmod m k
        rw [hbit] at hbt
        have htl : t.size ≤ 100000 := by
          have h1 : t.data.toList.length = t.size := by rw [Array.length_toList]; rfl
          have := Nat.mul_le_mul_right 1001 (show k ≤ 64 by omega)
          omega
        by_cases h0 : t.size = 0
        · have hz := empty_yes h0
          have htn : t.data.toList = [] := List.eq_nil_of_length_eq_zero (by rw [Array.length_toList]; exact h0)
          rw [if_pos (hem.1 htn), htn] at hjs
          have HT := hide (show (t ++ x).data.toList = Cm.joinB (Cm.selK L m (k + 1)) by rw [app_data, hjs, htn]; rfl)
          have j1 : ¬ (9223372036854775807 < t.size + x.size) := by omega
          clear ht hx hx2 hx3 hxl hjl hbit hem hjs hsk htn h0
          go_wp2
          go_roundw
          case rel => exact ⟨k + 1, t ++ x, by go_num, hlt, rfl, unhide HT, hB⟩
          case measure => simp [intOf]; omega
        · have hz := empty_no h0
          have htn : t.data.toList ≠ [] := fun e => h0 (by have := congrArg List.length e; rw [Array.length_toList] at this; exact this)
          rw [if_neg (fun e => htn (hem.2 e))] at hjs
          have HT := hide (show (t ++ ⟨#[32]⟩ ++ x).data.toList = Cm.joinB (Cm.selK L m (k + 1)) by rw [app_data, app_data, hjs, List.append_assoc])
          have j1 : ¬ (9223372036854775807 < t.size + 1) := by omega
          have j2 : ¬ (9223372036854775807 < t.size + 1 + x.size) := by omega
          clear ht hx hx2 hx3 hxl hjl hbit hem hjs hsk htn h0
          go_wp2
          go_roundw
          case rel => exact ⟨k + 1, t ++ ⟨#[32]⟩ ++ x, by go_num, hlt, rfl, unhide HT, hB⟩
          case measure => simp [intOf]; omega
    · have hkn : k = n := by omega
      rw [hkn] at ht
      have hut : t = u := by
        have e := ht.trans (unhide HU)
        cases t; cases u
        congr 1
        exact Array.toList_inj.1 e
      subst hut
      clear ht HU hkn
      go_wp2
      go_ret
      exact ⟨rfl, hB⟩
end Go.Proofs.Ytebmmnfjkckffaa
