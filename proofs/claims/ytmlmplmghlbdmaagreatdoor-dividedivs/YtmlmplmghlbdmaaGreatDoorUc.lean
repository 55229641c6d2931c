/- What is proved here: what May of the document's own answers does, walked; conditions: as each theorem states. -/
import Derived.Test.YtmlmplmghlbdmaaGreatDoorUa
import Derived.Test.YtmlmplmghlbdmaaGreatDoorRt
namespace Go.Proofs.YtmlmplmghlbdmaaGreatDoor
open Go.RowKit
set_option linter.unusedVariables false
set_option linter.unusedSimpArgs false

set_option maxRecDepth 100000 in
set_option maxHeartbeats 1000000 in
theorem rmay_any (ng : Bool) (s : ByteArray) (n : Int) (w : World) (hs : s.size ≤ maxLen) :
    Calls Tryz.prog 16 #[.agg #[.bool ng, .string s, .int .i64 n]] w fun e w' => e = .returned (.bool (Dm.mayB ng s.data.toList n)) ∧ Below w.heap.size w w' := by
  unfold maxLen at hs
  have hz := size_len s
  have hb : Below w.heap.size w (w.alloc (.cells #[.bool ng, .string s, .int .i64 n] 23)) := (Below.refl _ _).alloc (Nat.le_refl _) _
  have HZ := hide hz
  clear hz
  go_enter Tryz.func16, Tryz.ntmps16
  go_wp2
  go_loop [4] (fun i => ∃ k : Nat, k ≤ s.size ∧ i = .int .i64 k ∧ Dm.allD (s.data.toList.take k)) (fun i => s.size - (intOf i).toNat)
  case atStart => exact ⟨0, Nat.zero_le _, rfl, by rw [List.take_zero]; exact Dm.allD_nil⟩
  case round =>
    obtain ⟨k, hk, rfl, hd⟩ := hrel
    by_cases hlt : k < s.size
    · have HD := hide hd
      clear hd
      go_wp2_with (go_at_call 46; refine (digit_any _ _).mono ?_; rintro e w' ⟨rfl, rfl⟩)
      · rename_i hbad
        go_ret
        refine ⟨ret_bool ?_, hb⟩
        rw [ba_get s k hlt, Bool.not_eq_true'] at hbad
        exact (mayB_bad (by rw [← size_len]; exact hlt) hbad).symm
      · rename_i hgood
        go_round
        case rel =>
          refine ⟨k + 1, by omega, by go_num, ?_⟩
          rw [ba_get s k hlt, Bool.not_eq_false'] at hgood
          exact allD_take_succ (by rw [← size_len]; exact hlt) (unhide HD) hgood
        case measure => simp [intOf]; omega
    · have hall : Dm.allD s.data.toList := by
        rw [List.take_of_length_le (by rw [← size_len]; omega)] at hd; exact hd
      have HA := hide hall
      clear hd hall
      by_cases c1 : (s.size : Int) < 1
      · have e : Dm.mayB ng s.data.toList n = false := mayB_short (by rw [← unhide HZ]; omega)
        have E := hide e
        clear e
        go_wp2
        go_ret
        exact ⟨ret_bool (unhide E).symm, hb⟩
      · by_cases c2 : (60 : Int) < (s.size : Int)
        · have e : Dm.mayB ng s.data.toList n = false := mayB_short (by rw [← unhide HZ]; omega)
          have E := hide e
          clear e
          go_wp2
          go_ret
          exact ⟨ret_bool (unhide E).symm, hb⟩
        · by_cases c3 : n < 0
          · have e : Dm.mayB ng s.data.toList n = false := mayB_short (by rw [← unhide HZ]; omega)
            have E := hide e
            clear e
            go_wp2
            go_ret
            exact ⟨ret_bool (unhide E).symm, hb⟩
          · by_cases c4 : 60 < n
            · have e : Dm.mayB ng s.data.toList n = false := mayB_short (by rw [← unhide HZ]; omega)
              have E := hide e
              clear e
              go_wp2
              go_ret
              exact ⟨ret_bool (unhide E).symm, hb⟩
            · have e0 := mayB_long (ng := ng) (l := s.data.toList) (n := n) (by rw [← unhide HZ]; omega) (unhide HA)
              have h0 : 0 < s.data.toList.length := by rw [← unhide HZ]; omega
              have hl := last_get _ h0
              have hh := head_get _ h0
              have HE := hide e0
              have HL := hide hl
              have HF := hide hh
              clear e0 hl hh
              go_wp2
              · rename_i hq hn _
                subst hn
                go_ret
                refine ⟨ret_bool ?_, hb⟩
                rw [unhide HE, if_pos (by rw [toList_eq] at hq; simpa using hq)]; simp
              · rename_i hq hn _
                go_ret
                refine ⟨ret_bool ?_, hb⟩
                rw [unhide HE, if_pos (by rw [toList_eq] at hq; simpa using hq), decide_eq_false hn]; rfl
              · rename_i hq _ _ hc
                go_ret
                refine ⟨ret_bool ?_, hb⟩
                rw [unhide HE, if_neg (by rw [toList_eq] at hq; simpa using hq), unhide HF, ne48, decide_eq_false (fun g => g hc)]; rfl
              · rename_i hq _ _ hc hn
                subst hn
                go_ret
                refine ⟨ret_bool ?_, hb⟩
                rw [unhide HE, if_neg (by rw [toList_eq] at hq; simpa using hq), unhide HF, decide_eq_true (rfl : (0 : Int) = 0), Bool.true_or, Bool.and_true, neInt]
                exact congrArg (· != 48) (ba_get s 0 _)
              · rename_i hq _ _ hc hn hlt
                go_ret
                refine ⟨ret_bool ?_, hb⟩
                have e1 : (s.data.toList[0] != 48) = true := by rw [ne48]; exact decide_eq_true hc
                rw [unhide HE, if_neg (by rw [toList_eq] at hq; simpa using hq), unhide HF, e1, decide_eq_false hn, unhide HL, Bool.true_and, Bool.false_or]
                rw [neInt, neInt, beq_eq_false_iff_ne.2 hn, Bool.false_or, ba_get s 0, e1, Bool.true_and]
                exact congrArg (· != 48) (last_ba s (by omega) (by omega))
end Go.Proofs.YtmlmplmghlbdmaaGreatDoor
