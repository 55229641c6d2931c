/- What is proved here: what cutDigits and exponent of package dec do, walked; conditions: as each theorem states. -/
import Derived.Test.YtmlmplmghlbdmaaGreatDoorWa
import Derived.Lib.Strings
import Derived.Lib.IndexBytes
import Derived.Deep.QuietTactic
import Derived.BigQuiet
namespace Go.Proofs.YtmlmplmghlbdmaaGreatDoor
open Go.RowKit
set_option linter.unusedVariables false
set_option linter.unusedSimpArgs false

/-- A text of a list of bytes. -/
theorem str_ext {s : ByteArray} {l : List UInt8} (h : s.data.toList = l) : s = ⟨l.toArray⟩ := by
  subst h; cases s; simp
theorem takeWhile_at {l : List UInt8} {k : Nat} (hd : Dm.allD (l.take k)) (h : ∀ g : k < l.length, Dm.isD l[k] = false) : l.takeWhile Dm.isD = l.take k ∧ l.dropWhile Dm.isD = l.drop k := by
  have := Dm.takeWhile_all (l := l.take k) (m := l.drop k) hd (by
    intro c t e
    have g : k < l.length := by
      rcases Nat.lt_or_ge k l.length with g | g
      · exact g
      · rw [List.drop_of_length_le g] at e; cases e
    rw [List.drop_eq_getElem_cons g] at e
    injection e with e1
    rw [← e1]; exact h g)
  rwa [List.take_append_drop] at this
theorem ret_two {a b c d : Value} (h : a = c) (g : b = d) : Ending.returned (.tuple #[a, b]) = .returned (.tuple #[c, d]) := by rw [h, g]

set_option maxRecDepth 100000 in
set_option maxHeartbeats 1000000 in
theorem cutDigits_any (s : ByteArray) (w : World) (hs : s.size ≤ maxLen) :
    Calls Tryz.prog 97 #[.string s] w fun e w' => e = .returned (.tuple #[.string ⟨(s.data.toList.takeWhile Dm.isD).toArray⟩, .string ⟨(s.data.toList.dropWhile Dm.isD).toArray⟩]) ∧ Below w.heap.size w w' := by
  unfold maxLen at hs
  go_enter Tryz.func97, Tryz.ntmps97
  go_wp2
  go_loop [7, 4] (fun i j => ∃ k : Nat, k ≤ s.size ∧ i = .int .i64 k ∧ Dm.allD (s.data.toList.take k)) (fun i _ => s.size - (intOf i).toNat)
  case atStart => exact ⟨0, Nat.zero_le _, rfl, by rw [List.take_zero]; exact Dm.allD_nil⟩
  case round =>
    obtain ⟨k, hk, rfl, hd⟩ := hrel
    by_cases hlt : k < s.size
    · have HD := hide hd
      clear hd
      go_wp2_with (go_at_call 55; refine (isDigit_any _ _).mono ?_; rintro e w' ⟨rfl, rfl⟩)
      · have hbad : (!Dm.isD s[k]) = true := by assumption
        go_quiet (fail)
        go_wp2
        go_ret2
        rw [ba_get s k hlt, Bool.not_eq_true'] at hbad
        have := takeWhile_at (unhide HD) (fun _ => hbad)
        refine ⟨ret_two (congrArg Value.string (str_ext ?_)) (congrArg Value.string (str_ext ?_)), below_drewN (Below.refl _ _) _⟩
        · rw [this.1, Go.Lib.extract_data, List.drop_zero, Nat.sub_zero]
        · rw [this.2, Go.Lib.extract_to_end]
      · rename_i hgood
        go_round
        case rel =>
          refine ⟨k + 1, by omega, by go_num, ?_⟩
          rw [ba_get s k hlt, Bool.not_eq_false'] at hgood
          exact allD_take_succ (by rw [← size_len]; exact hlt) (unhide HD) hgood
        case measure => simp [intOf]; omega
    · have HD := hide hd
      clear hd
      go_wp2
      go_ret2
      have e : k = s.data.toList.length := by rw [← size_len]; omega
      have := takeWhile_at (unhide HD) (fun g => absurd g (by omega))
      refine ⟨ret_two (congrArg Value.string (str_ext ?_)) (congrArg Value.string (str_ext ?_)), Below.refl _ _⟩
      · rw [this.1, e, List.take_length]
      · rw [this.2, e, List.drop_length]
end Go.Proofs.YtmlmplmghlbdmaaGreatDoor
