/- What is proved here: what digit, zeros and run of the document's own answers do, walked; conditions: as each theorem states. -/
import Derived.Test.YtigpfbfkdccdaaaDoorWb
import Derived.Test.YtigpfbfkdccdaaaDoorMh
namespace Go.Proofs.YtigpfbfkdccdaaaDoor
open Go.RowKit
set_option linter.unusedVariables false
set_option linter.unusedSimpArgs false

theorem digit_any (c : UInt8) (w : World) :
    Calls Tryd.prog 75 #[.int .u8 (c.toNat : Int)] w fun e w' => e = .returned (.bool (Dm.isD c)) ∧ w' = w := by
  have hc : c.toNat < 256 := c.toNat_lt
  by_cases h1 : (48 : Int) ≤ (c.toNat : Int)
  · by_cases h2 : (c.toNat : Int) ≤ 57
    · have e : Dm.isD c = true := Dm.isD_iff.2 (by omega)
      rw [e]
      go_enter Tryd.func75, Tryd.ntmps75
      go_wp2
      go_ret
      exact ⟨rfl, rfl⟩
    · have e : Dm.isD c = false := by rw [Bool.eq_false_iff]; intro h; have := Dm.isD_iff.1 h; omega
      rw [e]
      go_enter Tryd.func75, Tryd.ntmps75
      go_wp2
      go_ret
      exact ⟨rfl, rfl⟩
  · have e : Dm.isD c = false := by rw [Bool.eq_false_iff]; intro h; have := Dm.isD_iff.1 h; omega
    rw [e]
    go_enter Tryd.func75, Tryd.ntmps75
    go_wp2
    go_ret
    exact ⟨rfl, rfl⟩
theorem mk_join (a b : List UInt8) : (⟨a.toArray⟩ ++ ⟨b.toArray⟩ : ByteArray) = ⟨(a ++ b).toArray⟩ := by rw [← ByteArray.mk_append_mk]
theorem zeros_snoc (k : Nat) : (⟨(List.replicate k (48 : UInt8)).toArray⟩ ++ ⟨#[48]⟩ : ByteArray) = ⟨(List.replicate (k + 1) (48 : UInt8)).toArray⟩ := by
  rw [show (⟨#[48]⟩ : ByteArray) = ⟨[48].toArray⟩ from rfl, mk_join, ← List.replicate_succ']
theorem mk_sz (l : List UInt8) : (⟨l.toArray⟩ : ByteArray).size = l.length := rfl
theorem ret_i {k : IntKind} {a b : Int} (h : a = b) : Ending.returned (.int k a) = .returned (.int k b) := by rw [h]
theorem ret_s {a b : ByteArray} (h : a = b) : Ending.returned (.string a) = .returned (.string b) := by rw [h]
set_option maxRecDepth 100000 in
set_option maxHeartbeats 1000000 in
theorem rzeros_any (n : Int) (w : World) (h1 : n ≤ 100000) :
    Calls Tryd.prog 68 #[.int .i64 n] w fun e w' => e = .returned (.string ⟨(List.replicate n.toNat (48 : UInt8)).toArray⟩) ∧ w' = w := by
  go_enter Tryd.func68, Tryd.ntmps68
  go_wp2
  go_loop [3, 4] (fun s i => ∃ k : Nat, k ≤ n.toNat ∧ i = .int .i64 k ∧ s = .string ⟨(List.replicate k (48 : UInt8)).toArray⟩) (fun _ i => n.toNat - (intOf i).toNat)
  case atStart => exact ⟨0, Nat.zero_le _, rfl, rfl⟩
  case round =>
    obtain ⟨k, hk, rfl, rfl⟩ := hrel
    by_cases hlt : (k : Int) < n
    · go_wp2
      go_round
      case rel => exact ⟨k + 1, by omega, by go_num, congrArg Value.string (by rw [← zeros_snoc]; simp)⟩
      case measure => simp [intOf]; omega
    · have e : k = n.toNat := by omega
      have HE := hide e
      clear e
      go_wp2
      go_ret
      exact ⟨ret_s (by rw [unhide HE]), rfl⟩
set_option maxRecDepth 100000 in
set_option maxHeartbeats 1000000 in
theorem run_any (s : ByteArray) (a n : Nat) (w : World) (hs : s.size ≤ 100000) (ha : a ≤ 100001) (h : ((s.data.toList.drop a).takeWhile Dm.isD).length = n) :
    Calls Tryd.prog 67 #[.string s, .int .i64 (a : Int)] w fun e w' => e = .returned (.int .i64 (n : Int)) ∧ w' = w := by
  go_enter Tryd.func67, Tryd.ntmps67
  go_wp2
  have H := hide h
  clear h
  go_loop [5] (fun i => ∃ k : Nat, k ≤ s.size ∧ i = .int .i64 k ∧ (k = 0 ∨ a + k ≤ s.size) ∧ Dm.allD ((s.data.toList.drop a).take k)) (fun i => s.size - (intOf i).toNat)
  case atStart => exact ⟨0, Nat.zero_le _, rfl, .inl rfl, by rw [List.take_zero]; exact Dm.allD_nil⟩
  case round =>
    obtain ⟨k, hk, rfl, hk2, hd⟩ := hrel
    have HD := hide hd
    clear hd
    by_cases hlt : (a : Int) + (k : Int) < (s.size : Int)
    · have hak : a + k < s.size := by omega
      go_wp2_with (go_at_call 75; refine (digit_any _ _).mono ?_; rintro e w' ⟨rfl, rfl⟩)
      · rename_i hgood
        go_round
        case rel => exact ⟨k + 1, by omega, by go_num, .inr (by omega), allD_take_succ (by rw [List.length_drop, ← size_len]; omega) (unhide HD) (by rw [List.getElem_drop]; rw [ba_get] at hgood; exact hgood)⟩
        case measure => simp [intOf]; omega
      · rename_i hbad
        have e := (takeWhile_at (unhide HD) (fun g => by rw [List.getElem_drop]; rw [ba_get] at hbad; simpa using hbad)).1
        have hn : k = n := by
          rw [← unhide H, e, List.length_take, List.length_drop, ← size_len]; omega
        have HN := hide hn
        clear hn e
        go_wp2
        go_ret
        exact ⟨ret_i (by rw [unhide HN]), rfl⟩
    · have e := (takeWhile_at (unhide HD) (fun g => by rw [List.length_drop, ← size_len] at g; omega)).1
      have hn : k = n := by
        rw [← unhide H, e, List.length_take, List.length_drop, ← size_len]; omega
      have HN := hide hn
      clear hn e
      go_wp2
      go_ret
      exact ⟨ret_i (by rw [unhide HN]), rfl⟩
end Go.Proofs.YtigpfbfkdccdaaaDoor
