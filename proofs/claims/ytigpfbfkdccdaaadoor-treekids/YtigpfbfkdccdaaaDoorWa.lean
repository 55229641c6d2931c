/- What is proved here: what May and its helpers of package dec do, walked; conditions: as each theorem states. -/
import Derived.Test.YtigpfbfkdccdaaaDoorRows
import Derived.Test.YtigpfbfkdccdaaaDoorM
import Derived.WalkKit
import Derived.WalkSpells
import Derived.WalkLawsBesides
namespace Go.Proofs.YtigpfbfkdccdaaaDoor
open Go.RowKit
set_option linter.unusedVariables false
set_option linter.unusedSimpArgs false

theorem isDigit_any (c : UInt8) (w : World) :
    Calls Tryd.prog 86 #[.int .u8 (c.toNat : Int)] w fun e w' => e = .returned (.bool (Dm.isD c)) ∧ w' = w := by
  have hc : c.toNat < 256 := c.toNat_lt
  by_cases h1 : (48 : Int) ≤ (c.toNat : Int)
  · by_cases h2 : (c.toNat : Int) ≤ 57
    · have e : Dm.isD c = true := Dm.isD_iff.2 (by omega)
      rw [e]
      go_enter Tryd.func86, Tryd.ntmps86
      go_wp2
      go_ret
      exact ⟨rfl, rfl⟩
    · have e : Dm.isD c = false := by rw [Bool.eq_false_iff]; intro h; have := Dm.isD_iff.1 h; omega
      rw [e]
      go_enter Tryd.func86, Tryd.ntmps86
      go_wp2
      go_ret
      exact ⟨rfl, rfl⟩
  · have e : Dm.isD c = false := by rw [Bool.eq_false_iff]; intro h; have := Dm.isD_iff.1 h; omega
    rw [e]
    go_enter Tryd.func86, Tryd.ntmps86
    go_wp2
    go_ret
    exact ⟨rfl, rfl⟩

theorem hide {p : Prop} (h : p) : Hid p := h
theorem unhide {p : Prop} (h : Hid p) : p := h
theorem size_len (s : ByteArray) : s.size = s.data.toList.length := (Array.length_toList (xs := s.data)).symm
theorem mayB_short {ng : Bool} {l : List UInt8} {n : Int} (h : ¬ (1 ≤ l.length ∧ l.length ≤ 60 ∧ 0 ≤ n ∧ n ≤ 60)) : Dm.mayB ng l n = false := by
  unfold Dm.mayB
  rw [decide_eq_false h]; rfl
theorem mayB_long {ng : Bool} {l : List UInt8} {n : Int} (h : 1 ≤ l.length ∧ l.length ≤ 60 ∧ 0 ≤ n ∧ n ≤ 60) (hd : Dm.allD l) :
    Dm.mayB ng l n = if l = [48] then (decide (n = 0) && !ng) else (l.headD 0 != 48 && (decide (n = 0) || l.getLastD 0 != 48)) := by
  unfold Dm.mayB
  rw [decide_eq_true h, Dm.allD_all.2 hd]; rfl
theorem mayB_bad {ng : Bool} {l : List UInt8} {n : Int} {k : Nat} (h : k < l.length) (hd : Dm.isD l[k] = false) : Dm.mayB ng l n = false := by
  unfold Dm.mayB
  have : l.all Dm.isD = false := by
    rw [List.all_eq_false]
    exact ⟨l[k], List.getElem_mem h, by rw [hd]; simp⟩
  rw [this]; simp
theorem ba_get (s : ByteArray) (k : Nat) (h : k < s.size) : s[k] = s.data.toList[k]'(by rw [← size_len]; exact h) := rfl
theorem allD_take_succ {l : List UInt8} {k : Nat} (h : k < l.length) (h1 : Dm.allD (l.take k)) (h2 : Dm.isD l[k] = true) : Dm.allD (l.take (k + 1)) := by
  rw [List.take_succ_eq_append_getElem h]
  refine Dm.allD_append.2 ⟨h1, ?_⟩
  intro c hc
  simp at hc
  rw [hc]; exact h2
theorem toList_eq (s : ByteArray) : s.toList = s.data.toList := ByteArray.toList_eq s
theorem last_get (l : List UInt8) (h : 0 < l.length) : l.getLastD 0 = l[l.length - 1] := by
  rw [List.getLastD_eq_getLast?, List.getLast?_eq_getElem?, List.getElem?_eq_getElem (by omega)]; rfl
theorem head_get (l : List UInt8) (h : 0 < l.length) : l.headD 0 = l[0] := by
  cases l with
  | nil => simp at h
  | cons c t => rfl
theorem ne48 {c : UInt8} : (c != 48) = decide (¬ (c.toNat : Int) = 48) := by
  rw [Bool.eq_iff_iff]
  simp only [bne_iff_ne, ne_eq, decide_eq_true_eq]
  have : c = 48 ↔ (c.toNat : Int) = 48 := by
    rw [← UInt8.toNat_inj]
    show c.toNat = 48 ↔ _
    omega
  rw [this]
theorem neInt {c : UInt8} : ((c.toNat : Int) != 48) = (c != 48) := by
  rw [ne48, Bool.eq_iff_iff, bne_iff_ne, decide_eq_true_eq]
theorem last_ba (s : ByteArray) (h : s.size - 1 < s.size) (h' : s.data.toList.length - 1 < s.data.toList.length) : s[s.size - 1] = s.data.toList[s.data.toList.length - 1] := by
  rw [ba_get]
  congr 1
theorem ret_bool {a b : Bool} (h : a = b) : Ending.returned (.bool a) = .returned (.bool b) := by rw [h]
set_option maxRecDepth 100000 in
set_option maxHeartbeats 1000000 in
theorem may_any (ng : Bool) (s : ByteArray) (n : Int) (w : World) (hs : s.size ≤ maxLen) :
    Calls Tryd.prog 71 #[.agg #[.bool ng, .string s, .int .i64 n]] w fun e w' => e = .returned (.bool (Dm.mayB ng s.data.toList n)) ∧ Below w.heap.size w w' := by
  unfold maxLen at hs
  have hz := size_len s
  have hb : Below w.heap.size w (w.alloc (.cells #[.bool ng, .string s, .int .i64 n] 24)) := (Below.refl _ _).alloc (Nat.le_refl _) _
  by_cases h : 1 ≤ s.data.toList.length ∧ s.data.toList.length ≤ 60 ∧ 0 ≤ n ∧ n ≤ 60
  · obtain ⟨h1, h2, h3, h4⟩ := id h
    have g1 : ¬ (s.size : Int) < 1 := by omega
    have g2 : ¬ (60 : Int) < (s.size : Int) := by omega
    have g3 : ¬ n < 0 := by omega
    have g4 : ¬ 60 < n := by omega
    have HH := hide h
    have H : Hid (s.size = s.data.toList.length) := hz
    clear hz h h1 h2 h3 h4
    go_enter Tryd.func71, Tryd.ntmps71
    go_wp2
    go_loop [25, 4] (fun i j => ∃ k : Nat, k ≤ s.size ∧ i = .int .i64 k ∧ Dm.allD (s.data.toList.take k)) (fun i _ => s.size - (intOf i).toNat)
    case atStart => exact ⟨0, Nat.zero_le _, rfl, by rw [List.take_zero]; exact Dm.allD_nil⟩
    case round =>
      obtain ⟨k, hk, rfl, hd⟩ := hrel
      by_cases hlt : k < s.size
      · have HD := hide hd
        clear hd
        go_wp2_with (go_at_call 86; refine (isDigit_any _ _).mono ?_; rintro e w' ⟨rfl, rfl⟩)
        · rename_i hbad
          go_ret
          refine ⟨ret_bool ?_, hb⟩
          rw [ba_get s k hlt, Bool.not_eq_true'] at hbad
          exact (mayB_bad (by rw [← size_len]; exact hlt) hbad).symm
        · rename_i hgood
          go_round
          case rel =>
            refine ⟨k + 1, by omega, by go_num, ?_⟩
            rw [ba_get s k hlt, Bool.not_eq_false'] at hgood
            exact allD_take_succ (by rw [← size_len]; exact hlt) (unhide HD) hgood
          case measure => simp [intOf]; omega
      · have hall : Dm.allD s.data.toList := by
          rw [List.take_of_length_le (by rw [← size_len]; omega)] at hd; exact hd
        have e0 := mayB_long (ng := ng) (unhide HH) hall
        have h0 : 0 < s.data.toList.length := by rw [← size_len]; omega
        have hl := last_get _ h0
        have hh := head_get _ h0
        have HE := hide e0
        have HL := hide hl
        have HF := hide hh
        clear hd hall e0 hl hh
        go_wp2
        · rename_i hq hn _
          subst hn
          go_ret
          refine ⟨ret_bool ?_, hb⟩
          rw [unhide HE, if_pos (by rw [toList_eq] at hq; simpa using hq)]; simp
        · rename_i hq hn _
          go_ret
          refine ⟨ret_bool ?_, hb⟩
          rw [unhide HE, if_pos (by rw [toList_eq] at hq; simpa using hq), decide_eq_false hn]; rfl
        · rename_i hq _ _ hc
          go_ret
          refine ⟨ret_bool ?_, hb⟩
          rw [unhide HE, if_neg (by rw [toList_eq] at hq; simpa using hq), unhide HF, ne48, decide_eq_false (fun g => g hc)]; rfl
        · rename_i hq _ _ hc hn
          subst hn
          go_ret
          refine ⟨ret_bool ?_, hb⟩
          rw [unhide HE, if_neg (by rw [toList_eq] at hq; simpa using hq), unhide HF, decide_eq_true (rfl : (0 : Int) = 0), Bool.true_or, Bool.and_true, neInt]
          exact congrArg (· != 48) (ba_get s 0 _)
        · rename_i hq _ _ hc hn hlt
          go_ret
          refine ⟨ret_bool ?_, hb⟩
          have e1 : (s.data.toList[0] != 48) = true := by rw [ne48]; exact decide_eq_true hc
          rw [unhide HE, if_neg (by rw [toList_eq] at hq; simpa using hq), unhide HF, e1, decide_eq_false hn, unhide HL, Bool.true_and, Bool.false_or]
          rw [neInt, neInt, beq_eq_false_iff_ne.2 hn, Bool.false_or, ba_get s 0, e1, Bool.true_and]
          exact congrArg (· != 48) (last_ba s (by omega) (by omega))
  · rw [mayB_short h]
    have h' : (s.size : Int) < 1 ∨ (60 : Int) < (s.size : Int) ∨ n < 0 ∨ 60 < n := by omega
    clear h hz
    by_cases c1 : (s.size : Int) < 1
    · go_enter Tryd.func71, Tryd.ntmps71
      go_wp2
      go_ret
      exact ⟨rfl, hb⟩
    · by_cases c2 : (60 : Int) < (s.size : Int)
      · go_enter Tryd.func71, Tryd.ntmps71
        go_wp2
        go_ret
        exact ⟨rfl, hb⟩
      · by_cases c3 : n < 0
        · go_enter Tryd.func71, Tryd.ntmps71
          go_wp2
          go_ret
          exact ⟨rfl, hb⟩
        · have c4 : 60 < n := by omega
          go_enter Tryd.func71, Tryd.ntmps71
          go_wp2
          go_ret
          exact ⟨rfl, hb⟩
end Go.Proofs.YtigpfbfkdccdaaaDoor
