/- What is proved here: what isLetter, isInName, bitAt, Within of package cats do, and MayName, Within, short beside it, walked; conditions: as each theorem states. -/
import Derived.Test.YtppkknmgdahniabDoorRows
import Derived.WalkKit
import Derived.WalkSpells
import Derived.WalkLawsBesides
import Derived.BigCall
import Derived.Laws.BitsAllLaws
import Derived.Test.YtppkknmgdahniabDoorAb
namespace Go.Proofs.YtppkknmgdahniabDoor.Nc
set_option maxRecDepth 100000
open Go.RowKit
set_option linter.unusedVariables false
set_option linter.unusedSimpArgs false

theorem hide {p : Prop} (h : p) : Hid p := h
theorem unhide {p : Prop} (h : Hid p) : p := h
theorem ret_bool {a b : Bool} (h : a = b) : Ending.returned (.bool a) = .returned (.bool b) := by rw [h]
theorem ret_i64 {a b : Int} (h : a = b) : Ending.returned (.int .i64 a) = .returned (.int .i64 b) := by rw [h]
theorem ret_u64 {a b : Int} (h : a = b) : Ending.returned (.int .u64 a) = .returned (.int .u64 b) := by rw [h]

theorem isLetter_any (c : UInt8) (w : World) : Calls Tryd.prog 53 #[.int .u8 (c.toNat : Int)] w fun e w' => e = .returned (.bool (Cm.letB c)) ∧ w' = w := by
  unfold Cm.letB
  by_cases h1 : 97 ≤ c.toNat
  · go_enter Tryd.func53, Tryd.ntmps53
    go_wp2
    go_ret
    exact ⟨ret_bool (by simp [h1]; omega), rfl⟩
  · rw [decide_eq_false h1]
    go_enter Tryd.func53, Tryd.ntmps53
    go_wp2
    go_ret
    exact ⟨rfl, rfl⟩

theorem isInName_any (c : UInt8) (w : World) : Calls Tryd.prog 54 #[.int .u8 (c.toNat : Int)] w fun e w' => e = .returned (.bool (Cm.inB c)) ∧ w' = w := by
  have C : ∀ b, Cm.letB c = b → ∀ W, Calls Tryd.prog 53 #[.int .u8 (c.toNat : Int)] W fun e w' => e = .returned (.bool b) ∧ w' = W := fun b h W => h ▸ isLetter_any c W
  unfold Cm.inB
  cases hb : Cm.letB c
  · replace C := C _ hb
    clear hb
    by_cases h1 : 48 ≤ c.toNat
    · by_cases h2 : c.toNat ≤ 57
      · have d3 : ((c.toNat : Int) == 95) = false := beq_eq_false_iff_ne.2 (by omega)
        go_enter Tryd.func54, Tryd.ntmps54
        go_wp2_with (go_at_call 53; refine (C _).mono ?_; rintro e w ⟨rfl, rfl⟩)
        go_ret
        exact ⟨ret_bool (by simp [h1, h2]), rfl⟩
      · obtain ⟨q, hq⟩ : ∃ q, decide (c.toNat = 95) = q := ⟨_, rfl⟩
        have d3 : ((c.toNat : Int) == 95) = q := by rw [← hq, Bool.eq_iff_iff]; simp; omega
        rw [hq]
        clear hq
        go_enter Tryd.func54, Tryd.ntmps54
        go_wp2_with (go_at_call 53; refine (C _).mono ?_; rintro e w ⟨rfl, rfl⟩)
        go_ret
        exact ⟨ret_bool (by have h3 : ¬ ((c.toNat : Int) ≤ 57) := (by omega); simp [h1, h2, h3]), rfl⟩
    · obtain ⟨q, hq⟩ : ∃ q, decide (c.toNat = 95) = q := ⟨_, rfl⟩
      have d3 : ((c.toNat : Int) == 95) = q := by rw [← hq, Bool.eq_iff_iff]; simp; omega
      rw [hq]
      clear hq
      go_enter Tryd.func54, Tryd.ntmps54
      go_wp2_with (go_at_call 53; refine (C _).mono ?_; rintro e w ⟨rfl, rfl⟩)
      go_ret
      exact ⟨ret_bool (by simp [h1]), rfl⟩
  · replace C := C _ hb
    clear hb
    go_enter Tryd.func54, Tryd.ntmps54
    go_wp2_with (go_at_call 53; refine (C _).mono ?_; rintro e w ⟨rfl, rfl⟩)
    go_ret
    exact ⟨rfl, rfl⟩

theorem wrap_u64 (x : Int) : IntKind.u64.wrap x = x % 18446744073709551616 := by
  unfold IntKind.wrap
  simp [IntKind.signed, IntKind.bits]
theorem bit_wrap (i : Nat) : IntKind.u64.wrap (2 ^ min i 64) = (Cm.bitN i : Int) := by
  rw [wrap_u64]
  unfold Cm.bitN
  by_cases h : i < 64
  · rw [if_pos h, Nat.min_eq_left (by omega)]
    have h1 : 2 ^ i < 2 ^ 64 := Nat.pow_lt_pow_right (by decide) h
    have h2 : ((2 : Int) ^ i) = ((2 ^ i : Nat) : Int) := by push_cast; rfl
    rw [h2]
    generalize 2 ^ i = q at h1
    omega
  · rw [if_neg h, Nat.min_eq_right (by omega)]
    decide
theorem within_bits {a b : Nat} (ha : a < 18446744073709551616) (hb : b < 18446744073709551616) : (bits BinOp.andNot IntKind.u64 (a : Int) (b : Int) == 0) = Cm.subB a b := by
  rw [u64_andNot_nat a b ha hb, Bool.eq_iff_iff, Cm.subB_iff ha hb]
  simp only [beq_iff_eq]
  omega
theorem empty_yes {s : ByteArray} (h : s.size = 0) : s.toList.isEmpty = true := by
  rw [ByteArray.toList_eq, List.isEmpty_iff]
  exact List.eq_nil_of_length_eq_zero h
theorem empty_no {s : ByteArray} (h : s.size ≠ 0) : s.toList.isEmpty = false := by
  rw [ByteArray.toList_eq]
  cases e : s.data.toList with
  | nil => exact absurd (congrArg List.length e) h
  | cons => rfl

theorem mayName_any (s : ByteArray) (w : World) (hs : s.size ≤ 9223372036854775807) : Calls Tryd.prog 37 #[.string s] w fun e w' => e = .returned (.bool (Cm.nameB s.data.toList)) ∧ w' = w := by
  by_cases h0 : s.size = 0
  · have hz := empty_yes h0
    have hn : Cm.nameB s.data.toList = false := by
      have : s.data.toList = [] := List.eq_nil_of_length_eq_zero h0
      rw [this]; rfl
    rw [hn]
    clear h0
    go_enter Tryd.func37, Tryd.ntmps37
    go_wp2
    go_ret
    exact ⟨rfl, rfl⟩
  · have hz := empty_no h0
    have h0' : (0 : Int) < (s.size : Int) := by omega
    by_cases h24 : s.size ≤ 24
    · have d24 : decide (24 < (s.size : Int)) = false := decide_eq_false (by omega)
      have hg : s.data.toList.getD 0 0 = s[0]'(by omega) := by
        have hl : 0 < s.data.toList.length := by rw [Array.length_toList]; exact Nat.pos_of_ne_zero h0
        rw [List.getD, List.getElem?_eq_getElem hl]; rfl
      have hn : Cm.nameB s.data.toList = (Cm.letB (s[0]'(by omega)) && s.data.toList.all Cm.inB) := by
        unfold Cm.nameB
        rw [hg, Array.length_toList, decide_eq_true (show 1 ≤ s.data.size from Nat.pos_of_ne_zero h0), decide_eq_true (show s.data.size ≤ 24 from h24)]
        rfl
      obtain ⟨q, hq⟩ : ∃ q, s.data.toList.all Cm.inB = q := ⟨_, rfl⟩
      rw [hn, hq]
      have HQ := hide hq
      clear hq
      cases hl : Cm.letB (s[0]'(by omega))
      · have C : ∀ W, Calls Tryd.prog 53 #[.int .u8 ((s[0]'(by omega)).toNat : Int)] W fun e w' => e = .returned (.bool false) ∧ w' = W := fun W => hl ▸ isLetter_any _ W
        clear hl hn hg
        go_enter Tryd.func37, Tryd.ntmps37
        go_wp2_with (go_at_call 53; refine (C _).mono ?_; rintro e w ⟨rfl, rfl⟩)
        go_ret
        exact ⟨rfl, rfl⟩
      · have C : ∀ W, Calls Tryd.prog 53 #[.int .u8 ((s[0]'(by omega)).toNat : Int)] W fun e w' => e = .returned (.bool true) ∧ w' = W := fun W => hl ▸ isLetter_any _ W
        clear hl hn hg
        go_enter Tryd.func37, Tryd.ntmps37
        go_wp2_with (go_at_call 53; refine (C _).mono ?_; rintro e w ⟨rfl, rfl⟩)
        clear C
        go_loop [19] (fun i => ∃ k : Nat, k ≤ s.size ∧ i = .int .i64 (k : Int) ∧ (s.data.toList.take k).all Cm.inB = true) (fun i => s.size - (intOf i).toNat)
        case atStart => exact ⟨0, by omega, rfl, rfl⟩
        case round =>
          obtain ⟨k, hk, rfl, hp⟩ := hrel
          by_cases hlt : k < s.size
          · have hts : s.data.toList.take (k + 1) = s.data.toList.take k ++ [s[k]'hlt] := by
              rw [List.take_succ_eq_append_getElem (by rw [Array.length_toList]; exact hlt)]; rfl
            cases hi : Cm.inB (s[k]'hlt)
            · have C : ∀ W, Calls Tryd.prog 54 #[.int .u8 ((s[k]'hlt).toNat : Int)] W fun e w' => e = .returned (.bool false) ∧ w' = W := fun W => hi ▸ isInName_any _ W
              have hall : s.data.toList.all Cm.inB = false := by
                rw [List.all_eq_false]
                exact ⟨s[k]'hlt, by rw [ByteArray.getElem_eq_getElem_data, ← Array.getElem_toList]; exact List.getElem_mem _, by rw [hi]; simp⟩
              have HL := hide ((unhide HQ).symm.trans hall)
              clear hts hi hp hall
              go_wp2_with (go_at_call 54; refine (C _).mono ?_; rintro e w ⟨rfl, rfl⟩)
              go_ret
              exact ⟨ret_bool (unhide HL).symm, rfl⟩
            · have C : ∀ W, Calls Tryd.prog 54 #[.int .u8 ((s[k]'hlt).toNat : Int)] W fun e w' => e = .returned (.bool true) ∧ w' = W := fun W => hi ▸ isInName_any _ W
              have hp2 : (s.data.toList.take (k + 1)).all Cm.inB = true := by rw [hts, List.all_append, hp]; simp [hi]
              clear hts hi hp
              go_wp2_with (go_at_call 54; refine (C _).mono ?_; rintro e w ⟨rfl, rfl⟩)
              go_round
              case rel => exact ⟨k + 1, by omega, by go_num, hp2⟩
              case measure => simp [intOf]; omega
          · have hall : s.data.toList.all Cm.inB = true := by rwa [List.take_of_length_le (by rw [Array.length_toList]; show s.size ≤ k; omega)] at hp
            have HL := hide ((unhide HQ).symm.trans hall)
            clear hall hp
            go_wp2
            go_ret
            exact ⟨ret_bool (unhide HL).symm, rfl⟩
    · have d24 : decide (24 < (s.size : Int)) = true := decide_eq_true (by omega)
      have hn : Cm.nameB s.data.toList = false := by
        unfold Cm.nameB
        rw [Array.length_toList, decide_eq_false (show ¬ s.data.size ≤ 24 from h24)]
        simp
      rw [hn]
      go_enter Tryd.func37, Tryd.ntmps37
      go_wp2
      go_ret
      exact ⟨rfl, rfl⟩

theorem in_cases (c : UInt8) : Cm.inB c = (Cm.letB c || ((decide (48 ≤ (c.toNat : Int)) && decide ((c.toNat : Int) ≤ 57)) || ((c.toNat : Int) == 95))) := by
  unfold Cm.inB
  rw [Bool.or_assoc, show ((c.toNat : Int) == 95) = decide (c.toNat = 95) by rw [Bool.eq_iff_iff]; simp; omega, show decide (48 ≤ (c.toNat : Int)) = decide (48 ≤ c.toNat) by simp; omega, show decide ((c.toNat : Int) ≤ 57) = decide (c.toNat ≤ 57) by simp; omega]
theorem all_snoc (s : ByteArray) (k : Nat) (h : k < s.size) (p : UInt8 → Bool) : (s.data.toList.take (k + 1)).all p = ((s.data.toList.take k).all p && p (s[k]'h)) := by
  have hts : s.data.toList.take (k + 1) = s.data.toList.take k ++ [s[k]'h] := by
    rw [List.take_succ_eq_append_getElem (by rw [Array.length_toList]; exact h)]; rfl
  rw [hts, List.all_append]
  simp
theorem at_mem (s : ByteArray) (k : Nat) (h : k < s.size) : s[k]'h ∈ s.data.toList := by rw [ByteArray.getElem_eq_getElem_data, ← Array.getElem_toList]; exact List.getElem_mem _
theorem getD_zero (s : ByteArray) (h : 0 < s.size) : s.data.toList.getD 0 0 = s[0]'h := by
  have hl : 0 < s.data.toList.length := by rw [Array.length_toList]; exact h
  rw [List.getD, List.getElem?_eq_getElem hl]; rfl
theorem name_in {l : Cm.Tx} (h : Cm.nameB l = true) : l.all Cm.inB = true := by
  unfold Cm.nameB at h
  simp only [Bool.and_eq_true] at h
  exact h.2
theorem name_head {l : Cm.Tx} (h : Cm.nameB l = true) : Cm.letB (l.getD 0 0) = true := by
  unfold Cm.nameB at h
  simp only [Bool.and_eq_true] at h
  exact h.1.2
theorem byte_class (c : Nat) : (97 ≤ c ∧ c ≤ 122) ∨ (48 ≤ c ∧ c ≤ 57) ∨ c = 95 ∨ c < 48 ∨ (57 < c ∧ c < 97 ∧ c ≠ 95) ∨ 122 < c := by omega
set_option maxHeartbeats 1000000 in
theorem rmayName_any (s : ByteArray) (w : World) (hs : s.size ≤ 9223372036854775807) : Calls Tryd.prog 12 #[.string s] w fun e w' => e = .returned (.bool (Cm.nameB s.data.toList)) ∧ w' = w := by
  obtain ⟨q, hq⟩ : ∃ q, Cm.nameB s.data.toList = q := ⟨_, rfl⟩
  rw [hq]
  have HQ := hide hq
  clear hq
  go_enter Tryd.func12, Tryd.ntmps12
  go_wp2
  go_loop [3] (fun i => ∃ k : Nat, k ≤ s.size ∧ i = .int .i64 (k : Int) ∧ (s.data.toList.take k).all Cm.inB = true ∧ (k = 0 ∨ Cm.letB (s.data.toList.getD 0 0) = true)) (fun i => s.size - (intOf i).toNat)
  case atStart => exact ⟨0, by omega, rfl, rfl, .inl rfl⟩
  case round =>
    obtain ⟨k, hk, rfl, hp, hz⟩ := hrel
    by_cases hlt : k < s.size
    · have hsn := all_snoc s k hlt Cm.inB
      rw [hp, Bool.true_and] at hsn
      have hm := at_mem s k hlt
      have hno : Cm.inB (s[k]'hlt) = false → q = false := by
        intro h
        rw [← unhide HQ, ← Bool.not_eq_true]
        intro h2
        have := List.all_eq_true.1 (name_in h2) _ hm
        rw [h] at this; cases this
      have hno2 : k = 0 → Cm.letB (s[k]'hlt) = false → q = false := by
        rintro rfl h
        rw [← unhide HQ, ← Bool.not_eq_true]
        intro h2
        have := name_head h2
        rw [getD_zero s hlt, h] at this; cases this
      have hz2 : Cm.letB (s[k]'hlt) = true → Cm.letB (s.data.toList.getD 0 0) = true := by
        intro h
        rcases hz with rfl | hz
        · rw [getD_zero s hlt, h]
        · exact hz
      have hl : ∀ c, (s[k]'hlt).toNat = c → Cm.letB (s[k]'hlt) = (decide (97 ≤ c) && decide (c ≤ 122)) := fun c hc => by unfold Cm.letB; rw [hc]
      have hi : ∀ c, (s[k]'hlt).toNat = c → Cm.inB (s[k]'hlt) = ((decide (97 ≤ c) && decide (c ≤ 122)) || (decide (48 ≤ c) && decide (c ≤ 57)) || decide (c = 95)) := fun c hc => by unfold Cm.inB; rw [hl c hc, hc]
      obtain ⟨c, hc⟩ : ∃ c, (s[k]'hlt).toNat = c := ⟨_, rfl⟩
      rw [hl c hc] at hno2 hz2
      rw [hi c hc] at hno hsn
      clear hl hi hm hp
      by_cases hletter : 97 ≤ c ∧ c ≤ 122
      · have d1 : decide (97 ≤ (c : Int)) = true := decide_eq_true (by omega)
        have d2 : decide ((c : Int) ≤ 122) = true := decide_eq_true (by omega)
        have d3 : decide (48 ≤ (c : Int)) = true := decide_eq_true (by omega)
        have d4 : decide ((c : Int) ≤ 57) = false := decide_eq_false (by omega)
        have d5 : ((c : Int) == 95) = false := beq_eq_false_iff_ne.2 (by omega)
        have R1 : (s.data.toList.take (k + 1)).all Cm.inB = true := by rw [hsn, decide_eq_true hletter.1, decide_eq_true hletter.2]; rfl
        have R2 := hz2 (by rw [decide_eq_true hletter.1, decide_eq_true hletter.2]; rfl)
        clear hno hno2 hz2 hsn hz hletter
        go_wp2
        go_round
        case rel => exact ⟨k + 1, by omega, by go_num, R1, .inr R2⟩
        case measure => simp [intOf]; omega
      · have hl0 : (decide (97 ≤ c) && decide (c ≤ 122)) = false := by simpa using hletter
        rw [hl0] at hno hno2 hz2 hsn
        by_cases hoth : (48 ≤ c ∧ c ≤ 57) ∨ c = 95
        · have d1 : decide (97 ≤ (c : Int)) = false := decide_eq_false (by omega)
          have d3 : decide (48 ≤ (c : Int)) = true := decide_eq_true (by omega)
          have d6 : (decide ((c : Int) ≤ 57) || ((c : Int) == 95)) = true := by simp; omega
          have hin : (false || (decide (48 ≤ c) && decide (c ≤ 57)) || decide (c = 95)) = true := by simp; omega
          rw [hin] at hsn
          by_cases h0 : k = 0
          · have hq := hide (hno2 h0 rfl)
            subst h0
            rcases hoth with ⟨o1, o2⟩ | rfl
            · have d4 : decide ((c : Int) ≤ 57) = true := decide_eq_true (by omega)
              clear hno hno2 hz2 hsn hz hletter hl0 hin o1 o2 d6
              go_wp2
              go_ret
              exact ⟨ret_bool (unhide hq).symm, rfl⟩
            · clear hno hno2 hz2 hsn hz hletter hl0 hin d1 d3 d6
              go_wp2
              go_ret
              exact ⟨ret_bool (unhide hq).symm, rfl⟩
          · have R2 := hz.resolve_left h0
            have dk : ((k : Int) == 0) = false := beq_eq_false_iff_ne.2 (by omega)
            rcases hoth with ⟨o1, o2⟩ | rfl
            · have d4 : decide ((c : Int) ≤ 57) = true := decide_eq_true (by omega)
              clear hno hno2 hz2 hz hletter hl0 hin o1 o2 d6
              go_wp2
              go_round
              case rel => exact ⟨k + 1, by omega, by go_num, hsn, .inr R2⟩
              case measure => simp [intOf]; omega
            · clear hno hno2 hz2 hz hletter hl0 hin d1 d3 d6
              go_wp2
              go_round
              case rel => exact ⟨k + 1, by omega, by go_num, hsn, .inr R2⟩
              case measure => simp [intOf]; omega
        · have hin : (false || (decide (48 ≤ c) && decide (c ≤ 57)) || decide (c = 95)) = false := by simp; omega
          have hq := hide (hno hin)
          have d5 : ((c : Int) == 95) = false := beq_eq_false_iff_ne.2 (by omega)
          clear hno hno2 hz2 hsn hz hin hl0
          rcases (show c < 48 ∨ (57 < c ∧ c < 97) ∨ 122 < c by omega) with g | g | g
          · have d1 : decide (97 ≤ (c : Int)) = false := decide_eq_false (by omega)
            have d3 : decide (48 ≤ (c : Int)) = false := decide_eq_false (by omega)
            clear hletter hoth g
            go_wp2
            go_ret
            exact ⟨ret_bool (unhide hq).symm, rfl⟩
          · have d1 : decide (97 ≤ (c : Int)) = false := decide_eq_false (by omega)
            have d3 : decide (48 ≤ (c : Int)) = true := decide_eq_true (by omega)
            have d4 : decide ((c : Int) ≤ 57) = false := decide_eq_false (by omega)
            clear hletter hoth g
            go_wp2
            go_ret
            exact ⟨ret_bool (unhide hq).symm, rfl⟩
          · have d1 : decide (97 ≤ (c : Int)) = true := decide_eq_true (by omega)
            have d2 : decide ((c : Int) ≤ 122) = false := decide_eq_false (by omega)
            have d3 : decide (48 ≤ (c : Int)) = true := decide_eq_true (by omega)
            have d4 : decide ((c : Int) ≤ 57) = false := decide_eq_false (by omega)
            clear hletter hoth g
            go_wp2
            go_ret
            exact ⟨ret_bool (unhide hq).symm, rfl⟩
    · have hkk : k = s.size := by omega
      have hfin : q = (decide (1 ≤ s.size) && decide (s.size ≤ 24)) := by
        rw [← unhide HQ]
        unfold Cm.nameB
        rw [hkk, List.take_of_length_le (by rw [Array.length_toList]; exact Nat.le_refl _)] at hp
        rw [hp, Bool.and_true, Array.length_toList]
        rcases hz with h0 | hz
        · have : s.data.size = 0 := by show s.size = 0; omega
          rw [this]; show _ = (decide (1 ≤ s.size) && _); rw [show s.size = 0 by omega]; rfl
        · rw [hz, Bool.and_true]; rfl
      have HF := hide hfin
      clear hfin hp hz
      by_cases h1 : 1 ≤ s.size
      · have d1 : decide (1 ≤ (s.size : Int)) = true := decide_eq_true (by omega)
        clear hkk
        go_wp2
        go_ret
        exact ⟨ret_bool (by rw [unhide HF, decide_eq_true h1]; simp; omega), rfl⟩
      · have d1 : decide (1 ≤ (s.size : Int)) = false := decide_eq_false (by omega)
        go_wp2
        go_ret
        exact ⟨ret_bool (by rw [unhide HF, decide_eq_false h1]; simp), rfl⟩
end Go.Proofs.YtppkknmgdahniabDoor.Nc
