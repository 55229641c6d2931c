/- What is proved here: what isLetter, isInName, bitAt, Within of package cats do, and MayName, Within, short beside it, walked; conditions: as each theorem states. What is proved here: rows of texts that lie in the world; what bitsOf, place do with such a row, walked; conditions: as each theorem states. What is proved here: what May of package cats does with a row of texts that lies, walked; conditions: as each theorem states. What is proved here: what the document's own May does with a row of texts that lies, walked; conditions: as each theorem states. What is proved here: what Go's library does where a text is cut at its first blank, walked; its Builder, by the library's contracts; conditions: as each theorem states. -/
import Derived.Test.YtnagecbepidfiaaGreatDoorRows
import Derived.WalkKit
import Derived.WalkSpells
import Derived.WalkLawsBesides
import Derived.BigCall
import Derived.Laws.BitsAllLaws
import Derived.Test.YtnagecbepidfiaaGreatDoorZAb
import Derived.Maps.OwnOps
import Derived.Maps.OwnSet
import Derived.Deep.RegionHeld3
import Derived.Deep.DrawnRows
import Derived.Maps.RangeWalk
import Derived.Sort.KeysCollected
import Derived.Shelf.Strings.BuilderF
import Derived.Shelf.Strings.BuilderK
import Derived.Below
import Derived.Lib.Strings
import Derived.Lib.Bytealg
import Derived.Lib.IndexLaws
import Derived.Deep.QuietTactic
import Derived.BigQuiet
import Derived.Test.YtnagecbepidfiaaGreatDoorProg
namespace Go.Proofs.YtnagecbepidfiaaGreatDoor.Nc
set_option maxRecDepth 100000
open Go.RowKit
set_option linter.unusedVariables false
set_option linter.unusedSimpArgs false

theorem hide {p : Prop} (h : p) : Hid p := h
theorem unhide {p : Prop} (h : Hid p) : p := h
theorem ret_bool {a b : Bool} (h : a = b) : Ending.returned (.bool a) = .returned (.bool b) := by rw [h]
theorem ret_i64 {a b : Int} (h : a = b) : Ending.returned (.int .i64 a) = .returned (.int .i64 b) := by rw [h]
theorem isLetter_any (c : UInt8) (w : World) : Calls Tryz.prog 112 #[.int .u8 (c.toNat : Int)] w fun e w' => e = .returned (.bool (Cm.letB c)) ∧ w' = w := by
  unfold Cm.letB
  by_cases h1 : 97 ≤ c.toNat
  · go_enter Tryz.func112, Tryz.ntmps112
    go_wp2
    go_ret
    exact ⟨ret_bool (by simp [h1]; omega), rfl⟩
  · rw [decide_eq_false h1]
    go_enter Tryz.func112, Tryz.ntmps112
    go_wp2
    go_ret
    exact ⟨rfl, rfl⟩

theorem isInName_any (c : UInt8) (w : World) : Calls Tryz.prog 113 #[.int .u8 (c.toNat : Int)] w fun e w' => e = .returned (.bool (Cm.inB c)) ∧ w' = w := by
  have C : ∀ b, Cm.letB c = b → ∀ W, Calls Tryz.prog 112 #[.int .u8 (c.toNat : Int)] W fun e w' => e = .returned (.bool b) ∧ w' = W := fun b h W => h ▸ isLetter_any c W
  unfold Cm.inB
  cases hb : Cm.letB c
  · replace C := C _ hb
    clear hb
    by_cases h1 : 48 ≤ c.toNat
    · by_cases h2 : c.toNat ≤ 57
      · have d3 : ((c.toNat : Int) == 95) = false := beq_eq_false_iff_ne.2 (by omega)
        go_enter Tryz.func113, Tryz.ntmps113
        go_wp2_with (go_at_call 112; refine (C _).mono ?_; rintro e w ⟨rfl, rfl⟩)
        go_ret
        exact ⟨ret_bool (by simp [h1, h2]), rfl⟩
      · obtain ⟨q, hq⟩ : ∃ q, decide (c.toNat = 95) = q := ⟨_, rfl⟩
        have d3 : ((c.toNat : Int) == 95) = q := by rw [← hq, Bool.eq_iff_iff]; simp; omega
        rw [hq]
        clear hq
        go_enter Tryz.func113, Tryz.ntmps113
        go_wp2_with (go_at_call 112; refine (C _).mono ?_; rintro e w ⟨rfl, rfl⟩)
        go_ret
        exact ⟨ret_bool (by have h3 : ¬ ((c.toNat : Int) ≤ 57) := (by omega); simp [h1, h2, h3]), rfl⟩
    · obtain ⟨q, hq⟩ : ∃ q, decide (c.toNat = 95) = q := ⟨_, rfl⟩
      have d3 : ((c.toNat : Int) == 95) = q := by rw [← hq, Bool.eq_iff_iff]; simp; omega
      rw [hq]
      clear hq
      go_enter Tryz.func113, Tryz.ntmps113
      go_wp2_with (go_at_call 112; refine (C _).mono ?_; rintro e w ⟨rfl, rfl⟩)
      go_ret
      exact ⟨ret_bool (by simp [h1]), rfl⟩
  · replace C := C _ hb
    clear hb
    go_enter Tryz.func113, Tryz.ntmps113
    go_wp2_with (go_at_call 112; refine (C _).mono ?_; rintro e w ⟨rfl, rfl⟩)
    go_ret
    exact ⟨rfl, rfl⟩

theorem wrap_u64 (x : Int) : IntKind.u64.wrap x = x % 18446744073709551616 := by
  unfold IntKind.wrap
  simp [IntKind.signed, IntKind.bits]
theorem bit_wrap (i : Nat) : IntKind.u64.wrap (2 ^ min i 64) = (Cm.bitN i : Int) := by
  rw [wrap_u64]
  unfold Cm.bitN
  by_cases h : i < 64
  · rw [if_pos h, Nat.min_eq_left (by omega)]
    have h1 : 2 ^ i < 2 ^ 64 := Nat.pow_lt_pow_right (by decide) h
    have h2 : ((2 : Int) ^ i) = ((2 ^ i : Nat) : Int) := by push_cast; rfl
    rw [h2]
    generalize 2 ^ i = q at h1
    omega
  · rw [if_neg h, Nat.min_eq_right (by omega)]
    decide
theorem bitAt_any (i : Nat) (w : World) : Calls Tryz.prog 83 #[.int .i64 (i : Int)] w fun e w' => e = .returned (.int .u64 (Cm.bitN i : Int)) ∧ w' = w := by
  have hb := bit_wrap i
  go_enter Tryz.func83, Tryz.ntmps83
  go_wp2
  go_ret
  exact ⟨rfl, rfl⟩

theorem within_bits {a b : Nat} (ha : a < 18446744073709551616) (hb : b < 18446744073709551616) : (bits BinOp.andNot IntKind.u64 (a : Int) (b : Int) == 0) = Cm.subB a b := by
  rw [u64_andNot_nat a b ha hb, Bool.eq_iff_iff, Cm.subB_iff ha hb]
  simp only [beq_iff_eq]
  omega
theorem within_any (a b : Nat) (ha : a < 18446744073709551616) (hb : b < 18446744073709551616) (w : World) : Calls Tryz.prog 80 #[.int .u64 (a : Int), .int .u64 (b : Int)] w fun e w' => e = .returned (.bool (Cm.subB a b)) ∧ w' = w := by
  have h := within_bits ha hb
  go_enter Tryz.func80, Tryz.ntmps80
  go_wp2
  go_ret
  exact ⟨rfl, rfl⟩
theorem rwithin_any (a b : Nat) (ha : a < 18446744073709551616) (hb : b < 18446744073709551616) (w : World) : Calls Tryz.prog 39 #[.int .u64 (a : Int), .int .u64 (b : Int)] w fun e w' => e = .returned (.bool (Cm.subB a b)) ∧ w' = w := by
  have h := within_bits ha hb
  go_enter Tryz.func39, Tryz.ntmps39
  go_wp2
  go_ret
  exact ⟨rfl, rfl⟩

theorem empty_yes {s : ByteArray} (h : s.size = 0) : s.toList.isEmpty = true := by
  rw [ByteArray.toList_eq, List.isEmpty_iff]
  exact List.eq_nil_of_length_eq_zero h
theorem empty_no {s : ByteArray} (h : s.size ≠ 0) : s.toList.isEmpty = false := by
  rw [ByteArray.toList_eq]
  cases e : s.data.toList with
  | nil => exact absurd (congrArg List.length e) h
  | cons => rfl

theorem mayName_any (s : ByteArray) (w : World) (hs : s.size ≤ 9223372036854775807) : Calls Tryz.prog 78 #[.string s] w fun e w' => e = .returned (.bool (Cm.nameB s.data.toList)) ∧ w' = w := by
  by_cases h0 : s.size = 0
  · have hz := empty_yes h0
    have hn : Cm.nameB s.data.toList = false := by
      have : s.data.toList = [] := List.eq_nil_of_length_eq_zero h0
      rw [this]; rfl
    rw [hn]
    clear h0
    go_enter Tryz.func78, Tryz.ntmps78
    go_wp2
    go_ret
    exact ⟨rfl, rfl⟩
  · have hz := empty_no h0
    have h0' : (0 : Int) < (s.size : Int) := by omega
    by_cases h24 : s.size ≤ 24
    · have d24 : decide (24 < (s.size : Int)) = false := decide_eq_false (by omega)
      have hg : s.data.toList.getD 0 0 = s[0]'(by omega) := by
        have hl : 0 < s.data.toList.length := by rw [Array.length_toList]; exact Nat.pos_of_ne_zero h0
        rw [List.getD, List.getElem?_eq_getElem hl]; rfl
      have hn : Cm.nameB s.data.toList = (Cm.letB (s[0]'(by omega)) && s.data.toList.all Cm.inB) := by
        unfold Cm.nameB
        rw [hg, Array.length_toList, decide_eq_true (show 1 ≤ s.data.size from Nat.pos_of_ne_zero h0), decide_eq_true (show s.data.size ≤ 24 from h24)]
        rfl
      obtain ⟨q, hq⟩ : ∃ q, s.data.toList.all Cm.inB = q := ⟨_, rfl⟩
      rw [hn, hq]
      have HQ := hide hq
      clear hq
      cases hl : Cm.letB (s[0]'(by omega))
      · have C : ∀ W, Calls Tryz.prog 112 #[.int .u8 ((s[0]'(by omega)).toNat : Int)] W fun e w' => e = .returned (.bool false) ∧ w' = W := fun W => hl ▸ isLetter_any _ W
        clear hl hn hg
        go_enter Tryz.func78, Tryz.ntmps78
        go_wp2_with (go_at_call 112; refine (C _).mono ?_; rintro e w ⟨rfl, rfl⟩)
        go_ret
        exact ⟨rfl, rfl⟩
      · have C : ∀ W, Calls Tryz.prog 112 #[.int .u8 ((s[0]'(by omega)).toNat : Int)] W fun e w' => e = .returned (.bool true) ∧ w' = W := fun W => hl ▸ isLetter_any _ W
        clear hl hn hg
        go_enter Tryz.func78, Tryz.ntmps78
        go_wp2_with (go_at_call 112; refine (C _).mono ?_; rintro e w ⟨rfl, rfl⟩)
        clear C
        go_loop [19] (fun i => ∃ k : Nat, k ≤ s.size ∧ i = .int .i64 (k : Int) ∧ (s.data.toList.take k).all Cm.inB = true) (fun i => s.size - (intOf i).toNat)
        case atStart => exact ⟨0, by omega, rfl, rfl⟩
        case round =>
          obtain ⟨k, hk, rfl, hp⟩ := hrel
          by_cases hlt : k < s.size
          · have hts : s.data.toList.take (k + 1) = s.data.toList.take k ++ [s[k]'hlt] := by
              rw [List.take_succ_eq_append_getElem (by rw [Array.length_toList]; exact hlt)]; rfl
            cases hi : Cm.inB (s[k]'hlt)
            · have C : ∀ W, Calls Tryz.prog 113 #[.int .u8 ((s[k]'hlt).toNat : Int)] W fun e w' => e = .returned (.bool false) ∧ w' = W := fun W => hi ▸ isInName_any _ W
              have hall : s.data.toList.all Cm.inB = false := by
                rw [List.all_eq_false]
                exact ⟨s[k]'hlt, by rw [ByteArray.getElem_eq_getElem_data, ← Array.getElem_toList]; exact List.getElem_mem _, by rw [hi]; simp⟩
              have HL := hide ((unhide HQ).symm.trans hall)
              clear hts hi hp hall
              go_wp2_with (go_at_call 113; refine (C _).mono ?_; rintro e w ⟨rfl, rfl⟩)
              go_ret
              exact ⟨ret_bool (unhide HL).symm, rfl⟩
            · have C : ∀ W, Calls Tryz.prog 113 #[.int .u8 ((s[k]'hlt).toNat : Int)] W fun e w' => e = .returned (.bool true) ∧ w' = W := fun W => hi ▸ isInName_any _ W
              have hp2 : (s.data.toList.take (k + 1)).all Cm.inB = true := by rw [hts, List.all_append, hp]; simp [hi]
              clear hts hi hp
              go_wp2_with (go_at_call 113; refine (C _).mono ?_; rintro e w ⟨rfl, rfl⟩)
              go_round
              case rel => exact ⟨k + 1, by omega, by go_num, hp2⟩
              case measure => simp [intOf]; omega
          · have hall : s.data.toList.all Cm.inB = true := by rwa [List.take_of_length_le (by rw [Array.length_toList]; show s.size ≤ k; omega)] at hp
            have HL := hide ((unhide HQ).symm.trans hall)
            clear hall hp
            go_wp2
            go_ret
            exact ⟨ret_bool (unhide HL).symm, rfl⟩
    · have d24 : decide (24 < (s.size : Int)) = true := decide_eq_true (by omega)
      have hn : Cm.nameB s.data.toList = false := by
        unfold Cm.nameB
        rw [Array.length_toList, decide_eq_false (show ¬ s.data.size ≤ 24 from h24)]
        simp
      rw [hn]
      go_enter Tryz.func78, Tryz.ntmps78
      go_wp2
      go_ret
      exact ⟨rfl, rfl⟩

theorem all_snoc (s : ByteArray) (k : Nat) (h : k < s.size) (p : UInt8 → Bool) : (s.data.toList.take (k + 1)).all p = ((s.data.toList.take k).all p && p (s[k]'h)) := by
  have hts : s.data.toList.take (k + 1) = s.data.toList.take k ++ [s[k]'h] := by
    rw [List.take_succ_eq_append_getElem (by rw [Array.length_toList]; exact h)]; rfl
  rw [hts, List.all_append]
  simp
theorem at_mem (s : ByteArray) (k : Nat) (h : k < s.size) : s[k]'h ∈ s.data.toList := by rw [ByteArray.getElem_eq_getElem_data, ← Array.getElem_toList]; exact List.getElem_mem _
theorem getD_zero (s : ByteArray) (h : 0 < s.size) : s.data.toList.getD 0 0 = s[0]'h := by
  have hl : 0 < s.data.toList.length := by rw [Array.length_toList]; exact h
  rw [List.getD, List.getElem?_eq_getElem hl]; rfl
theorem name_in {l : Cm.Tx} (h : Cm.nameB l = true) : l.all Cm.inB = true := by
  unfold Cm.nameB at h
  simp only [Bool.and_eq_true] at h
  exact h.2
theorem name_head {l : Cm.Tx} (h : Cm.nameB l = true) : Cm.letB (l.getD 0 0) = true := by
  unfold Cm.nameB at h
  simp only [Bool.and_eq_true] at h
  exact h.1.2
set_option maxHeartbeats 1000000 in
theorem rmayName_any (s : ByteArray) (w : World) (hs : s.size ≤ 9223372036854775807) : Calls Tryz.prog 72 #[.string s] w fun e w' => e = .returned (.bool (Cm.nameB s.data.toList)) ∧ w' = w := by
  obtain ⟨q, hq⟩ : ∃ q, Cm.nameB s.data.toList = q := ⟨_, rfl⟩
  rw [hq]
  have HQ := hide hq
  clear hq
  go_enter Tryz.func72, Tryz.ntmps72
  go_wp2
  go_loop [3] (fun i => ∃ k : Nat, k ≤ s.size ∧ i = .int .i64 (k : Int) ∧ (s.data.toList.take k).all Cm.inB = true ∧ (k = 0 ∨ Cm.letB (s.data.toList.getD 0 0) = true)) (fun i => s.size - (intOf i).toNat)
  case atStart => exact ⟨0, by omega, rfl, rfl, .inl rfl⟩
  case round =>
    obtain ⟨k, hk, rfl, hp, hz⟩ := hrel
    by_cases hlt : k < s.size
    · have hsn := all_snoc s k hlt Cm.inB
      rw [hp, Bool.true_and] at hsn
      have hm := at_mem s k hlt
      have hno : Cm.inB (s[k]'hlt) = false → q = false := by
        intro h
        rw [← unhide HQ, ← Bool.not_eq_true]
        intro h2
        have := List.all_eq_true.1 (name_in h2) _ hm
        rw [h] at this; cases this
      have hno2 : k = 0 → Cm.letB (s[k]'hlt) = false → q = false := by
        rintro rfl h
        rw [← unhide HQ, ← Bool.not_eq_true]
        intro h2
        have := name_head h2
        rw [getD_zero s hlt, h] at this; cases this
      have hz2 : Cm.letB (s[k]'hlt) = true → Cm.letB (s.data.toList.getD 0 0) = true := by
        intro h
        rcases hz with rfl | hz
        · rw [getD_zero s hlt, h]
        · exact hz
      have hl : ∀ c, (s[k]'hlt).toNat = c → Cm.letB (s[k]'hlt) = (decide (97 ≤ c) && decide (c ≤ 122)) := fun c hc => by unfold Cm.letB; rw [hc]
      have hi : ∀ c, (s[k]'hlt).toNat = c → Cm.inB (s[k]'hlt) = ((decide (97 ≤ c) && decide (c ≤ 122)) || (decide (48 ≤ c) && decide (c ≤ 57)) || decide (c = 95)) := fun c hc => by unfold Cm.inB; rw [hl c hc, hc]
      obtain ⟨c, hc⟩ : ∃ c, (s[k]'hlt).toNat = c := ⟨_, rfl⟩
      rw [hl c hc] at hno2 hz2
      rw [hi c hc] at hno hsn
      clear hl hi hm hp
      by_cases hletter : 97 ≤ c ∧ c ≤ 122
      · have d1 : decide (97 ≤ (c : Int)) = true := decide_eq_true (by omega)
        have d2 : decide ((c : Int) ≤ 122) = true := decide_eq_true (by omega)
        have d3 : decide (48 ≤ (c : Int)) = true := decide_eq_true (by omega)
        have d4 : decide ((c : Int) ≤ 57) = false := decide_eq_false (by omega)
        have d5 : ((c : Int) == 95) = false := beq_eq_false_iff_ne.2 (by omega)
        have R1 : (s.data.toList.take (k + 1)).all Cm.inB = true := by rw [hsn, decide_eq_true hletter.1, decide_eq_true hletter.2]; rfl
        have R2 := hz2 (by rw [decide_eq_true hletter.1, decide_eq_true hletter.2]; rfl)
        clear hno hno2 hz2 hsn hz hletter
        go_wp2
        go_round
        case rel => exact ⟨k + 1, by omega, by go_num, R1, .inr R2⟩
        case measure => simp [intOf]; omega
      · have hl0 : (decide (97 ≤ c) && decide (c ≤ 122)) = false := by simpa using hletter
        rw [hl0] at hno hno2 hz2 hsn
        by_cases hoth : (48 ≤ c ∧ c ≤ 57) ∨ c = 95
        · have d1 : decide (97 ≤ (c : Int)) = false := decide_eq_false (by omega)
          have d3 : decide (48 ≤ (c : Int)) = true := decide_eq_true (by omega)
          have d6 : (decide ((c : Int) ≤ 57) || ((c : Int) == 95)) = true := by simp; omega
          have hin : (false || (decide (48 ≤ c) && decide (c ≤ 57)) || decide (c = 95)) = true := by simp; omega
          rw [hin] at hsn
          by_cases h0 : k = 0
          · have hq := hide (hno2 h0 rfl)
            subst h0
            rcases hoth with ⟨o1, o2⟩ | rfl
            · have d4 : decide ((c : Int) ≤ 57) = true := decide_eq_true (by omega)
              clear hno hno2 hz2 hsn hz hletter hl0 hin o1 o2 d6
              go_wp2
              go_ret
              exact ⟨ret_bool (unhide hq).symm, rfl⟩
            · clear hno hno2 hz2 hsn hz hletter hl0 hin d1 d3 d6
              go_wp2
              go_ret
              exact ⟨ret_bool (unhide hq).symm, rfl⟩
          · have R2 := hz.resolve_left h0
            have dk : ((k : Int) == 0) = false := beq_eq_false_iff_ne.2 (by omega)
            rcases hoth with ⟨o1, o2⟩ | rfl
            · have d4 : decide ((c : Int) ≤ 57) = true := decide_eq_true (by omega)
              clear hno hno2 hz2 hz hletter hl0 hin o1 o2 d6
              go_wp2
              go_round
              case rel => exact ⟨k + 1, by omega, by go_num, hsn, .inr R2⟩
              case measure => simp [intOf]; omega
            · clear hno hno2 hz2 hz hletter hl0 hin d1 d3 d6
              go_wp2
              go_round
              case rel => exact ⟨k + 1, by omega, by go_num, hsn, .inr R2⟩
              case measure => simp [intOf]; omega
        · have hin : (false || (decide (48 ≤ c) && decide (c ≤ 57)) || decide (c = 95)) = false := by simp; omega
          have hq := hide (hno hin)
          have d5 : ((c : Int) == 95) = false := beq_eq_false_iff_ne.2 (by omega)
          clear hno hno2 hz2 hsn hz hin hl0
          rcases (show c < 48 ∨ (57 < c ∧ c < 97) ∨ 122 < c by omega) with g | g | g
          · have d1 : decide (97 ≤ (c : Int)) = false := decide_eq_false (by omega)
            have d3 : decide (48 ≤ (c : Int)) = false := decide_eq_false (by omega)
            clear hletter hoth g
            go_wp2
            go_ret
            exact ⟨ret_bool (unhide hq).symm, rfl⟩
          · have d1 : decide (97 ≤ (c : Int)) = false := decide_eq_false (by omega)
            have d3 : decide (48 ≤ (c : Int)) = true := decide_eq_true (by omega)
            have d4 : decide ((c : Int) ≤ 57) = false := decide_eq_false (by omega)
            clear hletter hoth g
            go_wp2
            go_ret
            exact ⟨ret_bool (unhide hq).symm, rfl⟩
          · have d1 : decide (97 ≤ (c : Int)) = true := decide_eq_true (by omega)
            have d2 : decide ((c : Int) ≤ 122) = false := decide_eq_false (by omega)
            have d3 : decide (48 ≤ (c : Int)) = true := decide_eq_true (by omega)
            have d4 : decide ((c : Int) ≤ 57) = false := decide_eq_false (by omega)
            clear hletter hoth g
            go_wp2
            go_ret
            exact ⟨ret_bool (unhide hq).symm, rfl⟩
    · have hkk : k = s.size := by omega
      have hfin : q = (decide (1 ≤ s.size) && decide (s.size ≤ 24)) := by
        rw [← unhide HQ]
        unfold Cm.nameB
        rw [hkk, List.take_of_length_le (by rw [Array.length_toList]; exact Nat.le_refl _)] at hp
        rw [hp, Bool.and_true, Array.length_toList]
        rcases hz with h0 | hz
        · have : s.data.size = 0 := by show s.size = 0; omega
          rw [this]; show _ = (decide (1 ≤ s.size) && _); rw [show s.size = 0 by omega]; rfl
        · rw [hz, Bool.and_true]; rfl
      have HF := hide hfin
      clear hfin hp hz
      by_cases h1 : 1 ≤ s.size
      · have d1 : decide (1 ≤ (s.size : Int)) = true := decide_eq_true (by omega)
        clear hkk
        go_wp2
        go_ret
        exact ⟨ret_bool (by rw [unhide HF, decide_eq_true h1]; simp; omega), rfl⟩
      · have d1 : decide (1 ≤ (s.size : Int)) = false := decide_eq_false (by omega)
        go_wp2
        go_ret
        exact ⟨ret_bool (by rw [unhide HF, decide_eq_false h1]; simp), rfl⟩
end Go.Proofs.YtnagecbepidfiaaGreatDoor.Nc

namespace Go.Proofs.YtnagecbepidfiaaGreatDoor.Nc
set_option maxRecDepth 100000
open Go.RowKit Go.Maps
set_option linter.unusedVariables false
set_option linter.unusedSimpArgs false

/-- A row of texts that lies in block g. -/
def RowAt (w : World) (g : Nat) (L : List Cm.Tx) : Prop := g < w.heap.size ∧ ∀ i, ∀ h : i < L.length, w.cell? ⟨g, i, none⟩ = some (.string ⟨(L[i]'h).toArray⟩)
theorem RowAt.step {w w' : World} {g : Nat} {L : List Cm.Tx} (h : RowAt w g L) (hb : Below w.heap.size w w') : RowAt w' g L :=
  ⟨Nat.lt_of_lt_of_le h.1 hb.size, fun i hi => (hb.cell (p := ⟨g, i, none⟩) h.1).trans (h.2 i hi)⟩
theorem txt (l : Cm.Tx) : ∃ s : ByteArray, (⟨l.toArray⟩ : ByteArray) = s ∧ s.data.toList = l ∧ s.size = l.length := ⟨⟨l.toArray⟩, rfl, rfl, rfl⟩

theorem law : Keyed Tryz.prog 9 := string_keyed Tryz.underlying9
theorem zero_u64 (w : World) : (zeroValue 37).run Tryz.prog w = .ok (.int .u64 0) w := by kernel_rfl

/-- The place of a name as a number; -1: there is none. -/
def plc (L : List Cm.Tx) (x : Cm.Tx) : Int := match Cm.idx L x with | some k => (k : Int) | none => -1
theorem plc_hit {L : List Cm.Tx} {x : Cm.Tx} {k : Nat} (h : k < L.length) (hk : L[k]'h = x) (hno : ∀ j, ∀ hj : j < L.length, j < k → L[j]'hj ≠ x) : plc L x = (k : Int) := by
  have : Cm.idx L x = some k := by
    unfold Cm.idx
    rw [List.findIdx?_eq_some_iff_getElem]
    exact ⟨h, by rw [hk]; exact beq_self_eq_true x, fun j hj => by simpa using hno j (by omega) hj⟩
  unfold plc
  rw [this]
theorem plc_miss {L : List Cm.Tx} {x : Cm.Tx} (hno : ∀ j, ∀ hj : j < L.length, L[j]'hj ≠ x) : plc L x = -1 := by
  have : Cm.idx L x = none := by
    unfold Cm.idx
    rw [List.findIdx?_eq_none_iff]
    intro y hy
    obtain ⟨j, hj, rfl⟩ := List.getElem_of_mem hy
    simpa using hno j hj
  unfold plc
  rw [this]
theorem list_eq (x y : ByteArray) : (x.toList == y.toList) = decide (x.data.toList = y.data.toList) := by
  rw [ByteArray.toList_eq, ByteArray.toList_eq, Bool.eq_iff_iff]
  simp

set_option maxRecDepth 100000 in
theorem place_any (g n c : Nat) (L : List Cm.Tx) (hn : L.length = n) (hn2 : n ≤ 1000000) (s : ByteArray) (r : Int) (hr0 : plc L s.data.toList = r) (w : World) (hr : RowAt w g L) :
    Calls Tryz.prog 73 #[.slice (some ⟨g, 0, none⟩) n c, .string s] w fun e w' => e = .returned (.int .i64 r) ∧ w' = w := by
  have HR := hide hr0
  clear hr0
  go_enter Tryz.func73, Tryz.ntmps73
  go_wp2
  go_loop [5] (fun i => ∃ k : Nat, k ≤ n ∧ i = .int .i64 (k : Int) ∧ ∀ j, ∀ hj : j < L.length, j < k → L[j]'hj ≠ s.data.toList) (fun i => n - (intOf i).toNat)
  case atStart => exact ⟨0, by omega, rfl, fun j _ h => absurd h (by omega)⟩
  case round =>
    obtain ⟨k, hk, rfl, hno⟩ := hrel
    by_cases hlt : k < n
    · obtain ⟨x, hx, hx2, hx3⟩ := txt (L[k]'(by omega))
      have hc := hr.2 k (by omega)
      rw [hx] at hc
      have he := list_eq x s
      rw [hx2] at he
      by_cases hxs : L[k]'(by omega) = s.data.toList
      · have hp := plc_hit (by omega) hxs hno
        have HP := hide ((unhide HR).symm.trans hp)
        rw [decide_eq_true hxs] at he
        clear hxs hp hno hx2 hx3 hx
        go_wp2
        go_ret
        exact ⟨ret_i64 (unhide HP).symm, rfl⟩
      · have hno2 : ∀ j, ∀ hj : j < L.length, j < k + 1 → L[j]'hj ≠ s.data.toList := fun j hj h => by
          by_cases e : j = k
          · subst e; exact hxs
          · exact hno j hj (by omega)
        rw [decide_eq_false hxs] at he
        clear hxs hno hx2 hx3 hx
        go_wp2
        go_round
        case rel => exact ⟨k + 1, by omega, by go_num, hno2⟩
        case measure => simp [intOf]; omega
    · have hp := plc_miss (fun j hj => hno j hj (by omega))
      have HP := hide ((unhide HR).symm.trans hp)
      clear hp hno
      go_wp2
      go_ret
      exact ⟨ret_i64 (unhide HP).symm, rfl⟩

theorem run_makeMap_hint {P : Program} {t k e : TypeId} (ht : P.underlying t = some (.map k e)) (q : IntKind) (z : Int) (w : World) : (Instr.makeMap t (some (.int q z))).run P w = .ok (.map (some w.heap.size)) (w.alloc (.map #[] 0)) := by
  simp [Instr.makeMap, run_underlying ht, asInt, newObj, Result.andThen]
  try rfl
set_option maxRecDepth 100000 in
theorem bitsOf_any (g n c : Nat) (L : List Cm.Tx) (hn : L.length = n) (hn2 : n ≤ 1000) (hl : ∀ x ∈ L, x.length ≤ 1000) (w : World) (hr : RowAt w g L) :
    Calls Tryz.prog 77 #[.slice (some ⟨g, 0, none⟩) n c] w fun e w' => e = .returned (.map (some w.heap.size)) ∧ Below w.heap.size w w' ∧
      ∃ D, w'.ownsMap Tryz.prog 9 (plainElem (H := Unit) Tryz.prog 37) w.heap.size n D ∧ Cm.BitsAt D L n := by
  have hmm := fun q z w => run_makeMap_hint (P := Tryz.prog) Tryz.underlying111 q z w
  go_enter Tryz.func77, Tryz.ntmps77
  go_wp2
  go_loopw [11] (fun i wr => ∃ k : Nat, k ≤ n ∧ i = .int .i64 (k : Int) ∧ Below w.heap.size w wr ∧ ∃ D, wr.ownsMap Tryz.prog 9 (plainElem (H := Unit) Tryz.prog 37) w.heap.size k D ∧ Cm.BitsAt D L k) (fun i _ => n - (intOf i).toNat)
  case atStart => exact ⟨0, Nat.zero_le _, rfl, (Below.refl _ _).alloc (Nat.le_refl _) _, .map [], World.ownsMap_made _ _ _ _, Cm.BitsAt.start L⟩
  case round =>
    obtain ⟨k, hk, rfl, hB, D, hown, hD⟩ := hrel
    by_cases hlt : k < n
    · obtain ⟨x, hx, hx2, hx3⟩ := txt (L[k]'(by omega))
      have hc := (hr.step hB).2 k (by omega)
      rw [hx] at hc
      have hLk : L[k]? = some x.data.toList := by rw [hx2]; exact List.getElem?_eq_getElem (by omega)
      have hxl := hl _ (List.getElem_mem (show k < L.length by omega))
      have hkey : keyOf Tryz.prog 9 (.string x) = some (.string x.data.toList) := WideMaps.keyOf_string_mk Tryz.underlying9 (by unfold maxLen; omega)
      have hownd : wr.drew.ownsMap Tryz.prog 9 (plainElem (H := Unit) Tryz.prog 37) w.heap.size k D := hown
      obtain ⟨c0, hrun, hat, _⟩ := hownd.lookup_int law Tryz.underlying111 Tryz.underlying37 (zero_u64 _) hkey
      have hc0 : c0 = (Cm.valK L k x.data.toList : Int) := by
        have := hat.symm.trans (hD.2.1 x.data.toList)
        injection this with this
        injection this
      subst hc0
      obtain ⟨V, hV⟩ : ∃ V, Cm.valK L k x.data.toList ||| Cm.bitN k = V := ⟨_, rfl⟩
      have hor : bits BinOp.or IntKind.u64 (Cm.valK L k x.data.toList : Int) (Cm.bitN k : Int) = (V : Int) := by rw [← hV]; exact u64_or_nat _ _ (Cm.valK_lt _ _ _) (Cm.bitN_lt _)
      have hVl : V < 18446744073709551616 := by rw [← hV]; exact Nat.or_lt_two_pow (n := 64) (Cm.valK_lt _ _ _) (Cm.bitN_lt _)
      have hD2 := hD.next (hown.tidy law) hLk
      rw [hV] at hD2
      obtain ⟨w2, hup, hown2, hgr⟩ := hownd.update (val := .int .u64 (V : Int)) law Tryz.underlying111 (by unfold maxLen; omega) hkey (plainElem_int Tryz.underlying37 (WalkArith.wf_u64 (by omega)))
      have hB2 : Below w.heap.size w w2 := (hB.drew).grown hgr (Below.drew hB).size (fun j hj => by cases hj; exact Nat.le_refl _)
      clear hD hat hownd hown hV hVl hxl hx hx2 hx3 hLk hkey
      generalize Cm.valK L k x.data.toList = v0 at *
      go_wp2_with fail
      go_region_held3 (fun w' => True) (trivial) (first | (go_at_call 83; refine (bitAt_any k _).mono ?_; rintro e w ⟨rfl, rfl⟩))
      all_goals
        go_wp2
        go_roundw
        case rel => exact ⟨k + 1, hlt, by go_num, hB2, _, hown2, hD2⟩
        case measure => simp [intOf]; omega
    · have : k = n := by omega
      subst this
      go_wp2
      go_ret
      exact ⟨rfl, hB, D, hown, hD⟩
end Go.Proofs.YtnagecbepidfiaaGreatDoor.Nc

namespace Go.Proofs.YtnagecbepidfiaaGreatDoor.Nc
set_option maxRecDepth 100000
open Go.RowKit Go.Maps
set_option linter.unusedVariables false
set_option linter.unusedSimpArgs false

theorem may_small {L : List Cm.Tx} (h : ¬ 64 < L.length) : Cm.mayE L = if L.all Cm.nameB && decide L.Nodup then 0 else 20 := by unfold Cm.mayE; rw [if_neg h]

set_option maxRecDepth 100000 in
set_option maxHeartbeats 1000000 in
theorem may_any (g n c : Nat) (L : List Cm.Tx) (hn : L.length = n) (hn2 : n ≤ 1000) (hl : ∀ x ∈ L, x.length ≤ 1000) (q : Nat) (hq : Cm.mayE L = q) (w : World) (hr : RowAt w g L) :
    Calls Tryz.prog 42 #[.slice (some ⟨g, 0, none⟩) n c] w fun e w' => e = .returned (.int .i64 (q : Int)) ∧ Below w.heap.size w w' := by
  by_cases h64 : 64 < n
  · have hm : Cm.mayE L = 3 := by unfold Cm.mayE; rw [if_pos (by omega)]
    have hq3 := hq.symm.trans hm
    subst hq3
    clear hq hm
    go_enter Tryz.func42, Tryz.ntmps42
    go_wp2
    go_ret
    exact ⟨rfl, Below.refl _ _⟩
  · rw [may_small (by omega)] at hq
    have C := fun W (h : RowAt W g L) => bitsOf_any g n c L hn hn2 hl W h
    have HQ := hide hq
    clear hq
    go_enter Tryz.func42, Tryz.ntmps42
    go_wp2_with fail
    refine (C _ hr).mono ?_
    rintro e w1 ⟨rfl, hB, D, hown, hD⟩
    obtain ⟨z, hz⟩ : ∃ z, size D = z := ⟨_, rfl⟩
    have hzn := hD.2.2.1
    have hzd := hD.2.2.2
    rw [hz] at hzn hzd
    rw [List.take_of_length_le (by omega)] at hzd
    by_cases hd : L.Nodup
    · have hzz := hzd.2 hd
      subst hzz
      have hlm := fun ty => hown.len Tryz.underlying111 ty
      rw [hz] at hlm
      obtain ⟨w0, hrun, hrg0, hg0, hs0⟩ := hown.range law Tryz.underlying111
      have hB0 : Below w.heap.size w w0 := hB.grown hg0 hB.size (fun j hj => by cases hj)
      obtain ⟨R, hR⟩ : ∃ R, w1.heap.size = R := ⟨_, rfl⟩
      rw [hR] at hrg0 hrun
      have hwR : w.heap.size < R := by rw [← hR]; exact hown.lt
      rw [hz] at hrg0
      clear hzn hzd hB hl hr hs0 hg0 C hR
      go_wp2_with fail
      go_loopw [4] (fun _ wr => ∃ left cnt, wr.ranges Tryz.prog 9 (plainElem (H := Unit) Tryz.prog 37) w.heap.size R z D left cnt ∧ Below w.heap.size w wr ∧ ∀ x, has D (.string x) = true → left (.string x) = false → Cm.nameB x = true) (fun _ wr => wr.rangeLeft w.heap.size R)
      case atStart => exact ⟨_, _, hrg0, hB0, fun x h1 h2 => by rw [h1] at h2; cases h2⟩
      case round =>
        obtain ⟨left, cnt, hrg, hB, hno⟩ := hrel
        rcases hrg.next law 0 with ⟨h0, hl0, hrun⟩ | ⟨key, v, kl, y, w2, cnt2, hkey, hlk, hv, hat, hrun, hrg2, hlt, hgr2, hsz2, hen⟩
        · have hall : L.all Cm.nameB = true := by
            rw [List.all_eq_true]
            intro x hx
            refine hno x ?_ (hl0 _)
            rw [hD.1 x, List.take_of_length_le (by omega)]
            exact decide_eq_true hx
          have hq := unhide HQ
          rw [hall, decide_eq_true hd] at hq
          have HQ2 := hide (show (0 : Nat) = q from hq)
          clear hq hall hl0 hno hD hrg hown HQ
          go_wp2
          go_ret
          exact ⟨by rw [← unhide HQ2]; rfl, hB⟩
        · obtain ⟨x, rfl, rfl, hxl⟩ := keyOf_str Tryz.underlying9 hkey
          obtain ⟨cv, rfl, _, _⟩ := plainElem_int_inv Tryz.underlying37 hv
          obtain ⟨s, hs, hs2, hs3⟩ := txt x
          have hB2 : Below w.heap.size w w2 := hB.grown hgr2 hB.size (fun j hj => by cases hj; omega)
          have hmem : has D (.string x) = true := has_true_of_atKey hat
          cases hnm : Cm.nameB x
          · have C : ∀ W, Calls Tryz.prog 78 #[.string s] W fun e w' => e = .returned (.bool false) ∧ w' = W := fun W => by
              have := mayName_any s W (by unfold maxLen at hxl; omega)
              rwa [hs2, hnm] at this
            have hall : L.all Cm.nameB = false := by
              rw [List.all_eq_false]
              refine ⟨x, ?_, by rw [hnm]; simp⟩
              have := hD.1 x
              rw [hmem] at this
              exact List.mem_of_mem_take (of_decide_eq_true this.symm)
            have hq := unhide HQ
            rw [hall] at hq
            have HQ2 := hide (show (20 : Nat) = q from hq)
            rw [show encStr x = Value.string s from congrArg Value.string hs] at hrun hen
            clear hq hall hno hD hrg hown HQ hrg2 hgr2 hsz2 hat hv hkey hs hs2 hs3 hxl hnm hmem hlk
            go_wp2_with (go_at_call 78; refine (C _).mono ?_; rintro e w ⟨rfl, rfl⟩)
            go_ret
            exact ⟨by rw [← unhide HQ2]; rfl, hB2⟩
          · have C : ∀ W, Calls Tryz.prog 78 #[.string s] W fun e w' => e = .returned (.bool true) ∧ w' = W := fun W => by
              have := mayName_any s W (by unfold maxLen at hxl; omega)
              rwa [hs2, hnm] at this
            have hno2 : ∀ y, has D (.string y) = true → (fun z => left z && !z.sameKey (.string x)) (.string y) = false → Cm.nameB y = true := by
              intro y h1 h2
              cases hly : left (.string y)
              · exact hno y h1 hly
              · have : Lit.sameKey (.string y) (.string x) = true := by simpa [hly] using h2
                have e := WideAt.sameKey_eq this
                injection e with e
                rw [e]; exact hnm
            have hmes : w2.rangeLeft w.heap.size R < wr.rangeLeft w.heap.size R := by rw [hrg2.left_eq, hrg.left_eq]; exact hlt
            rw [show encStr x = Value.string s from congrArg Value.string hs] at hrun hen
            clear hno hrg hown hgr2 hsz2 hat hv hkey hs hs2 hs3 hxl hnm hmem hlk
            go_wp2_with (go_at_call 78; refine (C _).mono ?_; rintro e w ⟨rfl, rfl⟩)
            go_roundw
            case rel => exact ⟨_, _, hrg2, hB2, hno2⟩
            case measure => exact hmes
    · have hzlt : z < n := by
        have : z ≠ n := fun e => hd (hzd.1 e)
        omega
      have hq := unhide HQ
      rw [decide_eq_false hd, Bool.and_false] at hq
      have HQ2 := hide (show (20 : Nat) = q from hq)
      have hlm := fun ty => hown.len Tryz.underlying111 ty
      rw [hz] at hlm
      have d1 : decide ((z : Int) < (n : Int)) = true := decide_eq_true (by omega)
      clear hzn hzd hl hr C hq hown hD hz hd HQ
      go_wp2
      go_ret
      exact ⟨by rw [← unhide HQ2]; rfl, hB⟩
end Go.Proofs.YtnagecbepidfiaaGreatDoor.Nc

namespace Go.Proofs.YtnagecbepidfiaaGreatDoor.Nc
set_option maxRecDepth 100000
open Go.RowKit Go.Maps
set_option linter.unusedVariables false
set_option linter.unusedSimpArgs false

theorem plc_cases (L : List Cm.Tx) (x : Cm.Tx) : (plc L x = -1 ∧ x ∉ L) ∨ ∃ k, ∃ h : k < L.length, plc L x = (k : Int) ∧ L[k]'h = x ∧ ∀ j, ∀ hj : j < L.length, j < k → L[j]'hj ≠ x := by
  unfold plc
  cases e : Cm.idx L x with
  | none =>
    refine .inl ⟨rfl, fun hm => ?_⟩
    unfold Cm.idx at e
    rw [List.findIdx?_eq_none_iff] at e
    have := e x hm
    simp at this
  | some k =>
    unfold Cm.idx at e
    rw [List.findIdx?_eq_some_iff_getElem] at e
    obtain ⟨h, h1, h2⟩ := e
    exact .inr ⟨k, h, rfl, by simpa using h1, fun j hj hjk => by simpa using h2 j hjk⟩
theorem plc_self {L : List Cm.Tx} (k : Nat) (h : k < L.length) : ∃ i : Nat, plc L (L[k]'h) = (i : Int) ∧ i ≤ k ∧ ∃ hi : i < L.length, L[i]'hi = L[k]'h := by
  rcases plc_cases L (L[k]'h) with ⟨_, h2⟩ | ⟨i, hi, h1, h2, h3⟩
  · exact absurd (List.getElem_mem h) h2
  · refine ⟨i, h1, ?_, hi, h2⟩
    rcases Nat.lt_or_ge k i with g | g
    · exact absurd rfl (h3 k h g)
    · exact g
theorem nodup_plc {L : List Cm.Tx} (h : ∀ k, ∀ hk : k < L.length, plc L (L[k]'hk) = (k : Int)) : L.Nodup := by
  rw [List.nodup_iff_pairwise_ne, List.pairwise_iff_getElem]
  intro i j hi hj hij e
  have h1 := h i hi
  have h2 := h j hj
  rw [e, h2] at h1
  omega
theorem plc_nodup {L : List Cm.Tx} (hd : L.Nodup) (k : Nat) (hk : k < L.length) : plc L (L[k]'hk) = (k : Int) := by
  obtain ⟨i, h1, h2, hi, h3⟩ := plc_self k hk
  rw [h1]
  rcases Nat.lt_or_ge i k with g | g
  · exact absurd h3 (List.pairwise_iff_getElem.1 hd i k hi hk g)
  · omega

set_option maxRecDepth 100000 in
set_option maxHeartbeats 1000000 in
theorem rmay_any (g n c : Nat) (L : List Cm.Tx) (hn : L.length = n) (hn2 : n ≤ 1000) (hl : ∀ x ∈ L, x.length ≤ 1000) (q : Nat) (hq : Cm.mayE L = q) (w : World) (hr : RowAt w g L) :
    Calls Tryz.prog 32 #[.slice (some ⟨g, 0, none⟩) n c] w fun e w' => e = .returned (.int .i64 (q : Int)) ∧ w' = w := by
  by_cases h64 : 64 < n
  · have hm : Cm.mayE L = 3 := by unfold Cm.mayE; rw [if_pos (by omega)]
    have hq3 := hq.symm.trans hm
    subst hq3
    clear hq hm
    go_enter Tryz.func32, Tryz.ntmps32
    go_wp2
    go_ret
    exact ⟨rfl, rfl⟩
  · rw [may_small (by omega)] at hq
    have HQ := hide hq
    clear hq
    go_enter Tryz.func32, Tryz.ntmps32
    go_wp2
    go_loop [3] (fun i => ∃ k : Nat, k ≤ n ∧ i = .int .i64 (k : Int) ∧ ∀ j, ∀ hj : j < L.length, j < k → Cm.nameB (L[j]'hj) = true ∧ plc L (L[j]'hj) = (j : Int)) (fun i => n - (intOf i).toNat)
    case atStart => exact ⟨0, by omega, rfl, fun j _ h => absurd h (by omega)⟩
    case round =>
      obtain ⟨k, hk, rfl, hno⟩ := hrel
      by_cases hlt : k < n
      · obtain ⟨x, hx, hx2, hx3⟩ := txt (L[k]'(by omega))
        have hc := hr.2 k (by omega)
        rw [hx] at hc
        have hxl := hl _ (List.getElem_mem (show k < L.length by omega))
        have hxm : x.data.toList ∈ L := by rw [hx2]; exact List.getElem_mem _
        cases hnm : Cm.nameB x.data.toList
        · have C : ∀ W, Calls Tryz.prog 72 #[.string x] W fun e w' => e = .returned (.bool false) ∧ w' = W := fun W => by
            have := rmayName_any x W (by omega)
            rwa [hnm] at this
          have hall : L.all Cm.nameB = false := by
            rw [List.all_eq_false]
            exact ⟨_, hxm, by rw [hnm]; simp⟩
          have hq := unhide HQ
          rw [hall] at hq
          have HQ2 := hide (show (20 : Nat) = q from hq)
          clear hq hall hno hxm hnm hx2 hx3 hx hxl HQ
          go_wp2_with (go_at_call 72; refine (C _).mono ?_; rintro e w ⟨rfl, rfl⟩)
          go_ret
          exact ⟨by rw [← unhide HQ2]; rfl, rfl⟩
        · have C : ∀ W, Calls Tryz.prog 72 #[.string x] W fun e w' => e = .returned (.bool true) ∧ w' = W := fun W => by
            have := rmayName_any x W (by omega)
            rwa [hnm] at this
          obtain ⟨i, hi1, hi2, hi3, hi4⟩ := plc_self (L := L) k (by omega)
          have CP : ∀ W, RowAt W g L → Calls Tryz.prog 73 #[.slice (some ⟨g, 0, none⟩) n c, .string x] W fun e w' => e = .returned (.int .i64 (i : Int)) ∧ w' = W := fun W h =>
            place_any g n c L hn (by omega) x i (by rw [hx2]; exact hi1) W h
          by_cases hik : i = k
          · subst hik
            have hno2 : ∀ j, ∀ hj : j < L.length, j < i + 1 → Cm.nameB (L[j]'hj) = true ∧ plc L (L[j]'hj) = (j : Int) := fun j hj h => by
              by_cases e : j = i
              · subst e; exact ⟨by rw [← hx2]; exact hnm, hi1⟩
              · exact hno j hj (by omega)
            have d1 : ((i : Int) == (i : Int)) = true := beq_self_eq_true _
            clear hno hi1 hi2 hi3 hi4 hnm hxm hx hx2 hx3
            go_wp2_with (first | (go_at_call 72; refine (C _).mono ?_; rintro e w ⟨rfl, rfl⟩) | (go_at_call 73; refine (CP _ hr).mono ?_; rintro e w ⟨rfl, rfl⟩))
            go_round
            case rel => exact ⟨i + 1, by omega, by go_num, hno2⟩
            case measure => simp [intOf]; omega
          · have hnd : ¬ L.Nodup := fun hd => by
              have := plc_nodup hd k (by omega)
              rw [hi1] at this
              omega
            have hq := unhide HQ
            rw [decide_eq_false hnd, Bool.and_false] at hq
            have HQ2 := hide (show (20 : Nat) = q from hq)
            have d1 : ((i : Int) == (k : Int)) = false := beq_eq_false_iff_ne.2 (by omega)
            clear hno hi1 hi2 hi3 hi4 hnm hxm hx hx2 hx3 hnd hq HQ hik
            go_wp2_with (first | (go_at_call 72; refine (C _).mono ?_; rintro e w ⟨rfl, rfl⟩) | (go_at_call 73; refine (CP _ hr).mono ?_; rintro e w ⟨rfl, rfl⟩))
            go_ret
            exact ⟨by rw [← unhide HQ2]; rfl, rfl⟩
      · have hall : L.all Cm.nameB = true := by
          rw [List.all_eq_true]
          intro y hy
          obtain ⟨j, hj, rfl⟩ := List.getElem_of_mem hy
          exact (hno j hj (by omega)).1
        have hd : L.Nodup := nodup_plc (fun j hj => (hno j hj (by omega)).2)
        have hq := unhide HQ
        rw [hall, decide_eq_true hd] at hq
        have HQ2 := hide (show (0 : Nat) = q from hq)
        clear hq hall hno hd HQ
        go_wp2
        go_ret
        exact ⟨by rw [← unhide HQ2]; rfl, rfl⟩
end Go.Proofs.YtnagecbepidfiaaGreatDoor.Nc

namespace Go.Proofs.YtnagecbepidfiaaGreatDoor.Nc
set_option maxRecDepth 100000
open Go.RowKit
set_option linter.unusedVariables false
set_option linter.unusedSimpArgs false

theorem indexByte_miss {l : List UInt8} (h : (32 : UInt8) ∉ l) : Lib.indexByte l 32 = -1 := by
  induction l with
  | nil => rfl
  | cons b l ih =>
    unfold Lib.indexByte
    rw [if_neg (by intro e; exact h (by rw [eq_of_beq e]; exact List.mem_cons_self)), ih (fun e => h (List.mem_cons_of_mem _ e))]
    rfl
theorem indexByte_hit {a r : List UInt8} (h : (32 : UInt8) ∉ a) : Lib.indexByte (a ++ 32 :: r) 32 = (a.length : Int) := by
  induction a with
  | nil => rfl
  | cons b l ih =>
    rw [List.cons_append]
    unfold Lib.indexByte
    rw [if_neg (by intro e; exact h (by rw [eq_of_beq e]; exact List.mem_cons_self)), ih (fun e => h (List.mem_cons_of_mem _ e)), if_neg (by rw [beq_iff_eq]; omega), List.length_cons]
    omega
theorem indexByte_walk (s : ByteArray) (w : World) : Calls Tryz.prog 144 #[.string s, .int .u8 32] w fun e w' => e = .returned (.int .i64 (Lib.indexByte s.data.toList 32)) ∧ w' = w := by
  go_enter Tryz.func144, Tryz.ntmps144
  go_wp2
  rw [run_callFunc_extern Tryz.func164 (by kernel_rfl) (by kernel_rfl) (by kernel_rfl) (e := Extern.BytealgIndexByte.indexByte) (by kernel_rfl), Lib.run_indexByteString]
  simp only [Result.andThen]
  rw [Oper.upon_value]
  go_wp2
  go_ret
  exact ⟨rfl, rfl⟩
theorem index_walk (s : ByteArray) (n : Int) (hn : Lib.indexByte s.data.toList 32 = n) (w : World) : Calls Tryz.prog 129 #[.string s, .string ⟨#[32]⟩] w fun e w' => e = .returned (.int .i64 n) ∧ w' = w := by
  have C : ∀ W, Calls Tryz.prog 144 #[.string s, .int .u8 32] W fun e w' => e = .returned (.int .i64 n) ∧ w' = W := fun W => hn ▸ indexByte_walk s W
  by_cases h : s.toList = [32]
  · have hb : ([32] == s.toList) = true := by rw [h]; rfl
    have h0 : n = 0 := by rw [← hn, ← ByteArray.toList_eq, h]; rfl
    subst h0
    clear hn h
    go_enter Tryz.func129, Tryz.ntmps129
    go_wp2_with fail
    go_ret
    exact ⟨rfl, rfl⟩
  · have hb : ([32] == s.toList) = false := by rw [← Bool.not_eq_true]; intro e; exact h (eq_of_beq e).symm
    clear hn h
    go_enter Tryz.func129, Tryz.ntmps129
    go_wp2_with fail
    refine (C _).mono ?_
    rintro e w ⟨rfl, rfl⟩
    go_wp2_with fail
    go_ret
    exact ⟨rfl, rfl⟩
theorem cutMiss_lite (s : ByteArray) (w : World) (h : (32 : UInt8) ∉ s.data.toList) :
    Calls Tryz.prog 125 #[.string s, .string ⟨#[32]⟩] w fun e w' => e = .returned (.tuple #[.string s, .string ⟨#[]⟩, .bool false]) ∧ ∃ n, w' = w.drewN n := by
  have C := index_walk s (-1) (indexByte_miss h)
  clear h
  go_enter Tryz.func125, Tryz.ntmps125
  go_wp2_with fail
  refine (C _).mono ?_
  rintro e w ⟨rfl, rfl⟩
  go_wp2
  go_ret3
  exact ⟨rfl, 0, rfl⟩
theorem cut_parts {s a r : ByteArray} (h : s.data.toList = a.data.toList ++ 32 :: r.data.toList) : s.size = a.size + 1 + r.size ∧ s.extract 0 a.size = a ∧ s.extract (a.size + 1) s.size = r := by
  have h1 : s.size = a.size + 1 + r.size := by
    have := congrArg List.length h
    rw [List.length_append, List.length_cons, Array.length_toList, Array.length_toList, Array.length_toList] at this
    show s.data.size = a.data.size + 1 + r.data.size
    omega
  have ext : ∀ {x y : ByteArray}, x.data.toList = y.data.toList → x = y := by
    intro x y e
    cases x; cases y
    congr 1
    exact Array.toList_inj.1 e
  refine ⟨h1, ext ?_, ext ?_⟩
  · rw [Lib.extract_data, h, List.drop_zero, Nat.sub_zero, List.take_left' (by rw [Array.length_toList]; rfl)]
  · rw [Lib.extract_data, h, show a.size + 1 = a.data.toList.length + 1 by rw [Array.length_toList]; rfl, List.drop_length_add_append, List.drop_succ_cons, List.drop_zero, List.take_of_length_le]
    rw [Array.length_toList, Array.length_toList]
    show r.data.size ≤ s.size - (a.size + 1)
    have : r.size = r.data.size := rfl
    omega
theorem cutHit_lite (s a r : ByteArray) (w : World) (hs : s.size ≤ 9223372036854775806) (h : s.data.toList = a.data.toList ++ 32 :: r.data.toList) (ha : (32 : UInt8) ∉ a.data.toList) :
    Calls Tryz.prog 125 #[.string s, .string ⟨#[32]⟩] w fun e w' => e = .returned (.tuple #[.string a, .string r, .bool true]) ∧ ∃ n, w' = w.drewN n := by
  obtain ⟨h1, h2, h3⟩ := cut_parts h
  have C := index_walk s (a.size : Int) (by rw [h, indexByte_hit ha, Array.length_toList]; rfl)
  obtain ⟨n, hn⟩ : ∃ n, a.size = n := ⟨_, rfl⟩
  rw [hn] at h1 h2 h3 C
  have c1 : (0 : Int) ≤ (n : Int) := by omega
  have c2 : (n : Int) ≤ (s.size : Int) := by omega
  have c3 : (0 : Int) ≤ (n : Int) + 1 := by omega
  have c4 : (n : Int) + 1 ≤ (s.size : Int) := by omega
  clear h ha hn h1
  go_enter Tryz.func125, Tryz.ntmps125
  go_wp2_with fail
  refine (C _).mono ?_
  rintro e w ⟨rfl, rfl⟩
  go_wp2_with fail
  go_quiet (fail)
  go_wp2
  go_ret3
  exact ⟨rfl, _, rfl⟩
theorem cutMiss (s : ByteArray) (w : World) (h : (32 : UInt8) ∉ s.data.toList) :
    Calls Tryz.prog 96 #[.string s, .string ⟨#[32]⟩] w fun e w' => e = .returned (.tuple #[.string s, .string ⟨#[]⟩, .bool false]) ∧ ∃ n, w' = w.drewN n := by
  have C := fun W => cutMiss_lite s W h
  go_enter Tryz.func96, Tryz.ntmps96
  go_wp2_with fail
  refine (C _).mono ?_
  rintro e w ⟨rfl, n, rfl⟩
  go_wp2
  go_ret3
  exact ⟨rfl, n, rfl⟩
theorem cutHit (s a r : ByteArray) (w : World) (hs : s.size ≤ 9223372036854775806) (h : s.data.toList = a.data.toList ++ 32 :: r.data.toList) (ha : (32 : UInt8) ∉ a.data.toList) :
    Calls Tryz.prog 96 #[.string s, .string ⟨#[32]⟩] w fun e w' => e = .returned (.tuple #[.string a, .string r, .bool true]) ∧ ∃ n, w' = w.drewN n := by
  have C := fun W => cutHit_lite s a r W hs h ha
  clear h
  go_enter Tryz.func96, Tryz.ntmps96
  go_wp2_with fail
  refine (C _).mono ?_
  rintro e w ⟨rfl, n, rfl⟩
  go_wp2
  go_ret3
  exact ⟨rfl, n, rfl⟩
end Go.Proofs.YtnagecbepidfiaaGreatDoor.Nc
