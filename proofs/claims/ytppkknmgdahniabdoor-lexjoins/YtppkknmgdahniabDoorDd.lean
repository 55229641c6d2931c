/- What is proved here: what exponent of package dec does, walked; conditions: as each theorem states. What is proved here: what exponent of package dec does at every text; conditions: the text is no longer than a text may be. What is proved here: what fit of package dec does with digits that lie in memory, walked; conditions: as each theorem states. What is proved here: what append of a text's bytes to a text's converted bytes leaves in memory; conditions: both are short. What is proved here: what Parse of package dec does, walked; conditions: the text has at most 100000 bytes. What is proved here: what Parse of package dec does where there is a point, walked; conditions: as each theorem states. What is proved here: what Parse of package dec does at every text; conditions: the text has at most 100000 bytes. What is proved here: what Print of package dec does with a decimal that may be, walked; conditions: as each theorem states. What is proved here: what Print of package dec does at every decimal that may be; conditions: the decimal may be. What is proved here: what digitAt and combine of package dec do, walked; conditions: as each theorem states. What is proved here: what multiply of package dec does, walked; conditions: both texts are digits, 60 at most. What is proved here: what Mul of package dec does with decimals that may be, walked; conditions: both may be. What is proved here: what Add of package dec does with decimals of one sign, walked; conditions: both may be. -/
import Derived.Test.YtppkknmgdahniabDoorDc
import Derived.Test.YtppkknmgdahniabDoorAc
import Derived.Laws.BytesArg
import Derived.RegionTactic
import Derived.Deep.RegionWith
import Derived.Deep.CutRange
import Derived.Deep.AppendSrc
import Derived.Lib.ConvBytes
import Derived.Laws.IdiomCopy
import Derived.Test.YtppkknmgdahniabDoorAa
import Derived.Deep.OwnRows
import Derived.Deep.RegionHeld3
namespace Go.Proofs.YtppkknmgdahniabDoor
set_option maxRecDepth 100000
open Go.RowKit
set_option linter.unusedVariables false
set_option linter.unusedSimpArgs false

def expU (below : Bool) (u : List UInt8) : Option Int :=
  if u.length < 1 ∨ 2 < u.length then none else if u.all Dm.isD then some (if below then -(Dm.num u : Int) else (Dm.num u : Int)) else none
theorem expL_minus {c : UInt8} {u : List UInt8} (h : c = 101 ∨ c = 69) : Dm.expL (c :: 45 :: u) = expU true u := by
  simp only [Dm.expL, expU, if_neg (show ¬ (c ≠ 101 ∧ c ≠ 69) by rcases h with rfl | rfl <;> simp)]
  simp
theorem expL_plus {c : UInt8} {u : List UInt8} (h : c = 101 ∨ c = 69) : Dm.expL (c :: 43 :: u) = expU false u := by
  simp only [Dm.expL, expU, if_neg (show ¬ (c ≠ 101 ∧ c ≠ 69) by rcases h with rfl | rfl <;> simp)]
  simp
theorem expL_bare {c : UInt8} {t : List UInt8} (h : c = 101 ∨ c = 69) (h1 : t.head? ≠ some 45) (h2 : t.head? ≠ some 43) : Dm.expL (c :: t) = expU false t := by
  simp only [Dm.expL, expU, if_neg (show ¬ (c ≠ 101 ∧ c ≠ 69) by rcases h with rfl | rfl <;> simp)]
  have e1 : (t.head? == some 45) = false := by simpa using h1
  have e2 : (t.head? == some 43) = false := by simpa using h2
  simp only [e1, e2, Bool.or_self, Bool.false_eq_true, if_false]
theorem hasPrefix_one (t : List UInt8) (c : UInt8) (n : Nat) (hn : t.length ≤ n) : Lib.hasPrefix (List.take n t) [c] = (t.head? == some c) := by
  rw [List.take_of_length_le hn]
  unfold Lib.hasPrefix
  cases t with
  | nil => rfl
  | cons d u =>
    have : (c == d) = (d == c) := by rw [Bool.eq_iff_iff]; simp only [beq_iff_eq]; exact eq_comm
    simp [List.isPrefixOf, this]
theorem expU_len {b : Bool} {u : List UInt8} (h : u.length < 1 ∨ 2 < u.length) : expU b u = none := if_pos h
theorem expU_bad {b : Bool} {u : List UInt8} {k : Nat} (h : k < u.length) (hd : Dm.isD u[k] = false) : expU b u = none := by
  unfold expU
  have : u.all Dm.isD = false := by
    rw [List.all_eq_false]
    exact ⟨u[k], List.getElem_mem h, by rw [hd]; simp⟩
  rw [this]; simp
theorem expU_ok {b : Bool} {u : List UInt8} (h : 1 ≤ u.length ∧ u.length ≤ 2) (hd : Dm.allD u) : expU b u = some (if b then -(Dm.num u : Int) else (Dm.num u : Int)) := by
  unfold expU
  rw [if_neg (by omega), if_pos (Dm.allD_all.2 hd)]
theorem ret_exp {x : Int} {b : Bool} {r : Option Int} (h : x = r.getD 0) (g : b = r.isSome) : Ending.returned (.tuple #[.int .i64 x, .bool b]) = .returned (.tuple #[.int .i64 (r.getD 0), .bool r.isSome]) := by rw [h, g]
theorem num_take_succ {l : List UInt8} {k : Nat} (h : k < l.length) : Dm.num (l.take (k + 1)) = 10 * Dm.num (l.take k) + Dm.dv l[k] := by
  rw [List.take_succ_eq_append_getElem h, Dm.num_snoc]
theorem num_take_lt {l : List UInt8} {k : Nat} (h : k ≤ 2) (hd : Dm.allD (l.take k)) : Dm.num (l.take k) < 100 := by
  have := Dm.num_lt hd
  have h2 : (l.take k).length ≤ 2 := by rw [List.length_take]; omega
  have : 10 ^ (l.take k).length ≤ 10 ^ 2 := Nat.pow_le_pow_right (by omega) h2
  omega

set_option maxRecDepth 100000 in
set_option maxHeartbeats 1000000 in
theorem exponent_minus (s : ByteArray) (w : World) (c : UInt8) (u : List UInt8) (hl : s.data.toList = c :: 45 :: u) (hc : c = 101 ∨ c = 69) (hs : s.size ≤ maxLen) :
    Calls Tryd.prog 41 #[.string s] w fun e w' => e = .returned (.tuple #[.int .i64 ((expU true u).getD 0), .bool (expU true u).isSome]) ∧ Below w.heap.size w w' := by
  unfold maxLen at hs
  have h2 : s.size = u.length + 2 := by rw [size_len, hl]; simp
  have h0 : s.toList.isEmpty = false := by rw [toList_eq, hl]; rfl
  have hp : Lib.hasPrefix (List.take (s.size - 1) s.data.toList.tail) [45] = true := by
    rw [hasPrefix_one _ _ _ (by rw [hl, h2]; simp), hl]; simp
  have b1 : 2 ≤ s.size := by omega
  have b0 : 0 < s.size := Nat.lt_of_lt_of_le (by decide) b1
  have e0 : s[0]'b0 = c := by rw [ba_get _ _ (by omega)]; simp [hl]
  have HL := hide hl
  have H2 := hide h2
  clear hl
  clear h2
  by_cases hsz : u.length < 1 ∨ 2 < u.length
  · have b2 : ((s.size - 1 - 1 : Nat) : Int) < 1 ∨ 2 < ((s.size - 1 - 1 : Nat) : Int) := by rw [unhide H2]; omega
    rw [expU_len hsz]
    clear hsz
    rcases hc with rfl | rfl
    · have e1 : ((s[0]'b0).toNat : Int) = 101 := by rw [e0]; rfl
      clear e0
      rcases b2 with b2 | b2
      all_goals
        go_enter Tryd.func41, Tryd.ntmps41
        go_wp2_with (go_at_call 27; refine (Tryd.strings_HasPrefix _ _ _).mono ?_; rintro e w' ⟨rfl, rfl⟩)
        go_ret2
        exact ⟨rfl, Below.refl _ _⟩
    · have e1 : ((s[0]'b0).toNat : Int) = 69 := by rw [e0]; rfl
      clear e0
      rcases b2 with b2 | b2
      all_goals
        go_enter Tryd.func41, Tryd.ntmps41
        go_wp2_with (go_at_call 27; refine (Tryd.strings_HasPrefix _ _ _).mono ?_; rintro e w' ⟨rfl, rfl⟩)
        go_ret2
        exact ⟨rfl, Below.refl _ _⟩
  · have b2 : 1 ≤ ((s.size - 1 - 1 : Nat) : Int) := by rw [unhide H2]; omega
    have b3 : ((s.size - 1 - 1 : Nat) : Int) ≤ 2 := by rw [unhide H2]; omega
    have HS := hide hsz
    clear hsz
    have HV : Hid (((s.extract 1 s.size).extract 1 (s.size - 1)).data.toList = u ∧ ((s.extract 1 s.size).extract 1 (s.size - 1)).size = s.size - 1 - 1) := by
      have g : ((s.extract 1 s.size).extract 1 (s.size - 1)).data.toList = u := by
        have hl := unhide HL
        rw [Go.Lib.extract_data, Go.Lib.extract_to_end, hl]
        have := unhide H2
        rw [this]
        simp only [List.drop_succ_cons, List.drop_zero]
        exact List.take_of_length_le (by omega)
      refine hide ⟨g, ?_⟩
      rw [size_len, g, unhide H2]; omega
    have hc' : (s[0]'b0).toNat = 101 ∨ (s[0]'b0).toNat = 69 := by
      rw [e0]; rcases hc with rfl | rfl
      · left; rfl
      · right; rfl
    clear e0 hc
    rcases hc' with e1' | e1'
    all_goals
      have e1 : ((s[0]'b0).toNat : Int) = _ := congrArg Nat.cast e1'
      clear e1'
      go_enter Tryd.func41, Tryd.ntmps41
      go_wp2_with (go_at_call 27; refine (Tryd.strings_HasPrefix _ _ _).mono ?_; rintro e w' ⟨rfl, rfl⟩)
      clear HL H2 h0 hp e1 b1
      generalize (s.extract 1 s.size).extract 1 (s.size - 1) = v at *
      generalize s.size - 1 - 1 = n at *
      go_loop [37, 5, 2] (fun i j t => ∃ k : Nat, k ≤ n ∧ i = .int .i64 k ∧ t = .int .i64 (Dm.num (u.take k) : Int) ∧ Dm.allD (u.take k)) (fun i _ _ => n - (intOf i).toNat)
      case atStart => exact ⟨0, Nat.zero_le _, rfl, by rw [List.take_zero]; rfl, by rw [List.take_zero]; exact Dm.allD_nil⟩
      case round =>
        obtain ⟨k, hk, rfl, rfl, hd⟩ := hrel
        obtain ⟨hvu, hvn⟩ := unhide HV
        have hlu : u.length = n := by rw [← hvu, ← size_len, hvn]
        have hnb : (Dm.num (u.take k) : Int) < 100 := by have := num_take_lt (l := u) (k := k) (by omega) hd; omega
        by_cases hlt : k < n
        · have hkv : k < v.size := by omega
          have hku : k < u.length := by omega
          have hvk : v[k] = u[k] := by rw [ba_get v k hkv]; simp only [hvu]
          have HVK := hide hvk
          have HD := hide hd
          have HVU := hide hvu
          have HVN := hide hvn
          have HLU := hide hlu
          clear hvk hd hvu hvn hlu
          by_cases hg : Dm.isD v[k] = true
          · have hbd := Dm.isD_iff.1 hg
            have h48 : (48 : Int) ≤ (v[k].toNat : Int) := by omega
            have h57 : (v[k].toNat : Int) ≤ 57 := by omega
            clear hbd
            go_wp2_with (go_at_call 59; refine (isDigit_any _ _).mono ?_; rintro e w' ⟨rfl, rfl⟩)
            go_round
            case rel =>
              refine ⟨k + 1, by omega, by go_num, ?_, ?_⟩
              · rw [num_take_succ hku, ← unhide HVK]
                have hdv : (Dm.dv v[k] : Int) = (v[k].toNat : Int) - 48 := by unfold Dm.dv; omega
                exact congrArg (Value.int .i64) (by omega)
              · rw [unhide HVK] at hg
                exact allD_take_succ hku (unhide HD) hg
            case measure => simp [intOf]; omega
          · have hg' : Dm.isD v[k] = false := by simpa using hg
            clear hg
            have hbad : expU true u = none := expU_bad hku (by rw [← unhide HVK]; exact hg')
            have HB := hide hbad
            clear hbad
            go_wp2_with (go_at_call 59; refine (isDigit_any _ _).mono ?_; rintro e w' ⟨rfl, rfl⟩)
            go_ret2
            exact ⟨ret_exp (by rw [unhide HB]; rfl) (by rw [unhide HB]; rfl), Below.refl _ _⟩
        · have hkn : k = u.length := by omega
          have hall : Dm.allD u := by rw [hkn, List.take_length] at hd; exact hd
          have hok := expU_ok (b := true) (u := u) (by omega) hall
          have hnum : Dm.num (u.take k) = Dm.num u := by rw [hkn, List.take_length]
          have HX := hide hok
          have HN := hide hnum
          clear hok hnum hkn hall hvu hvn hlu hd
          go_wp2
          go_ret2
          exact ⟨ret_exp (by rw [unhide HX, unhide HN]; rfl) (by rw [unhide HX]; rfl), Below.refl _ _⟩
set_option maxRecDepth 100000 in
set_option maxHeartbeats 1000000 in
theorem exponent_plus (s : ByteArray) (w : World) (c : UInt8) (u : List UInt8) (hl : s.data.toList = c :: 43 :: u) (hc : c = 101 ∨ c = 69) (hs : s.size ≤ maxLen) :
    Calls Tryd.prog 41 #[.string s] w fun e w' => e = .returned (.tuple #[.int .i64 ((expU false u).getD 0), .bool (expU false u).isSome]) ∧ Below w.heap.size w w' := by
  unfold maxLen at hs
  have h2 : s.size = u.length + 2 := by rw [size_len, hl]; simp
  have h0 : s.toList.isEmpty = false := by rw [toList_eq, hl]; rfl
  have hp : Lib.hasPrefix (List.take (s.size - 1) s.data.toList.tail) [45] = false := by
    rw [hasPrefix_one _ _ _ (by rw [hl, h2]; simp), hl]; simp
  have hp2 : Lib.hasPrefix (List.take (s.size - 1) s.data.toList.tail) [43] = true := by
    rw [hasPrefix_one _ _ _ (by rw [hl, h2]; simp), hl]; simp
  have b1 : 2 ≤ s.size := by omega
  have b0 : 0 < s.size := Nat.lt_of_lt_of_le (by decide) b1
  have e0 : s[0]'b0 = c := by rw [ba_get _ _ (by omega)]; simp [hl]
  have HL := hide hl
  have H2 := hide h2
  clear hl
  clear h2
  by_cases hsz : u.length < 1 ∨ 2 < u.length
  · have b2 : ((s.size - 1 - 1 : Nat) : Int) < 1 ∨ 2 < ((s.size - 1 - 1 : Nat) : Int) := by rw [unhide H2]; omega
    rw [expU_len hsz]
    clear hsz
    rcases hc with rfl | rfl
    · have e1 : ((s[0]'b0).toNat : Int) = 101 := by rw [e0]; rfl
      clear e0
      rcases b2 with b2 | b2
      all_goals
        go_enter Tryd.func41, Tryd.ntmps41
        go_wp2_with (go_at_call 27; refine (Tryd.strings_HasPrefix _ _ _).mono ?_; rintro e w' ⟨rfl, rfl⟩)
        go_ret2
        exact ⟨rfl, Below.refl _ _⟩
    · have e1 : ((s[0]'b0).toNat : Int) = 69 := by rw [e0]; rfl
      clear e0
      rcases b2 with b2 | b2
      all_goals
        go_enter Tryd.func41, Tryd.ntmps41
        go_wp2_with (go_at_call 27; refine (Tryd.strings_HasPrefix _ _ _).mono ?_; rintro e w' ⟨rfl, rfl⟩)
        go_ret2
        exact ⟨rfl, Below.refl _ _⟩
  · have b2 : 1 ≤ ((s.size - 1 - 1 : Nat) : Int) := by rw [unhide H2]; omega
    have b3 : ((s.size - 1 - 1 : Nat) : Int) ≤ 2 := by rw [unhide H2]; omega
    have HS := hide hsz
    clear hsz
    have HV : Hid (((s.extract 1 s.size).extract 1 (s.size - 1)).data.toList = u ∧ ((s.extract 1 s.size).extract 1 (s.size - 1)).size = s.size - 1 - 1) := by
      have g : ((s.extract 1 s.size).extract 1 (s.size - 1)).data.toList = u := by
        have hl := unhide HL
        rw [Go.Lib.extract_data, Go.Lib.extract_to_end, hl]
        have := unhide H2
        rw [this]
        simp only [List.drop_succ_cons, List.drop_zero]
        exact List.take_of_length_le (by omega)
      refine hide ⟨g, ?_⟩
      rw [size_len, g, unhide H2]; omega
    have hc' : (s[0]'b0).toNat = 101 ∨ (s[0]'b0).toNat = 69 := by
      rw [e0]; rcases hc with rfl | rfl
      · left; rfl
      · right; rfl
    clear e0 hc
    rcases hc' with e1' | e1'
    all_goals
      have e1 : ((s[0]'b0).toNat : Int) = _ := congrArg Nat.cast e1'
      clear e1'
      go_enter Tryd.func41, Tryd.ntmps41
      go_wp2_with (go_at_call 27; refine (Tryd.strings_HasPrefix _ _ _).mono ?_; rintro e w' ⟨rfl, rfl⟩)
      clear HL H2 h0 hp hp2 e1 b1
      generalize (s.extract 1 s.size).extract 1 (s.size - 1) = v at *
      generalize s.size - 1 - 1 = n at *
      go_loop [37, 5, 2] (fun i j t => ∃ k : Nat, k ≤ n ∧ i = .int .i64 k ∧ t = .int .i64 (Dm.num (u.take k) : Int) ∧ Dm.allD (u.take k)) (fun i _ _ => n - (intOf i).toNat)
      case atStart => exact ⟨0, Nat.zero_le _, rfl, by rw [List.take_zero]; rfl, by rw [List.take_zero]; exact Dm.allD_nil⟩
      case round =>
        obtain ⟨k, hk, rfl, rfl, hd⟩ := hrel
        obtain ⟨hvu, hvn⟩ := unhide HV
        have hlu : u.length = n := by rw [← hvu, ← size_len, hvn]
        have hnb : (Dm.num (u.take k) : Int) < 100 := by have := num_take_lt (l := u) (k := k) (by omega) hd; omega
        by_cases hlt : k < n
        · have hkv : k < v.size := by omega
          have hku : k < u.length := by omega
          have hvk : v[k] = u[k] := by rw [ba_get v k hkv]; simp only [hvu]
          have HVK := hide hvk
          have HD := hide hd
          have HVU := hide hvu
          have HVN := hide hvn
          have HLU := hide hlu
          clear hvk hd hvu hvn hlu
          by_cases hg : Dm.isD v[k] = true
          · have hbd := Dm.isD_iff.1 hg
            have h48 : (48 : Int) ≤ (v[k].toNat : Int) := by omega
            have h57 : (v[k].toNat : Int) ≤ 57 := by omega
            clear hbd
            go_wp2_with (go_at_call 59; refine (isDigit_any _ _).mono ?_; rintro e w' ⟨rfl, rfl⟩)
            go_round
            case rel =>
              refine ⟨k + 1, by omega, by go_num, ?_, ?_⟩
              · rw [num_take_succ hku, ← unhide HVK]
                have hdv : (Dm.dv v[k] : Int) = (v[k].toNat : Int) - 48 := by unfold Dm.dv; omega
                exact congrArg (Value.int .i64) (by omega)
              · rw [unhide HVK] at hg
                exact allD_take_succ hku (unhide HD) hg
            case measure => simp [intOf]; omega
          · have hg' : Dm.isD v[k] = false := by simpa using hg
            clear hg
            have hbad : expU false u = none := expU_bad hku (by rw [← unhide HVK]; exact hg')
            have HB := hide hbad
            clear hbad
            go_wp2_with (go_at_call 59; refine (isDigit_any _ _).mono ?_; rintro e w' ⟨rfl, rfl⟩)
            go_ret2
            exact ⟨ret_exp (by rw [unhide HB]; rfl) (by rw [unhide HB]; rfl), Below.refl _ _⟩
        · have hkn : k = u.length := by omega
          have hall : Dm.allD u := by rw [hkn, List.take_length] at hd; exact hd
          have hok := expU_ok (b := false) (u := u) (by omega) hall
          have hnum : Dm.num (u.take k) = Dm.num u := by rw [hkn, List.take_length]
          have HX := hide hok
          have HN := hide hnum
          clear hok hnum hkn hall hvu hvn hlu hd
          go_wp2
          go_ret2
          exact ⟨ret_exp (by rw [unhide HX, unhide HN]; rfl) (by rw [unhide HX]; rfl), Below.refl _ _⟩
set_option maxRecDepth 100000 in
set_option maxHeartbeats 1000000 in
theorem exponent_bare (s : ByteArray) (w : World) (c : UInt8) (u : List UInt8) (hl : s.data.toList = c :: u) (q1 : u.head? ≠ some 45) (q2 : u.head? ≠ some 43) (hc : c = 101 ∨ c = 69) (hs : s.size ≤ maxLen) :
    Calls Tryd.prog 41 #[.string s] w fun e w' => e = .returned (.tuple #[.int .i64 ((expU false u).getD 0), .bool (expU false u).isSome]) ∧ Below w.heap.size w w' := by
  unfold maxLen at hs
  have h2 : s.size = u.length + 1 := by rw [size_len, hl]; simp
  have h0 : s.toList.isEmpty = false := by rw [toList_eq, hl]; rfl
  have hp : Lib.hasPrefix (List.take (s.size - 1) s.data.toList.tail) [45] = false := by
    rw [hasPrefix_one _ _ _ (by rw [hl, h2]; simp), hl]; simpa using q1
  have hp2 : Lib.hasPrefix (List.take (s.size - 1) s.data.toList.tail) [43] = false := by
    rw [hasPrefix_one _ _ _ (by rw [hl, h2]; simp), hl]; simpa using q2
  clear q1
  clear q2
  have b1 : 1 ≤ s.size := by omega
  have b0 : 0 < s.size := Nat.lt_of_lt_of_le (by decide) b1
  have e0 : s[0]'b0 = c := by rw [ba_get _ _ (by omega)]; simp [hl]
  have HL := hide hl
  have H2 := hide h2
  clear hl
  clear h2
  by_cases hsz : u.length < 1 ∨ 2 < u.length
  · have b2 : ((s.size - 1 : Nat) : Int) < 1 ∨ 2 < ((s.size - 1 : Nat) : Int) := by rw [unhide H2]; omega
    rw [expU_len hsz]
    clear hsz
    rcases hc with rfl | rfl
    · have e1 : ((s[0]'b0).toNat : Int) = 101 := by rw [e0]; rfl
      clear e0
      rcases b2 with b2 | b2
      all_goals
        go_enter Tryd.func41, Tryd.ntmps41
        go_wp2_with (go_at_call 27; refine (Tryd.strings_HasPrefix _ _ _).mono ?_; rintro e w' ⟨rfl, rfl⟩)
        go_ret2
        exact ⟨rfl, Below.refl _ _⟩
    · have e1 : ((s[0]'b0).toNat : Int) = 69 := by rw [e0]; rfl
      clear e0
      rcases b2 with b2 | b2
      all_goals
        go_enter Tryd.func41, Tryd.ntmps41
        go_wp2_with (go_at_call 27; refine (Tryd.strings_HasPrefix _ _ _).mono ?_; rintro e w' ⟨rfl, rfl⟩)
        go_ret2
        exact ⟨rfl, Below.refl _ _⟩
  · have b2 : 1 ≤ ((s.size - 1 : Nat) : Int) := by rw [unhide H2]; omega
    have b3 : ((s.size - 1 : Nat) : Int) ≤ 2 := by rw [unhide H2]; omega
    have HS := hide hsz
    clear hsz
    have HV : Hid ((s.extract 1 s.size).data.toList = u ∧ (s.extract 1 s.size).size = s.size - 1) := by
      have g : (s.extract 1 s.size).data.toList = u := by
        have hl := unhide HL
        rw [Go.Lib.extract_to_end, hl]
        simp only [List.drop_succ_cons, List.drop_zero]
      refine hide ⟨g, ?_⟩
      rw [size_len, g, unhide H2]; omega
    have hc' : (s[0]'b0).toNat = 101 ∨ (s[0]'b0).toNat = 69 := by
      rw [e0]; rcases hc with rfl | rfl
      · left; rfl
      · right; rfl
    clear e0 hc
    rcases hc' with e1' | e1'
    all_goals
      have e1 : ((s[0]'b0).toNat : Int) = _ := congrArg Nat.cast e1'
      clear e1'
      go_enter Tryd.func41, Tryd.ntmps41
      go_wp2_with (go_at_call 27; refine (Tryd.strings_HasPrefix _ _ _).mono ?_; rintro e w' ⟨rfl, rfl⟩)
      clear HL H2 h0 hp hp2 e1 b1
      generalize s.extract 1 s.size = v at *
      generalize s.size - 1 = n at *
      go_loop [37, 5, 2] (fun i j t => ∃ k : Nat, k ≤ n ∧ i = .int .i64 k ∧ t = .int .i64 (Dm.num (u.take k) : Int) ∧ Dm.allD (u.take k)) (fun i _ _ => n - (intOf i).toNat)
      case atStart => exact ⟨0, Nat.zero_le _, rfl, by rw [List.take_zero]; rfl, by rw [List.take_zero]; exact Dm.allD_nil⟩
      case round =>
        obtain ⟨k, hk, rfl, rfl, hd⟩ := hrel
        obtain ⟨hvu, hvn⟩ := unhide HV
        have hlu : u.length = n := by rw [← hvu, ← size_len, hvn]
        have hnb : (Dm.num (u.take k) : Int) < 100 := by have := num_take_lt (l := u) (k := k) (by omega) hd; omega
        by_cases hlt : k < n
        · have hkv : k < v.size := by omega
          have hku : k < u.length := by omega
          have hvk : v[k] = u[k] := by rw [ba_get v k hkv]; simp only [hvu]
          have HVK := hide hvk
          have HD := hide hd
          have HVU := hide hvu
          have HVN := hide hvn
          have HLU := hide hlu
          clear hvk hd hvu hvn hlu
          by_cases hg : Dm.isD v[k] = true
          · have hbd := Dm.isD_iff.1 hg
            have h48 : (48 : Int) ≤ (v[k].toNat : Int) := by omega
            have h57 : (v[k].toNat : Int) ≤ 57 := by omega
            clear hbd
            go_wp2_with (go_at_call 59; refine (isDigit_any _ _).mono ?_; rintro e w' ⟨rfl, rfl⟩)
            go_round
            case rel =>
              refine ⟨k + 1, by omega, by go_num, ?_, ?_⟩
              · rw [num_take_succ hku, ← unhide HVK]
                have hdv : (Dm.dv v[k] : Int) = (v[k].toNat : Int) - 48 := by unfold Dm.dv; omega
                exact congrArg (Value.int .i64) (by omega)
              · rw [unhide HVK] at hg
                exact allD_take_succ hku (unhide HD) hg
            case measure => simp [intOf]; omega
          · have hg' : Dm.isD v[k] = false := by simpa using hg
            clear hg
            have hbad : expU false u = none := expU_bad hku (by rw [← unhide HVK]; exact hg')
            have HB := hide hbad
            clear hbad
            go_wp2_with (go_at_call 59; refine (isDigit_any _ _).mono ?_; rintro e w' ⟨rfl, rfl⟩)
            go_ret2
            exact ⟨ret_exp (by rw [unhide HB]; rfl) (by rw [unhide HB]; rfl), Below.refl _ _⟩
        · have hkn : k = u.length := by omega
          have hall : Dm.allD u := by rw [hkn, List.take_length] at hd; exact hd
          have hok := expU_ok (b := false) (u := u) (by omega) hall
          have hnum : Dm.num (u.take k) = Dm.num u := by rw [hkn, List.take_length]
          have HX := hide hok
          have HN := hide hnum
          clear hok hnum hkn hall hvu hvn hlu hd
          go_wp2
          go_ret2
          exact ⟨ret_exp (by rw [unhide HX, unhide HN]; rfl) (by rw [unhide HX]; rfl), Below.refl _ _⟩
end Go.Proofs.YtppkknmgdahniabDoor

namespace Go.Proofs.YtppkknmgdahniabDoor
set_option maxRecDepth 100000
open Go.RowKit
set_option linter.unusedVariables false
set_option linter.unusedSimpArgs false

theorem expL_no {c : UInt8} {t : List UInt8} (h : c ≠ 101 ∧ c ≠ 69) : Dm.expL (c :: t) = none := by
  simp only [Dm.expL, if_pos h]
theorem natne {c : UInt8} (n : Nat) (hn : n < 256) (h : c ≠ UInt8.ofNat n) : ¬ (c.toNat : Int) = (n : Int) := by
  intro e
  apply h
  apply UInt8.toNat_inj.1
  rw [UInt8.toNat_ofNat_of_lt' (by simpa using hn)]
  omega
set_option maxRecDepth 100000 in
set_option maxHeartbeats 1000000 in
theorem exponent_any (s : ByteArray) (w : World) (hs : s.size ≤ maxLen) :
    Calls Tryd.prog 41 #[.string s] w fun e w' => e = .returned (.tuple #[.int .i64 ((Dm.expL s.data.toList).getD 0), .bool (Dm.expL s.data.toList).isSome]) ∧ Below w.heap.size w w' := by
  cases hl : s.data.toList with
  | nil =>
    have h0 : s.toList.isEmpty = true := by rw [toList_eq, hl]; rfl
    clear hl
    go_enter Tryd.func41, Tryd.ntmps41
    go_wp2
    go_ret2
    exact ⟨rfl, Below.refl _ _⟩
  | cons c t =>
    by_cases hc : c = 101 ∨ c = 69
    · by_cases h1 : t.head? = some 45
      · obtain ⟨u, rfl⟩ : ∃ u, t = 45 :: u := by
          cases t with
          | nil => simp at h1
          | cons d u => simp at h1; exact ⟨u, by rw [h1]⟩
        rw [expL_minus hc]; exact exponent_minus s w c u hl hc hs
      · by_cases h2 : t.head? = some 43
        · obtain ⟨u, rfl⟩ : ∃ u, t = 43 :: u := by
            cases t with
            | nil => simp at h2
            | cons d u => simp at h2; exact ⟨u, by rw [h2]⟩
          rw [expL_plus hc]; exact exponent_plus s w c u hl hc hs
        · rw [expL_bare hc h1 h2]; exact exponent_bare s w c t hl h1 h2 hc hs
    · have hn : c ≠ 101 ∧ c ≠ 69 := ⟨fun e => hc (.inl e), fun e => hc (.inr e)⟩
      rw [expL_no hn]
      have h0 : s.toList.isEmpty = false := by rw [toList_eq, hl]; rfl
      have b0 : 0 < s.size := by rw [size_len, hl]; simp
      have e0 : s[0]'b0 = c := by rw [ba_get _ _ b0]; simp [hl]
      have e1 : ¬ ((s[0]'b0).toNat : Int) = 101 := by rw [e0]; exact natne 101 (by omega) hn.1
      have e2 : ¬ ((s[0]'b0).toNat : Int) = 69 := by rw [e0]; exact natne 69 (by omega) hn.2
      have g1 : (((s[0]'b0).toNat : Int) != 101) = true := bne_iff_ne.2 e1
      have g2 : (((s[0]'b0).toNat : Int) != 69) = true := bne_iff_ne.2 e2
      clear e0 hl
      clear hc hn
      go_enter Tryd.func41, Tryd.ntmps41
      go_wp2
      go_ret2
      exact ⟨rfl, Below.refl _ _⟩
end Go.Proofs.YtppkknmgdahniabDoor

namespace Go.Proofs.YtppkknmgdahniabDoor
set_option maxRecDepth 100000
open Go.RowKit
set_option linter.unusedVariables false
set_option linter.unusedSimpArgs false

theorem trimLeftS_48 (l : List UInt8) : Lib.trimLeftS l [48] = Dm.tl l := by
  unfold Lib.trimLeftS Dm.tl
  congr 1
  funext c
  simp only [List.contains, List.elem]
  cases c == 48 <;> rfl
theorem trimRightS_48 (l : List UInt8) : Lib.trimRightS l [48] = Dm.tr l := by
  unfold Lib.trimRightS Dm.tr
  congr 2
  funext c
  simp only [List.contains, List.elem]
  cases c == 48 <;> rfl

theorem trimL_none (b o n c : Nat) (ds : List UInt8) (w : World) (hn : ds.length = n) (h0 : 0 < n) (hnc : n ≤ c) (hc : c ≤ 9223372036854775807) (hr : Row w b o ds) (h : Dm.tl ds = []) :
    Calls Tryd.prog 60 #[.slice (some ⟨b, o, none⟩) n c, .string ⟨#[48]⟩] w fun e w' => e = .returned (.slice none 0 0) ∧ w' = w := by
  have := Tryd.bytes_TrimLeft_48 (some ⟨b, o, none⟩) n c ds w hn hnc hc (hr.at hn) h0
  rw [trimLeftS_48, h] at this
  refine this.mono ?_
  rintro e w' ⟨rfl, rfl⟩
  exact ⟨by simp [Lib.leftV], rfl⟩
theorem trimL_some (b o j m n c : Nat) (ds : List UInt8) (w : World) (hn : ds.length = n) (hj : n = j + m) (hm : (Dm.tl ds).length = m) (h0 : 0 < m) (hnc : n ≤ c) (hc : c ≤ 9223372036854775807) (hr : Row w b o ds) :
    Calls Tryd.prog 60 #[.slice (some ⟨b, o, none⟩) n c, .string ⟨#[48]⟩] w fun e w' => e = .returned (.slice (some ⟨b, o + j, none⟩) m (c - j)) ∧ w' = w := by
  have := Tryd.bytes_TrimLeft_48 (some ⟨b, o, none⟩) n c ds w hn hnc hc (hr.at hn) (by omega)
  rw [trimLeftS_48, hm] at this
  refine this.mono ?_
  rintro e w' ⟨rfl, rfl⟩
  refine ⟨?_, rfl⟩
  have e1 : n - m = j := by omega
  have e2 : n - j = m := by omega
  have e3 : j ≠ n := by omega
  have e4 : c ≠ j := by omega
  simp [Lib.leftV, Lib.fromV, e1, e2, e3, e4, Addr.add]
theorem trimR_some (b o m c k : Nat) (ds : List UInt8) (w : World) (hn : ds.length = m) (h0 : 0 < m) (hk : (Dm.tr ds).length = k) (hnc : m ≤ c) (hc : c ≤ 9223372036854775807) (hr : Row w b o ds) :
    Calls Tryd.prog 61 #[.slice (some ⟨b, o, none⟩) m c, .string ⟨#[48]⟩] w fun e w' => e = .returned (.slice (some ⟨b, o, none⟩) k c) ∧ w' = w := by
  have := Tryd.bytes_TrimRight_48 (some ⟨b, o, none⟩) m c ds w hn hnc hc (hr.at hn) h0
  rw [trimRightS_48, hk] at this
  exact this
theorem repeatL_48 (n : Nat) : Lib.repeatL [48] n = List.replicate n 48 := by
  induction n with
  | zero => rfl
  | succ n ih => rw [List.replicate_succ, Lib.repeatL, ih]; rfl
set_option maxRecDepth 100000 in
theorem repeat_any (c : Int) (w : World) (h0 : 0 ≤ c) (h1 : c ≤ 1000) :
    Calls Tryd.prog 51 #[.string ⟨#[48]⟩, .int .i64 c] w fun e w' => e = .returned (.string ⟨(List.replicate c.toNat (48 : UInt8)).toArray⟩) ∧ Below w.heap.size w w' := by
  obtain ⟨n, rfl⟩ := Int.eq_ofNat_of_zero_le h0
  have hs : (⟨#[48]⟩ : ByteArray).size = 1 := rfl
  have := Tryd.strings_Repeat ⟨#[48]⟩ n w (by omega) (by rw [hs]; omega)
  refine this.mono ?_
  rintro e w' ⟨rfl, hb⟩
  refine ⟨?_, hb⟩
  rw [Int.toNat_natCast]
  have : (⟨#[48]⟩ : ByteArray).data.toList = [48] := rfl
  rw [this, repeatL_48]
theorem str_join (l : List UInt8) (n : Nat) : (⟨l.toArray⟩ ++ ⟨Array.replicate n 48⟩ : ByteArray) = ⟨(l ++ List.replicate n 48).toArray⟩ := by
  rw [← ByteArray.mk_append_mk]; simp
/-- A decimal as a value. -/
def dV (d : Dm.D) : Value := .agg #[.bool d.ng, .string ⟨d.ds.toArray⟩, .int .i64 (d.sc : Int)]
def zV : Value := .agg #[.bool false, .string ⟨#[]⟩, .int .i64 0]
/-- What a call hands back: a decimal and OK; or none and ErrBig. -/
def rV (r : Option Dm.D) : Value := match r with
  | some d => .tuple #[dV d, .int .i64 0]
  | none => .tuple #[zV, .int .i64 3]

set_option maxRecDepth 100000 in
set_option maxHeartbeats 1000000 in
theorem fit_zero (ng : Bool) (b o n c : Nat) (ds : List UInt8) (sc : Int) (w : World) (hn : ds.length = n) (h0 : 0 < n) (hnc : n ≤ c) (hc : c ≤ 9223372036854775807) (hr : Row w b o ds) (h : Dm.tl ds = []) :
    Calls Tryd.prog 42 #[.bool ng, .slice (some ⟨b, o, none⟩) n c, .int .i64 sc] w fun e w' => e = .returned (rV (some ⟨false, [48], 0⟩)) ∧ Below w.heap.size w w' := by
  have hb1 : ∀ O, Below w.heap.size w (w.alloc O) := fun O => (Below.refl _ _).alloc (Nat.le_refl _) _
  have hr1 := fun O => hr.below (hb1 O)
  have HR := hide hr1
  clear hr hr1
  go_enter Tryd.func42, Tryd.ntmps42
  go_wp2_with (go_at_call 60; refine (trimL_none b o n c ds _ hn h0 hnc hc (by exact unhide HR _) h).mono ?_; rintro e w' ⟨rfl, rfl⟩)
  exact bodyPost_ret (v := rV (some ⟨false, [48], 0⟩)) (by simp [results, Tryd.results42, go_sem, rV, dV]) rfl ⟨rfl, hb1 _⟩

set_option maxRecDepth 100000 in
set_option maxHeartbeats 1000000 in
theorem fit_big (ng : Bool) (b o j m k n c : Nat) (ds : List UInt8) (sc : Int) (w : World) (hn : ds.length = n) (hj : n = j + m) (hm : (Dm.tl ds).length = m) (h0 : 0 < m) (hk : (Dm.tr (Dm.tl ds)).length = k) (hnc : n ≤ c) (hc : c ≤ 9223372036854775807) (hn1 : n ≤ 1000000) (hs0 : -1000000 ≤ sc) (hs1 : sc ≤ 1000000) (hr : Row w b o ds)
    (hbig : 60 < sc - ((m : Int) - (k : Int)) ∨ (sc - ((m : Int) - (k : Int)) ≤ 60 ∧ 0 ≤ sc - ((m : Int) - (k : Int)) ∧ 60 < (k : Int)) ∨ (sc - ((m : Int) - (k : Int)) < 0 ∧ 60 < (k : Int) + -(sc - ((m : Int) - (k : Int))))) :
    Calls Tryd.prog 42 #[.bool ng, .slice (some ⟨b, o, none⟩) n c, .int .i64 sc] w fun e w' => e = .returned (rV none) ∧ Below w.heap.size w w' := by
  have hb1 : ∀ O, Below w.heap.size w (w.alloc O) := fun O => (Below.refl _ _).alloc (Nat.le_refl _) _
  have hkm : k ≤ m := by rw [← hk, ← hm]; exact Dm.tr_le _
  have hr1 := fun O => hr.below (hb1 O)
  have hr2 : ∀ O, Row (w.alloc O) b (o + j) (Dm.tl ds) := by
    intro O
    obtain ⟨j', hj'⟩ := Dm.tl_spec ds
    have e : j' = j := by
      have := congrArg List.length hj'
      simp only [List.length_append, List.length_replicate] at this
      omega
    subst e
    have := (hr1 O).drop j'
    rw [hj'] at this
    simpa using this
  have HR := hide hr1
  have HR2 := hide hr2
  have HN := hide hn
  have HJ := hide hj
  have HM := hide hm
  have HK := hide hk
  have b1 : (m : Int) ≤ 1000000 := by omega
  have b2 : (k : Int) ≤ (m : Int) := by omega
  have b3 : ((m : Int) == 0) = false := beq_eq_false_iff_ne.2 (by omega)
  clear hr hr1 hr2 hn hj hm hk
  have hg : 60 < sc - ((m : Int) - (k : Int)) ∨ (sc - ((m : Int) - (k : Int)) ≤ 60 ∧ 60 < (k : Int) + max 0 (-(sc - ((m : Int) - (k : Int))))) := by omega
  clear hbig
  rcases hg with g | ⟨g1, g2⟩
  all_goals
    go_enter Tryd.func42, Tryd.ntmps42
    go_wp2_with (first | (go_at_call 60; refine (trimL_some b o j m n c ds _ (unhide HN) (unhide HJ) (unhide HM) h0 hnc hc (by exact unhide HR _)).mono ?_; rintro e w' ⟨rfl, rfl⟩) | (go_at_call 61; refine (trimR_some b (o + j) m (c - j) k (Dm.tl ds) _ (unhide HM) h0 (unhide HK) (by have := unhide HJ; omega) (by omega) (by exact unhide HR2 _)).mono ?_; rintro e w' ⟨rfl, rfl⟩))
    exact bodyPost_ret (v := rV none) (by simp [results, Tryd.results42, go_sem, rV, zV]) rfl ⟨rfl, hb1 _⟩

set_option maxRecDepth 100000 in
set_option maxHeartbeats 1000000 in
theorem fit_ok (ng : Bool) (b o j m k n c : Nat) (ds : List UInt8) (sc : Int) (w : World) (hn : ds.length = n) (hj : n = j + m) (hm : (Dm.tl ds).length = m) (h0 : 0 < m) (hk : (Dm.tr (Dm.tl ds)).length = k) (hnc : n ≤ c) (hc : c ≤ 9223372036854775807) (hn1 : n ≤ 1000000) (hs0 : -1000000 ≤ sc) (hs1 : sc ≤ 1000000) (hr : Row w b o ds)
    (g1 : sc - ((m : Int) - (k : Int)) ≤ 60) (g2 : (k : Int) + max 0 (-(sc - ((m : Int) - (k : Int)))) ≤ 60) :
    Calls Tryd.prog 42 #[.bool ng, .slice (some ⟨b, o, none⟩) n c, .int .i64 sc] w fun e w' => e = .returned (.tuple #[.agg #[.bool ng, .string ⟨(Dm.tr (Dm.tl ds) ++ List.replicate (max 0 (-(sc - ((m : Int) - (k : Int))))).toNat 48).toArray⟩, .int .i64 (max 0 (sc - ((m : Int) - (k : Int))))], .int .i64 0]) ∧ Below w.heap.size w w' := by
  have hb1 : ∀ O, Below w.heap.size w (w.alloc O) := fun O => (Below.refl _ _).alloc (Nat.le_refl _) _
  have hkm : k ≤ m := by rw [← hk, ← hm]; exact Dm.tr_le _
  have hr1 := fun O => hr.below (hb1 O)
  have hr2 : ∀ O, Row (w.alloc O) b (o + j) (Dm.tl ds) := by
    intro O
    obtain ⟨j', hj'⟩ := Dm.tl_spec ds
    have e : j' = j := by
      have := congrArg List.length hj'
      simp only [List.length_append, List.length_replicate] at this
      omega
    subst e
    have := (hr1 O).drop j'
    rw [hj'] at this
    simpa using this
  have hr3 : ∀ O, Row (w.alloc O) b (o + j) (Dm.tr (Dm.tl ds)) := by
    intro O
    have := (hr2 O).take k
    rw [Dm.tr_spec (Dm.tl ds), ← hk, List.take_left'] at this
    · exact this
    · rfl
  have HR := hide hr1
  have HR2 := hide hr2
  have HR3 := hide hr3
  have HN := hide hn
  have HJ := hide hj
  have HM := hide hm
  have HK := hide hk
  have b1 : (m : Int) ≤ 1000000 := by omega
  have b2 : (k : Int) ≤ (m : Int) := by omega
  have b3 : ((m : Int) == 0) = false := beq_eq_false_iff_ne.2 (by omega)
  clear hr hr1 hr2 hr3 hn hj hm hk
  have conv : ∀ O, ∀ W, Below (w.heap.size + 1) (w.alloc O) W → (convert 41 9 (.slice (some ⟨b, o + j, none⟩) k (c - j))).run Tryd.prog W = .ok (.string ⟨(Dm.tr (Dm.tl ds)).toArray⟩) W := fun O W hB =>
    conv_row b (o + j) k (c - j) _ W (unhide HK) ((unhide HR3 O).below (by simpa using hB))
  have CV := hide conv
  have hkl : (Dm.tr (Dm.tl ds)).length ≤ 1000000 := by have := unhide HK; omega
  clear conv
  go_enter Tryd.func42, Tryd.ntmps42
  go_upto_region 9 with (first | (go_at_call 60; refine (trimL_some b o j m n c ds _ (unhide HN) (unhide HJ) (unhide HM) h0 hnc hc (by exact unhide HR _)).mono ?_; rintro e w' ⟨rfl, rfl⟩) | (go_at_call 61; refine (trimR_some b (o + j) m (c - j) k (Dm.tl ds) _ (unhide HM) h0 (unhide HK) (by have := unhide HJ; omega) (by omega) (by exact unhide HR2 _)).mono ?_; rintro e w' ⟨rfl, rfl⟩))
  have hz : (w.alloc (.cells #[.bool false, .string ⟨#[]⟩, .int .i64 0] 31)).heap.size = w.heap.size + 1 := by simp
  have c0 := unhide CV _ _ (Below.refl _ (w.alloc (.cells #[.bool false, .string ⟨#[]⟩, .int .i64 0] 31)))
  have c1 := unhide CV _ _ (Below.refl _ (w.alloc (.cells #[.bool false, .string ⟨#[]⟩, .int .i64 0] 31))).drew
  have c2 := unhide CV _ _ (Below.refl _ (w.alloc (.cells #[.bool false, .string ⟨#[]⟩, .int .i64 0] 31))).drew.drew
  go_cut [10] from 39 to 43 (fun s10 wx => s10 = .string ⟨(Dm.tr (Dm.tl ds) ++ List.replicate (max 0 (-(sc - ((m : Int) - (k : Int))))).toNat 48).toArray⟩ ∧ Below (w.heap.size + 1) (w.alloc (.cells #[.bool false, .string ⟨#[]⟩, .int .i64 0] 31)) wx)
  case first =>
    go_region_with (go_at_call 51; refine (repeat_any _ _ (by omega) (by omega)).mono ?_; rintro e w' ⟨rfl, hbw⟩; have hB3 : Below (w.heap.size + 1) (w.alloc (.cells #[.bool false, .string ⟨#[]⟩, .int .i64 0] 31)) w' := (by first | exact (Below.refl _ _).trans (hbw.mono (by simp)) | exact ((Below.refl _ _).drew).trans (hbw.mono (by simp)) | exact ((Below.refl _ _).drew.drew).trans (hbw.mono (by simp))); have c3 := unhide CV _ _ hB3)
    all_goals go_wp2_with fail
    all_goals go_meet
    all_goals exact ⟨congrArg Value.string (str_join _ _), by first | exact hB3 | exact hB3.drew | exact hB3.drew.drew⟩
  case rest =>
  obtain ⟨rfl, hB⟩ := hcut
  have k0 : wc.cell? ⟨w.heap.size, 0, none⟩ = some (.bool false) := by rw [hB.cell (p := ⟨w.heap.size, 0, none⟩) (by simp)]; go_simp
  have k1 : wc.cell? ⟨w.heap.size, 1, none⟩ = some (.string ⟨#[]⟩) := by rw [hB.cell (p := ⟨w.heap.size, 1, none⟩) (by simp)]; go_simp
  have k2 : wc.cell? ⟨w.heap.size, 2, none⟩ = some (.int .i64 0) := by rw [hB.cell (p := ⟨w.heap.size, 2, none⟩) (by simp)]; go_simp
  have f0 : wc.frozen? ⟨w.heap.size, 0, none⟩ = false := by rw [hB.frozen (p := ⟨w.heap.size, 0, none⟩) (by simp)]; go_simp
  have f1 : wc.frozen? ⟨w.heap.size, 1, none⟩ = false := by rw [hB.frozen (p := ⟨w.heap.size, 1, none⟩) (by simp)]; go_simp
  have f2 : wc.frozen? ⟨w.heap.size, 2, none⟩ = false := by rw [hB.frozen (p := ⟨w.heap.size, 2, none⟩) (by simp)]; go_simp
  go_wp2
  refine bodyPost_ret (v := .tuple #[.agg #[.bool ng, .string ⟨(Dm.tr (Dm.tl ds) ++ List.replicate (max 0 (-(sc - ((m : Int) - (k : Int))))).toNat 48).toArray⟩, .int .i64 (max 0 (sc - ((m : Int) - (k : Int))))], .int .i64 0]) ?_ rfl ⟨rfl, ?_⟩
  · simp [results, Tryd.results42, go_sem, k0, k1, k2]
  · exact ((((hb1 _).trans (hB.mono (by omega))).setCell (by simp) _).setCell (by simp) _).setCell (by simp) _

theorem fit_any (ng : Bool) (b o n c : Nat) (ds : List UInt8) (sc : Int) (w : World) (hn : ds.length = n) (h0 : 0 < n) (hnc : n ≤ c) (hc : c ≤ 9223372036854775807) (hn1 : n ≤ 1000000) (hs0 : -1000000 ≤ sc) (hs1 : sc ≤ 1000000) (hr : Row w b o ds) :
    Calls Tryd.prog 42 #[.bool ng, .slice (some ⟨b, o, none⟩) n c, .int .i64 sc] w fun e w' => e = .returned (rV (Dm.fitL ng ds sc)) ∧ Below w.heap.size w w' := by
  by_cases h : Dm.tl ds = []
  · have e : Dm.fitL ng ds sc = some ⟨false, [48], 0⟩ := by unfold Dm.fitL; rw [if_pos h]
    rw [e]; exact fit_zero ng b o n c ds sc w hn h0 hnc hc hr h
  · have hm0 : 0 < (Dm.tl ds).length := by
      cases hd : Dm.tl ds with
      | nil => exact absurd hd h
      | cons => simp
    have hml : (Dm.tl ds).length ≤ n := by
      obtain ⟨j, hj⟩ := Dm.tl_spec ds
      have := congrArg List.length hj
      simp only [List.length_append, List.length_replicate] at this
      omega
    have hkm := Dm.tr_le (Dm.tl ds)
    have ec : (((Dm.tl ds).length - (Dm.tr (Dm.tl ds)).length : Nat) : Int) = ((Dm.tl ds).length : Int) - ((Dm.tr (Dm.tl ds)).length : Int) := by omega
    unfold Dm.fitL
    rw [if_neg h, ec]
    by_cases g : 60 < sc - (((Dm.tl ds).length : Int) - ((Dm.tr (Dm.tl ds)).length : Int)) ∨ 60 < ((Dm.tr (Dm.tl ds)).length : Int) + (-(sc - (((Dm.tl ds).length : Int) - ((Dm.tr (Dm.tl ds)).length : Int)))).toNat
    · rw [if_pos g]
      exact fit_big ng b o (n - (Dm.tl ds).length) (Dm.tl ds).length (Dm.tr (Dm.tl ds)).length n c ds sc w hn (by omega) rfl hm0 rfl hnc hc hn1 hs0 hs1 hr (by omega)
    · rw [if_neg g]
      have := fit_ok ng b o (n - (Dm.tl ds).length) (Dm.tl ds).length (Dm.tr (Dm.tl ds)).length n c ds sc w hn (by omega) rfl hm0 rfl hnc hc hn1 hs0 hs1 hr (by omega) (by omega)
      have e1 : (max 0 (-(sc - (((Dm.tl ds).length : Int) - ((Dm.tr (Dm.tl ds)).length : Int))))).toNat = (-(sc - (((Dm.tl ds).length : Int) - ((Dm.tr (Dm.tl ds)).length : Int)))).toNat := by omega
      have e2 : max 0 (sc - (((Dm.tl ds).length : Int) - ((Dm.tr (Dm.tl ds)).length : Int))) = ((sc - (((Dm.tl ds).length : Int) - ((Dm.tr (Dm.tl ds)).length : Int))).toNat : Int) := by omega
      rw [e1, e2] at this
      exact this
end Go.Proofs.YtppkknmgdahniabDoor

namespace Go.Proofs.YtppkknmgdahniabDoor
set_option maxRecDepth 100000
open Go.RowKit
set_option linter.unusedVariables false
set_option linter.unusedSimpArgs false

theorem below_setCells {B : Nat} {a : World} (b : Nat) (hb : B ≤ b) : ∀ (vs : List Value) (o : Nat) (w : World), Below B a w → Below B a (w.setCells b o vs) := by
  intro vs
  induction vs with
  | nil => intro o w h; exact h
  | cons v vs ih => intro o w h; exact ih _ _ (h.setCell hb v)
theorem bytesWorld_below (W : World) (e : TypeId) (s : ByteArray) : Below W.heap.size W (Lib.bytesWorld W e s) :=
  ⟨rfl, rfl, rfl, by rw [Lib.bytesWorld_size]; omega, fun k hk => Lib.bytesWorld_at_old W e s k hk⟩
theorem appended (l m : List UInt8) (i : Nat) : (l ++ m).getD i 0 = if i < l.length then l.getD i 0 else m.getD (i - l.length) 0 := by
  by_cases h : i < l.length
  · rw [if_pos h]; simp [List.getD, List.getElem?_append_left h]
  · rw [if_neg h]; simp [List.getD, List.getElem?_append_right (Nat.le_of_not_lt h)]

theorem appendText (W : World) (s p : ByteArray) (hs : s.size ≤ 100000) (hp : p.size ≤ 100000) :
    ∃ g c w2, (Builtin.append_ #[41, 9] 41 #[.slice (some ⟨W.heap.size, 0, none⟩) s.size (grownCap W s.size 0 5), .string p]).run Tryd.prog (Lib.bytesWorld W 5 s) = .ok (.slice (some ⟨g, 0, none⟩) (s.size + p.size) c) w2 ∧
      Row w2 g 0 (s.data.toList ++ p.data.toList) ∧ Below W.heap.size W w2 ∧ s.size + p.size ≤ c ∧ c ≤ 9223372036854775807 := by
  obtain ⟨i, hi, hz, hsz, hby⟩ : ∃ i, Tryd.prog.info? 5 = some i ∧ i.zero = some (.int .u8 0) ∧ i.size = 1 ∧ i.bytes = 1 := by
    have : (Tryd.prog.info? 5).map (fun i => (i.zero, i.size, i.bytes)) = some (some (.int .u8 0), 1, 1) := by kernel_rfl
    cases h : Tryd.prog.info? 5 with
    | none => rw [h] at this; cases this
    | some i =>
      rw [h] at this
      simp only [Option.map_some, Option.some.injEq, Prod.mk.injEq] at this
      exact ⟨i, rfl, this.1, this.2.1, this.2.2⟩
  have hls := size_len s
  have hlp := size_len p
  have hb0 := bytesWorld_below W 5 s
  have hge := grownCap_ge W s.size 0 5
  have hml : s.size ≤ maxLen := by unfold maxLen; omega
  have hcm := grownCap_le_maxLen W s.size 0 5 hml
  have hcs : (Lib.bytesCells W 5 s).size = grownCap W s.size 0 5 := by
    unfold Lib.bytesCells
    simp only [Array.size_append, Array.size_map, Array.size_replicate]
    show s.size + _ = _
    omega
  have hsrc := Src.ofString (P := Tryd.prog) (Lib.bytesWorld W 5 s) (tx := 9) Tryd.underlying9 p
  by_cases hroom : s.size + p.size ≤ grownCap W s.size 0 5
  · have hin : ∀ j, j < (byteCells p).length → ((Lib.bytesWorld W 5 s).cell? ⟨W.heap.size, 0 + s.size * 1 + j, none⟩).isSome = true := by
      intro j hj
      rw [byteCells_length] at hj
      simp only [World.cell?, Lib.bytesWorld_at_new]
      have : 0 + s.size * 1 + j < (Lib.bytesCells W 5 s).size := by rw [hcs]; omega
      simp
      omega
    have hfz : ∀ j, j < (byteCells p).length → (Lib.bytesWorld W 5 s).frozen? ⟨W.heap.size, 0 + s.size * 1 + j, none⟩ = false := by
      intro j hj
      rw [byteCells_length] at hj
      have : 0 + s.size * 1 + j < (Lib.bytesCells W 5 s).size := by rw [hcs]; omega
      have hw : (Lib.bytesWorld W 5 s).frozen? ⟨W.heap.size, 0 + s.size * 1 + j, none⟩ = (decide ((Lib.bytesCells W 5 s).size ≤ 0 + s.size * 1 + j) && decide (0 + s.size * 1 + j < (Lib.bytesCells W 5 s).size + 1)) := by
        unfold World.frozen?
        rw [Lib.bytesWorld_at_new]
      rw [hw, decide_eq_false (by omega), Bool.false_and]
    have hr := run_append_room_src (P := Tryd.prog) (Lib.bytesWorld W 5 s) 41 9 41 5 i Tryd.underlying41 hi W.heap.size 0 s.size (grownCap W s.size 0 5) (.string p) p.size (byteCells p) (by rw [hsz]; exact hsrc) hroom (by rw [hsz]; exact hin) (by rw [hsz]; exact hfz)
    rw [hsz] at hr
    refine ⟨W.heap.size, _, _, hr, ?_, below_setCells _ (Nat.le_refl _) _ _ _ hb0, hroom, by unfold maxLen at hcm; omega⟩
    intro j hj
    rw [List.length_append] at hj
    rw [appended, Nat.zero_add j]
    by_cases g : j < s.data.toList.length
    · rw [if_pos g, World.cell?_setCells_out _ _ _ _ _ (by intro _ _; left; simp; omega)]
      have := Lib.bytesWorld_cell W 5 s j (by omega)
      rw [this]
    · rw [if_neg g]
      obtain ⟨q, rfl⟩ : ∃ q, j = s.size + q := ⟨j - s.size, by omega⟩
      have hq : q < (byteCells p).length := by rw [byteCells_length]; omega
      have := World.cell?_setCells_in W.heap.size (byteCells p) (0 + s.size * 1) (Lib.bytesWorld W 5 s) hin q hq
      rw [show 0 + s.size * 1 + q = s.size + q by omega, show 0 + s.size * 1 = 0 + s.size * 1 from rfl] at this
      rw [this, ← hls, Nat.add_sub_cancel_left]
      simp only [byteCells, List.getElem_map]
      simp [List.getD, List.getElem?_eq_getElem (show q < p.data.toList.length by omega)]
  · have hold : (Builtin.firstCells i.size s.size (.slice (some ⟨W.heap.size, 0, none⟩) s.size (grownCap W s.size 0 5))).run Tryd.prog (Lib.bytesWorld W 5 s).drew = .ok (byteCells s).toArray (Lib.bytesWorld W 5 s).drew := by
      have := run_firstCells_some (P := Tryd.prog) (Lib.bytesWorld W 5 s).drew i.size s.size ⟨W.heap.size, 0, none⟩ s.size (grownCap W s.size 0 5) (byteCells s) (by rw [byteCells_length, hsz]; omega) (by
        intro j u hu
        have hjl : j < (byteCells s).length := by
          rcases Nat.lt_or_ge j (byteCells s).length with g | g
          · exact g
          · rw [List.getElem?_eq_none g] at hu; cases hu
        have hj := hjl
        rw [byteCells_length] at hj
        have hc := Lib.bytesWorld_cell W 5 s j hj
        rw [List.getElem?_eq_getElem hjl] at hu
        simp only [Option.some.injEq] at hu
        have e1 : (⟨W.heap.size, 0, none⟩ : Addr).add j = ⟨W.heap.size, j, none⟩ := by rw [Addr.add_lit, Nat.zero_add]
        rw [e1]
        have e2 : (Lib.bytesWorld W 5 s).drew.cell? ⟨W.heap.size, j, none⟩ = (Lib.bytesWorld W 5 s).cell? ⟨W.heap.size, j, none⟩ := rfl
        rw [e2, hc, ← hu]
        simp only [byteCells, List.getElem_map]
        simp [List.getD, List.getElem?_eq_getElem (show j < s.data.toList.length by omega)])
      exact this
    have hlt : grownCap W s.size 0 5 < s.size + p.size := by omega
    have hr := run_append_grow_src (P := Tryd.prog) (Lib.bytesWorld W 5 s) 41 9 41 5 i (.int .u8 0) Tryd.underlying41 hi hz (some ⟨W.heap.size, 0, none⟩) s.size (grownCap W s.size 0 5) (byteCells s) hold (.string p) p.size (byteCells p) (by rw [hsz]; exact hsrc) hlt (by omega) (growslice_fits hlt (by rw [hby]; omega))
    have hge2 := grownCap_ge (Lib.bytesWorld W 5 s) (s.size + p.size) (grownCap W s.size 0 5) 5
    have hml2 : s.size + p.size ≤ maxLen := by unfold maxLen; omega
    have hcm2 := grownCap_le_maxLen (Lib.bytesWorld W 5 s) (s.size + p.size) (grownCap W s.size 0 5) 5 hml2
    refine ⟨_, _, _, hr, ?_, (hb0.drew).alloc (by show W.heap.size ≤ (Lib.bytesWorld W 5 s).heap.size; rw [Lib.bytesWorld_size]; omega) _, hge2, by unfold maxLen at hcm2; omega⟩
    intro j hj
    rw [Nat.zero_add j]
    have hz' : (Lib.bytesWorld W 5 s).heap.size = (Lib.bytesWorld W 5 s).drew.heap.size := rfl
    rw [hz', World.cell?_alloc_at _ _ _ _ rfl]
    have hl : j < (byteCells s ++ byteCells p).length := by
      rw [List.length_append] at hj
      rw [List.length_append, byteCells_length, byteCells_length]; omega
    rw [Array.getElem?_append_left (by simpa using hl)]
    have : byteCells s ++ byteCells p = (s.data.toList ++ p.data.toList).map fun b => Value.int .u8 b.toNat := by simp [byteCells]
    rw [this]
    simp only [List.getElem?_toArray, List.getElem?_map]
    simp [List.getD, List.getElem?_eq_getElem hj]

/-- An append whose run is known. -/
theorem wpList_append_runT {ops : Array Oper} {rest : List Oper} {o : Oper} {a : Act} {Q : Exit → Act → World → Prop} (w : World) (hgd : o.guard = none) (s x : Operand) (t u : TypeId)
    (ho : o.op = .call { callee := .builtin .append, args := #[s, x], argTypes := #[t, u] }) (v y : Value) (hs : a.eval s = v) (hx : a.eval x = y) {v' : Value} {w' : World}
    (hr : (Builtin.append_ #[t, u] o.type #[v, y]).run Tryd.prog w = .ok v' w') (h : wpList Tryd.prog ops Q rest (a.put o.dst v') w') : wpList Tryd.prog ops Q (o :: rest) a w := by
  refine wpList_plain hgd fun K hK => ?_
  unfold Oper.wp execOp
  simp only [ho, resolve, invoke, builtin, Sem.run_bind, Sem.run_pure, Result.andThen_ok, List.map_toArray, List.map_cons, List.map_nil, hs, hx, hr]
  exact hK _ _ h
end Go.Proofs.YtppkknmgdahniabDoor

namespace Go.Proofs.YtppkknmgdahniabDoor
set_option maxRecDepth 100000
open Go.RowKit
set_option linter.unusedVariables false
set_option linter.unusedSimpArgs false

/-- What Parse hands back. -/
def pV (r : Option (Option Dm.D)) : Value := match r with
  | none => .tuple #[zV, .int .i64 4]
  | some r => rV r

theorem cut_b (s p u : ByteArray) (ng : Bool) (w : World) (h1 : Lib.trimPrefix s.data.toList p.data.toList = u.data.toList) (h2 : Lib.hasPrefix s.data.toList p.data.toList = ng) :
    Calls Tryd.prog 35 #[.string s, .string p] w fun e w' => e = .returned (.tuple #[.string u, .bool ng]) ∧ w' = w := by
  have := Tryd.strings_CutPrefix s p w
  rw [h1, h2, Go.Lib.mk_data] at this
  exact this
theorem cutDigits_b (s wh re : ByteArray) (w : World) (hs : s.size ≤ maxLen) (h1 : s.data.toList.takeWhile Dm.isD = wh.data.toList) (h2 : s.data.toList.dropWhile Dm.isD = re.data.toList) :
    Calls Tryd.prog 40 #[.string s] w fun e w' => e = .returned (.tuple #[.string wh, .string re]) ∧ Below w.heap.size w w' := by
  have := cutDigits_any s w hs
  rw [h1, h2, Go.Lib.mk_data, Go.Lib.mk_data] at this
  exact this
theorem exponent_b (s : ByteArray) (t : Int) (b : Bool) (w : World) (hs : s.size ≤ maxLen) (h1 : (Dm.expL s.data.toList).getD 0 = t) (h2 : (Dm.expL s.data.toList).isSome = b) :
    Calls Tryd.prog 41 #[.string s] w fun e w' => e = .returned (.tuple #[.int .i64 t, .bool b]) ∧ Below w.heap.size w w' := by
  have := exponent_any s w hs
  rw [h1, h2] at this
  exact this
def Zb : Obj := .cells #[.bool false, .string ⟨#[]⟩, .int .i64 0] 31
set_option maxRecDepth 100000 in
set_option maxHeartbeats 1000000 in
theorem parse_p1 (s u wh re : ByteArray) (ng : Bool) (w : World) (hu : Lib.trimPrefix s.data.toList [45] = u.data.toList) (hng : Lib.hasPrefix s.data.toList [45] = ng) (hus : u.size ≤ maxLen)
    (hwh : u.data.toList.takeWhile Dm.isD = wh.data.toList) (hre : u.data.toList.dropWhile Dm.isD = re.data.toList) (hbad : wh.toList.isEmpty = true ∨ (wh.toList.isEmpty = false ∧ ∃ h : 1 < wh.size, (wh[0].toNat : Int) = 48)) :
    Calls Tryd.prog 26 #[.string s] w fun e w' => e = .returned (pV none) ∧ Below w.heap.size w w' := by
  have HU := hide hu
  have HN := hide hng
  have H1 := hide hwh
  have H2 := hide hre
  clear hu hng hwh hre
  have hb1 : ∀ O, Below w.heap.size w (w.alloc O) := fun O => (Below.refl _ _).alloc (Nat.le_refl _) _
  rcases hbad with hbad | ⟨hb0, hb2, hb3⟩
  · go_enter Tryd.func26, Tryd.ntmps26
    go_wp2_with (first | (go_at_call 35; refine (cut_b s ⟨#[45]⟩ u ng _ (unhide HU) (unhide HN)).mono ?_; rintro e w' ⟨rfl, rfl⟩) | (go_at_call 40; refine (cutDigits_b u wh re _ hus (unhide H1) (unhide H2)).mono ?_; rintro e w' ⟨rfl, hbw⟩; have ho := (Own.start w).step hbw; clear hbw; obtain ⟨k0, k1, k2, f0, f1, f2⟩ := ho.facts))
    exact bodyPost_ret (v := pV none) (by simp [results, Tryd.results26, go_sem, pV, zV, k0, k1, k2]) rfl ⟨rfl, ho.end _ _ _⟩
  · go_enter Tryd.func26, Tryd.ntmps26
    go_wp2_with (first | (go_at_call 35; refine (cut_b s ⟨#[45]⟩ u ng _ (unhide HU) (unhide HN)).mono ?_; rintro e w' ⟨rfl, rfl⟩) | (go_at_call 40; refine (cutDigits_b u wh re _ hus (unhide H1) (unhide H2)).mono ?_; rintro e w' ⟨rfl, hbw⟩; have ho := (Own.start w).step hbw; clear hbw; obtain ⟨k0, k1, k2, f0, f1, f2⟩ := ho.facts))
    exact bodyPost_ret (v := pV none) (by simp [results, Tryd.results26, go_sem, pV, zV, k0, k1, k2]) rfl ⟨rfl, ho.end _ _ _⟩

set_option maxRecDepth 100000 in
set_option maxHeartbeats 1000000 in
theorem parse_p3n (s u wh re : ByteArray) (ng : Bool) (w : World) (hu : Lib.trimPrefix s.data.toList [45] = u.data.toList) (hng : Lib.hasPrefix s.data.toList [45] = ng) (hus : u.size ≤ maxLen)
    (hwh : u.data.toList.takeWhile Dm.isD = wh.data.toList) (hre : u.data.toList.dropWhile Dm.isD = re.data.toList) (hw0 : wh.toList.isEmpty = false) (hw1 : ¬ 1 < wh.size ∨ ∃ h : 1 < wh.size, ¬ (wh[0].toNat : Int) = 48)
    (hrs : re.size ≤ maxLen) (hp1 : Lib.trimPrefix re.data.toList [46] = re.data.toList) (hp2 : Lib.hasPrefix re.data.toList [46] = false) (he : Dm.expL re.data.toList = none) :
    Calls Tryd.prog 26 #[.string s] w fun e w' => e = .returned (pV none) ∧ Below w.heap.size w w' := by
  have HU := hide hu
  have HN := hide hng
  have H1 := hide hwh
  have H2 := hide hre
  have HP1 := hide hp1
  have HP2 := hide hp2
  clear hu hng hwh hre hp1 hp2
  have HE1 : Hid ((Dm.expL re.data.toList).getD 0 = 0) := by rw [he]; rfl
  have HE2 : Hid ((Dm.expL re.data.toList).isSome = false) := by rw [he]; rfl
  clear he
  have tok1 : True := trivial
  have tok2 : True := trivial
  rcases hw1 with hw1 | ⟨hw1, hw2⟩
  all_goals
    go_enter Tryd.func26, Tryd.ntmps26
    go_wp2_with (first | (go_at_call 35; have _t := tok1; refine (cut_b s ⟨#[45]⟩ u ng _ (unhide HU) (unhide HN)).mono ?_; rintro e w' ⟨rfl, rfl⟩; clear tok1 _t) | (go_at_call 40; have _t := tok2; refine (cutDigits_b u wh re _ hus (unhide H1) (unhide H2)).mono ?_; rintro e w' ⟨rfl, hbw⟩; have ho := (Own.start w).step hbw; clear tok2 _t hbw; obtain ⟨k0, k1, k2, f0, f1, f2⟩ := ho.facts) | (go_at_call 35; refine (cut_b re ⟨#[46]⟩ re false _ (unhide HP1) (unhide HP2)).mono ?_; rintro e w' ⟨rfl, rfl⟩) | (go_at_call 41; refine (exponent_b re 0 false _ hrs (unhide HE1) (unhide HE2)).mono ?_; rintro e w' ⟨rfl, hbw⟩; have ho1 := ho.step hbw; clear hbw ho k0 k1 k2 f0 f1 f2; have ho := ho1; clear ho1; obtain ⟨k0, k1, k2, f0, f1, f2⟩ := ho.facts))
    exact bodyPost_ret (v := pV none) (by simp [results, Tryd.results26, go_sem, pV, zV, k0, k1, k2]) rfl ⟨rfl, ho.end _ _ _⟩

theorem fit_n (ng : Bool) (b n c : Nat) (ds : List UInt8) (sc : Int) (w : World) (hn : ds.length = n) (h0 : 0 < n) (hnc : n ≤ c) (hc : c ≤ 9223372036854775807) (hn1 : n ≤ 1000000) (hs0 : -1000000 ≤ sc) (hs1 : sc ≤ 1000000) (hr : Row w b 0 ds) (hf : Dm.fitL ng ds sc = none) :
    Calls Tryd.prog 42 #[.bool ng, .slice (some ⟨b, 0, none⟩) n c, .int .i64 sc] w fun e w' => e = .returned (.tuple #[.agg #[.bool false, .string ⟨#[]⟩, .int .i64 0], .int .i64 3]) ∧ Below w.heap.size w w' := by
  have := fit_any ng b 0 n c ds sc w hn h0 hnc hc hn1 hs0 hs1 hr
  rw [hf] at this; exact this
theorem fit_s (ng : Bool) (b n c : Nat) (ds : List UInt8) (sc : Int) (w : World) (hn : ds.length = n) (h0 : 0 < n) (hnc : n ≤ c) (hc : c ≤ 9223372036854775807) (hn1 : n ≤ 1000000) (hs0 : -1000000 ≤ sc) (hs1 : sc ≤ 1000000) (hr : Row w b 0 ds) (x : Bool) (y : List UInt8) (z : Nat) (hf : Dm.fitL ng ds sc = some ⟨x, y, z⟩) :
    Calls Tryd.prog 42 #[.bool ng, .slice (some ⟨b, 0, none⟩) n c, .int .i64 sc] w fun e w' => e = .returned (.tuple #[.agg #[.bool x, .string ⟨y.toArray⟩, .int .i64 (z : Int)], .int .i64 0]) ∧ Below w.heap.size w w' := by
  have := fit_any ng b 0 n c ds sc w hn h0 hnc hc hn1 hs0 hs1 hr
  rw [hf] at this; exact this
theorem Own.row {w0 w w' : World} (h : Own w0 w) (hb : Below w.heap.size w w') : Own w0 w' := h.step hb

set_option maxRecDepth 100000 in
set_option maxHeartbeats 1000000 in
theorem parse_p3s (s u wh re : ByteArray) (ng : Bool) (w : World) (hu : Lib.trimPrefix s.data.toList [45] = u.data.toList) (hng : Lib.hasPrefix s.data.toList [45] = ng) (hus : u.size ≤ maxLen)
    (hwh : u.data.toList.takeWhile Dm.isD = wh.data.toList) (hre : u.data.toList.dropWhile Dm.isD = re.data.toList) (hw0 : wh.toList.isEmpty = false) (hw1 : ¬ 1 < wh.size ∨ ∃ h : 1 < wh.size, ¬ (wh[0].toNat : Int) = 48)
    (hrs : re.size ≤ maxLen) (hp1 : Lib.trimPrefix re.data.toList [46] = re.data.toList) (hp2 : Lib.hasPrefix re.data.toList [46] = false) (t : Int) (he : Dm.expL re.data.toList = some t) (ht1 : -1000 ≤ t) (ht2 : t ≤ 1000) (hws : wh.size ≤ 100000) :
    Calls Tryd.prog 26 #[.string s] w fun e w' => e = .returned (pV (some (Dm.fitL ng wh.data.toList (0 - t)))) ∧ Below w.heap.size w w' := by
  have HU := hide hu
  have HN := hide hng
  have H1 := hide hwh
  have H2 := hide hre
  have HP1 := hide hp1
  have HP2 := hide hp2
  clear hu hng hwh hre hp1 hp2
  have HE1 : Hid ((Dm.expL re.data.toList).getD 0 = t) := by rw [he]; rfl
  have HE2 : Hid ((Dm.expL re.data.toList).isSome = true) := by rw [he]; rfl
  clear he
  have tok1 : True := trivial
  have tok2 : True := trivial
  have h0 : 0 < wh.size := by
    have : wh.data.toList.isEmpty = false := by rw [← toList_eq]; exact hw0
    rw [size_len]
    cases hd : wh.data.toList with
    | nil => rw [hd] at this; cases this
    | cons => simp
  have hwl : wh.data.toList.length = wh.size := (size_len wh).symm
  have HWL := hide hwl
  clear hwl
  cases hf : Dm.fitL ng wh.data.toList (-t) with
  | none =>
    have HF := hide hf
    have hfin : pV (some (Dm.fitL ng wh.data.toList (0 - t))) = .tuple #[.agg #[.bool false, .string ⟨#[]⟩, .int .i64 0], .int .i64 3] := by rw [show 0 - t = -t by omega, hf]; rfl
    rw [hfin]
    clear hf hfin
    rcases hw1 with hw1 | ⟨hw1, hw2⟩
    all_goals
      go_enter Tryd.func26, Tryd.ntmps26
      go_wp2_with (first | (go_at_call 35; have _t := tok1; refine (cut_b s ⟨#[45]⟩ u ng _ (unhide HU) (unhide HN)).mono ?_; rintro e w' ⟨rfl, rfl⟩; clear tok1 _t) | (go_at_call 40; have _t := tok2; refine (cutDigits_b u wh re _ hus (unhide H1) (unhide H2)).mono ?_; rintro e w' ⟨rfl, hbw⟩; have ho := (Own.start w).step hbw; clear tok2 _t hbw; obtain ⟨k0, k1, k2, f0, f1, f2⟩ := ho.facts) | (go_at_call 35; refine (cut_b re ⟨#[46]⟩ re false _ (unhide HP1) (unhide HP2)).mono ?_; rintro e w' ⟨rfl, rfl⟩) | (go_at_call 41; refine (exponent_b re t true _ hrs (unhide HE1) (unhide HE2)).mono ?_; rintro e w' ⟨rfl, hbw⟩; have ho1 := ho.step hbw; clear hbw ho k0 k1 k2 f0 f1 f2; have ho := ho1; clear ho1; obtain ⟨k0, k1, k2, f0, f1, f2⟩ := ho.facts))
      have cv := Lib.run_convert_string_bytes (P := Tryd.prog) w' 9 41 5 wh Tryd.underlying9 Tryd.underlying41 Tryd.underlying5
      obtain ⟨g, c, w2, hr, hrow, hbel, hc1, hc2⟩ := appendText w' wh ⟨#[]⟩ hws (by decide)
      have HR := hide hr
      have HRow := hide hrow
      have ho2 := ho.step hbel
      clear hr hrow hbel
      go_wp2_with (at_builtin; refine wpList_append_runT _ rfl _ _ 41 9 rfl _ _ rfl rfl (unhide HR) ?_)
      refine (fit_n ng g wh.size c wh.data.toList (-t) w2 (unhide HWL) h0 hc1 hc2 (by omega) (by omega) (by omega) (by have := unhide HRow; rw [List.append_nil] at this; exact this) (unhide HF)).mono ?_
      rintro e w3 ⟨rfl, hb3⟩
      have ho3 := ho2.step hb3
      obtain ⟨j0, j1, j2, i0, i1, i2⟩ := ho3.facts
      clear k0 k1 k2 f0 f1 f2 ho ho2 hb3 cv HR HRow
      go_wp2
      exact bodyPost_ret (v := .tuple #[.agg #[.bool false, .string ⟨#[]⟩, .int .i64 0], .int .i64 3]) (by simp [results, Tryd.results26, go_sem, j0, j1, j2]) rfl ⟨rfl, ho3.end _ _ _⟩
  | some d =>
    obtain ⟨x, y, z⟩ := d
    have HF := hide hf
    have hfin : pV (some (Dm.fitL ng wh.data.toList (0 - t))) = .tuple #[.agg #[.bool x, .string ⟨y.toArray⟩, .int .i64 (z : Int)], .int .i64 0] := by rw [show 0 - t = -t by omega, hf]; rfl
    rw [hfin]
    clear hf hfin
    rcases hw1 with hw1 | ⟨hw1, hw2⟩
    all_goals
      go_enter Tryd.func26, Tryd.ntmps26
      go_wp2_with (first | (go_at_call 35; have _t := tok1; refine (cut_b s ⟨#[45]⟩ u ng _ (unhide HU) (unhide HN)).mono ?_; rintro e w' ⟨rfl, rfl⟩; clear tok1 _t) | (go_at_call 40; have _t := tok2; refine (cutDigits_b u wh re _ hus (unhide H1) (unhide H2)).mono ?_; rintro e w' ⟨rfl, hbw⟩; have ho := (Own.start w).step hbw; clear tok2 _t hbw; obtain ⟨k0, k1, k2, f0, f1, f2⟩ := ho.facts) | (go_at_call 35; refine (cut_b re ⟨#[46]⟩ re false _ (unhide HP1) (unhide HP2)).mono ?_; rintro e w' ⟨rfl, rfl⟩) | (go_at_call 41; refine (exponent_b re t true _ hrs (unhide HE1) (unhide HE2)).mono ?_; rintro e w' ⟨rfl, hbw⟩; have ho1 := ho.step hbw; clear hbw ho k0 k1 k2 f0 f1 f2; have ho := ho1; clear ho1; obtain ⟨k0, k1, k2, f0, f1, f2⟩ := ho.facts))
      have cv := Lib.run_convert_string_bytes (P := Tryd.prog) w' 9 41 5 wh Tryd.underlying9 Tryd.underlying41 Tryd.underlying5
      obtain ⟨g, c, w2, hr, hrow, hbel, hc1, hc2⟩ := appendText w' wh ⟨#[]⟩ hws (by decide)
      have HR := hide hr
      have HRow := hide hrow
      have ho2 := ho.step hbel
      clear hr hrow hbel
      go_wp2_with (at_builtin; refine wpList_append_runT _ rfl _ _ 41 9 rfl _ _ rfl rfl (unhide HR) ?_)
      refine (fit_s ng g wh.size c wh.data.toList (-t) w2 (unhide HWL) h0 hc1 hc2 (by omega) (by omega) (by omega) (by have := unhide HRow; rw [List.append_nil] at this; exact this) x y z (unhide HF)).mono ?_
      rintro e w3 ⟨rfl, hb3⟩
      have ho3 := ho2.step hb3
      obtain ⟨j0, j1, j2, i0, i1, i2⟩ := ho3.facts
      clear k0 k1 k2 f0 f1 f2 ho ho2 hb3 cv HR HRow
      go_wp2
      exact bodyPost_ret (v := .tuple #[.agg #[.bool x, .string ⟨y.toArray⟩, .int .i64 (z : Int)], .int .i64 0]) (by simp [results, Tryd.results26, go_sem, j0, j1, j2]) rfl ⟨rfl, ho3.end _ _ _⟩
end Go.Proofs.YtppkknmgdahniabDoor

namespace Go.Proofs.YtppkknmgdahniabDoor
set_option maxRecDepth 100000
open Go.RowKit
set_option linter.unusedVariables false
set_option linter.unusedSimpArgs false

set_option maxRecDepth 100000 in
set_option maxHeartbeats 1000000 in
theorem parse_p3e (s u wh re be pa r2 : ByteArray) (ng : Bool) (w : World) (hu : Lib.trimPrefix s.data.toList [45] = u.data.toList) (hng : Lib.hasPrefix s.data.toList [45] = ng) (hus : u.size ≤ maxLen)
    (hwh : u.data.toList.takeWhile Dm.isD = wh.data.toList) (hre : u.data.toList.dropWhile Dm.isD = re.data.toList) (hw0 : wh.toList.isEmpty = false) (hw1 : ¬ 1 < wh.size ∨ ∃ h : 1 < wh.size, ¬ (wh[0].toNat : Int) = 48)
    (hbs : be.size ≤ maxLen) (hp1 : Lib.trimPrefix re.data.toList [46] = be.data.toList) (hp2 : Lib.hasPrefix re.data.toList [46] = true)
    (hpa : be.data.toList.takeWhile Dm.isD = pa.data.toList) (hr2 : be.data.toList.dropWhile Dm.isD = r2.data.toList)
    (hp0 : pa.toList.isEmpty = true) :
    Calls Tryd.prog 26 #[.string s] w fun e w' => e = .returned (pV none) ∧ Below w.heap.size w w' := by
  have HU := hide hu
  have HN := hide hng
  have H1 := hide hwh
  have H2 := hide hre
  have HP1 := hide hp1
  have HP2 := hide hp2
  have H3 := hide hpa
  have H4 := hide hr2
  clear hu hng hwh hre hp1 hp2 hpa hr2
  have tok1 : True := trivial
  have tok2 : True := trivial
  rcases hw1 with hw1 | ⟨hw1, hw2⟩
  all_goals
    go_enter Tryd.func26, Tryd.ntmps26
    go_wp2_with (first | (go_at_call 35; have _t := tok1; refine (cut_b s ⟨#[45]⟩ u ng _ (unhide HU) (unhide HN)).mono ?_; rintro e w' ⟨rfl, rfl⟩; clear tok1 _t) | (go_at_call 40; have _t := tok2; refine (cutDigits_b u wh re _ hus (unhide H1) (unhide H2)).mono ?_; rintro e w' ⟨rfl, hbw⟩; have ho := (Own.start w).step hbw; clear tok2 _t hbw; obtain ⟨k0, k1, k2, f0, f1, f2⟩ := ho.facts) | (go_at_call 35; refine (cut_b re ⟨#[46]⟩ be true _ (unhide HP1) (unhide HP2)).mono ?_; rintro e w' ⟨rfl, rfl⟩) | (go_at_call 40; refine (cutDigits_b be pa r2 _ hbs (unhide H3) (unhide H4)).mono ?_; rintro e w' ⟨rfl, hbw⟩; have ho1 := ho.step hbw; clear hbw ho k0 k1 k2 f0 f1 f2; have ho := ho1; clear ho1; obtain ⟨k0, k1, k2, f0, f1, f2⟩ := ho.facts))
    exact bodyPost_ret (v := pV none) (by simp [results, Tryd.results26, go_sem, pV, zV, k0, k1, k2]) rfl ⟨rfl, ho.end _ _ _⟩

set_option maxRecDepth 100000 in
set_option maxHeartbeats 1000000 in
theorem parse_p4n (s u wh re be pa r2 : ByteArray) (ng : Bool) (w : World) (hu : Lib.trimPrefix s.data.toList [45] = u.data.toList) (hng : Lib.hasPrefix s.data.toList [45] = ng) (hus : u.size ≤ maxLen)
    (hwh : u.data.toList.takeWhile Dm.isD = wh.data.toList) (hre : u.data.toList.dropWhile Dm.isD = re.data.toList) (hw0 : wh.toList.isEmpty = false) (hw1 : ¬ 1 < wh.size ∨ ∃ h : 1 < wh.size, ¬ (wh[0].toNat : Int) = 48)
    (hbs : be.size ≤ maxLen) (hp1 : Lib.trimPrefix re.data.toList [46] = be.data.toList) (hp2 : Lib.hasPrefix re.data.toList [46] = true)
    (hpa : be.data.toList.takeWhile Dm.isD = pa.data.toList) (hr2 : be.data.toList.dropWhile Dm.isD = r2.data.toList)
    (hp0 : pa.toList.isEmpty = false) (hrs : r2.size ≤ maxLen) (he : Dm.expL r2.data.toList = none) :
    Calls Tryd.prog 26 #[.string s] w fun e w' => e = .returned (pV none) ∧ Below w.heap.size w w' := by
  have HU := hide hu
  have HN := hide hng
  have H1 := hide hwh
  have H2 := hide hre
  have HP1 := hide hp1
  have HP2 := hide hp2
  have H3 := hide hpa
  have H4 := hide hr2
  clear hu hng hwh hre hp1 hp2 hpa hr2
  have tok1 : True := trivial
  have tok2 : True := trivial
  have HE1 : Hid ((Dm.expL r2.data.toList).getD 0 = 0) := by rw [he]; rfl
  have HE2 : Hid ((Dm.expL r2.data.toList).isSome = false) := by rw [he]; rfl
  clear he
  rcases hw1 with hw1 | ⟨hw1, hw2⟩
  all_goals
    go_enter Tryd.func26, Tryd.ntmps26
    go_wp2_with (first | (go_at_call 35; have _t := tok1; refine (cut_b s ⟨#[45]⟩ u ng _ (unhide HU) (unhide HN)).mono ?_; rintro e w' ⟨rfl, rfl⟩; clear tok1 _t) | (go_at_call 40; have _t := tok2; refine (cutDigits_b u wh re _ hus (unhide H1) (unhide H2)).mono ?_; rintro e w' ⟨rfl, hbw⟩; have ho := (Own.start w).step hbw; clear tok2 _t hbw; obtain ⟨k0, k1, k2, f0, f1, f2⟩ := ho.facts) | (go_at_call 35; refine (cut_b re ⟨#[46]⟩ be true _ (unhide HP1) (unhide HP2)).mono ?_; rintro e w' ⟨rfl, rfl⟩) | (go_at_call 40; refine (cutDigits_b be pa r2 _ hbs (unhide H3) (unhide H4)).mono ?_; rintro e w' ⟨rfl, hbw⟩; have ho1 := ho.step hbw; clear hbw ho k0 k1 k2 f0 f1 f2; have ho := ho1; clear ho1; obtain ⟨k0, k1, k2, f0, f1, f2⟩ := ho.facts) | (go_at_call 41; refine (exponent_b r2 0 false _ hrs (unhide HE1) (unhide HE2)).mono ?_; rintro e w' ⟨rfl, hbw⟩; have ho1 := ho.step hbw; clear hbw ho k0 k1 k2 f0 f1 f2; have ho := ho1; clear ho1; obtain ⟨k0, k1, k2, f0, f1, f2⟩ := ho.facts))
    exact bodyPost_ret (v := pV none) (by simp [results, Tryd.results26, go_sem, pV, zV, k0, k1, k2]) rfl ⟨rfl, ho.end _ _ _⟩

set_option maxRecDepth 100000 in
set_option maxHeartbeats 1000000 in
theorem parse_p4s (s u wh re be pa r2 : ByteArray) (ng : Bool) (w : World) (hu : Lib.trimPrefix s.data.toList [45] = u.data.toList) (hng : Lib.hasPrefix s.data.toList [45] = ng) (hus : u.size ≤ maxLen)
    (hwh : u.data.toList.takeWhile Dm.isD = wh.data.toList) (hre : u.data.toList.dropWhile Dm.isD = re.data.toList) (hw0 : wh.toList.isEmpty = false) (hw1 : ¬ 1 < wh.size ∨ ∃ h : 1 < wh.size, ¬ (wh[0].toNat : Int) = 48)
    (hbs : be.size ≤ maxLen) (hp1 : Lib.trimPrefix re.data.toList [46] = be.data.toList) (hp2 : Lib.hasPrefix re.data.toList [46] = true)
    (hpa : be.data.toList.takeWhile Dm.isD = pa.data.toList) (hr2 : be.data.toList.dropWhile Dm.isD = r2.data.toList)
    (hp0 : pa.toList.isEmpty = false) (hrs : r2.size ≤ maxLen) (t : Int) (he : Dm.expL r2.data.toList = some t) (ht1 : -1000 ≤ t) (ht2 : t ≤ 1000) (hws : wh.size ≤ 100000) (hps : pa.size ≤ 100000) :
    Calls Tryd.prog 26 #[.string s] w fun e w' => e = .returned (pV (some (Dm.fitL ng (wh.data.toList ++ pa.data.toList) ((pa.size : Int) - t)))) ∧ Below w.heap.size w w' := by
  have HU := hide hu
  have HN := hide hng
  have H1 := hide hwh
  have H2 := hide hre
  have HP1 := hide hp1
  have HP2 := hide hp2
  have H3 := hide hpa
  have H4 := hide hr2
  clear hu hng hwh hre hp1 hp2 hpa hr2
  have tok1 : True := trivial
  have tok2 : True := trivial
  have HE1 : Hid ((Dm.expL r2.data.toList).getD 0 = t) := by rw [he]; rfl
  have HE2 : Hid ((Dm.expL r2.data.toList).isSome = true) := by rw [he]; rfl
  clear he
  have h0 : 0 < wh.size := by
    have : wh.data.toList.isEmpty = false := by rw [← toList_eq]; exact hw0
    rw [size_len]
    cases hd : wh.data.toList with
    | nil => rw [hd] at this; cases this
    | cons => simp
  have hwl : (wh.data.toList ++ pa.data.toList).length = wh.size + pa.size := by rw [List.length_append, ← size_len, ← size_len]
  have HWL := hide hwl
  clear hwl
  cases hf : Dm.fitL ng (wh.data.toList ++ pa.data.toList) ((pa.size : Int) - t) with
  | none =>
    have HF := hide hf
    clear hf
    rcases hw1 with hw1 | ⟨hw1, hw2⟩
    all_goals
      go_enter Tryd.func26, Tryd.ntmps26
      go_wp2_with (first | (go_at_call 35; have _t := tok1; refine (cut_b s ⟨#[45]⟩ u ng _ (unhide HU) (unhide HN)).mono ?_; rintro e w' ⟨rfl, rfl⟩; clear tok1 _t) | (go_at_call 40; have _t := tok2; refine (cutDigits_b u wh re _ hus (unhide H1) (unhide H2)).mono ?_; rintro e w' ⟨rfl, hbw⟩; have ho := (Own.start w).step hbw; clear tok2 _t hbw; obtain ⟨k0, k1, k2, f0, f1, f2⟩ := ho.facts) | (go_at_call 35; refine (cut_b re ⟨#[46]⟩ be true _ (unhide HP1) (unhide HP2)).mono ?_; rintro e w' ⟨rfl, rfl⟩) | (go_at_call 40; refine (cutDigits_b be pa r2 _ hbs (unhide H3) (unhide H4)).mono ?_; rintro e w' ⟨rfl, hbw⟩; have ho1 := ho.step hbw; clear hbw ho k0 k1 k2 f0 f1 f2; have ho := ho1; clear ho1; obtain ⟨k0, k1, k2, f0, f1, f2⟩ := ho.facts) | (go_at_call 41; refine (exponent_b r2 t true _ hrs (unhide HE1) (unhide HE2)).mono ?_; rintro e w' ⟨rfl, hbw⟩; have ho1 := ho.step hbw; clear hbw ho k0 k1 k2 f0 f1 f2; have ho := ho1; clear ho1; obtain ⟨k0, k1, k2, f0, f1, f2⟩ := ho.facts))
      have cv := Lib.run_convert_string_bytes (P := Tryd.prog) w' 9 41 5 wh Tryd.underlying9 Tryd.underlying41 Tryd.underlying5
      obtain ⟨g, c, w2, hr, hrow, hbel, hc1, hc2⟩ := appendText w' wh pa hws hps
      have HR := hide hr
      have HRow := hide hrow
      have ho2 := ho.step hbel
      clear hr hrow hbel
      rw [cv]
      go_wp2_with (at_builtin; refine wpList_append_runT _ rfl _ _ 41 9 rfl _ _ rfl rfl (unhide HR) ?_)
      refine (fit_n ng g (wh.size + pa.size) c (wh.data.toList ++ pa.data.toList) ((pa.size : Int) - t) w2 (unhide HWL) (by omega) hc1 hc2 (by omega) (by omega) (by omega) (unhide HRow) (unhide HF)).mono ?_
      rintro e w3 ⟨rfl, hb3⟩
      have ho3 := ho2.step hb3
      obtain ⟨j0, j1, j2, i0, i1, i2⟩ := ho3.facts
      clear k0 k1 k2 f0 f1 f2 ho ho2 hb3 cv HR HRow
      go_wp2
      exact bodyPost_ret (v := .tuple #[.agg #[.bool false, .string ⟨#[]⟩, .int .i64 0], .int .i64 3]) (by simp [results, Tryd.results26, go_sem, j0, j1, j2]) rfl ⟨rfl, ho3.end _ _ _⟩
  | some d =>
    obtain ⟨x, y, z⟩ := d
    have HF := hide hf
    clear hf
    rcases hw1 with hw1 | ⟨hw1, hw2⟩
    all_goals
      go_enter Tryd.func26, Tryd.ntmps26
      go_wp2_with (first | (go_at_call 35; have _t := tok1; refine (cut_b s ⟨#[45]⟩ u ng _ (unhide HU) (unhide HN)).mono ?_; rintro e w' ⟨rfl, rfl⟩; clear tok1 _t) | (go_at_call 40; have _t := tok2; refine (cutDigits_b u wh re _ hus (unhide H1) (unhide H2)).mono ?_; rintro e w' ⟨rfl, hbw⟩; have ho := (Own.start w).step hbw; clear tok2 _t hbw; obtain ⟨k0, k1, k2, f0, f1, f2⟩ := ho.facts) | (go_at_call 35; refine (cut_b re ⟨#[46]⟩ be true _ (unhide HP1) (unhide HP2)).mono ?_; rintro e w' ⟨rfl, rfl⟩) | (go_at_call 40; refine (cutDigits_b be pa r2 _ hbs (unhide H3) (unhide H4)).mono ?_; rintro e w' ⟨rfl, hbw⟩; have ho1 := ho.step hbw; clear hbw ho k0 k1 k2 f0 f1 f2; have ho := ho1; clear ho1; obtain ⟨k0, k1, k2, f0, f1, f2⟩ := ho.facts) | (go_at_call 41; refine (exponent_b r2 t true _ hrs (unhide HE1) (unhide HE2)).mono ?_; rintro e w' ⟨rfl, hbw⟩; have ho1 := ho.step hbw; clear hbw ho k0 k1 k2 f0 f1 f2; have ho := ho1; clear ho1; obtain ⟨k0, k1, k2, f0, f1, f2⟩ := ho.facts))
      have cv := Lib.run_convert_string_bytes (P := Tryd.prog) w' 9 41 5 wh Tryd.underlying9 Tryd.underlying41 Tryd.underlying5
      obtain ⟨g, c, w2, hr, hrow, hbel, hc1, hc2⟩ := appendText w' wh pa hws hps
      have HR := hide hr
      have HRow := hide hrow
      have ho2 := ho.step hbel
      clear hr hrow hbel
      rw [cv]
      go_wp2_with (at_builtin; refine wpList_append_runT _ rfl _ _ 41 9 rfl _ _ rfl rfl (unhide HR) ?_)
      refine (fit_s ng g (wh.size + pa.size) c (wh.data.toList ++ pa.data.toList) ((pa.size : Int) - t) w2 (unhide HWL) (by omega) hc1 hc2 (by omega) (by omega) (by omega) (unhide HRow) x y z (unhide HF)).mono ?_
      rintro e w3 ⟨rfl, hb3⟩
      have ho3 := ho2.step hb3
      obtain ⟨j0, j1, j2, i0, i1, i2⟩ := ho3.facts
      clear k0 k1 k2 f0 f1 f2 ho ho2 hb3 cv HR HRow
      go_wp2
      exact bodyPost_ret (v := .tuple #[.agg #[.bool x, .string ⟨y.toArray⟩, .int .i64 (z : Int)], .int .i64 0]) (by simp [results, Tryd.results26, go_sem, j0, j1, j2]) rfl ⟨rfl, ho3.end _ _ _⟩
end Go.Proofs.YtppkknmgdahniabDoor

namespace Go.Proofs.YtppkknmgdahniabDoor
set_option maxRecDepth 100000
open Go.RowKit
set_option linter.unusedVariables false
set_option linter.unusedSimpArgs false

theorem expL_bd {l : List UInt8} {t : Int} (h : Dm.expL l = some t) : -100 ≤ t ∧ t ≤ 100 := by
  have key : ∀ (b : Bool) (u : List UInt8), expU b u = some t → -100 ≤ t ∧ t ≤ 100 := by
    intro b u hu
    unfold expU at hu
    by_cases h1 : u.length < 1 ∨ 2 < u.length
    · rw [if_pos h1] at hu; cases hu
    · rw [if_neg h1] at hu
      by_cases h2 : u.all Dm.isD = true
      · rw [if_pos h2] at hu
        have hd := Dm.allD_all.1 h2
        have hn := num_take_lt (l := u) (k := 2) (by omega) (by rw [List.take_of_length_le (by omega)]; exact hd)
        rw [List.take_of_length_le (by omega)] at hn
        injection hu with hu
        cases b
        · simp at hu; omega
        · simp at hu; omega
      · rw [if_neg h2] at hu; cases hu
  cases l with
  | nil => cases h; omega
  | cons c t' =>
    by_cases hc : c = 101 ∨ c = 69
    · by_cases h1 : t'.head? = some 45
      · obtain ⟨u, rfl⟩ : ∃ u, t' = 45 :: u := by
          cases t' with
          | nil => simp at h1
          | cons d u => simp at h1; exact ⟨u, by rw [h1]⟩
        rw [expL_minus hc] at h; exact key _ _ h
      · by_cases h2 : t'.head? = some 43
        · obtain ⟨u, rfl⟩ : ∃ u, t' = 43 :: u := by
            cases t' with
            | nil => simp at h2
            | cons d u => simp at h2; exact ⟨u, by rw [h2]⟩
          rw [expL_plus hc] at h; exact key _ _ h
        · rw [expL_bare hc h1 h2] at h; exact key _ _ h
    · rw [expL_no ⟨fun e => hc (.inl e), fun e => hc (.inr e)⟩] at h; cases h

theorem pre_yes {l : List UInt8} {c : UInt8} (hc : c ≠ 0) (h : l.headD 0 = c) : Lib.hasPrefix l [c] = true ∧ Lib.trimPrefix l [c] = l.tail := by
  cases l with
  | nil => simp at h; exact absurd h.symm hc
  | cons d t =>
    simp at h; subst h
    have : Lib.hasPrefix (d :: t) [d] = true := by simp [Lib.hasPrefix, List.isPrefixOf]
    exact ⟨this, by unfold Lib.trimPrefix; rw [if_pos this]; rfl⟩
theorem pre_no {l : List UInt8} {c : UInt8} (h : l.headD 0 ≠ c) : Lib.hasPrefix l [c] = false ∧ Lib.trimPrefix l [c] = l := by
  have : Lib.hasPrefix l [c] = false := by
    cases l with
    | nil => rfl
    | cons d t =>
      simp only [List.headD_cons] at h
      have e : (c == d) = false := beq_eq_false_iff_ne.2 (Ne.symm h)
      simp [Lib.hasPrefix, List.isPrefixOf, e]
  exact ⟨this, by unfold Lib.trimPrefix; rw [this]; rfl⟩
theorem mk_empty (l : List UInt8) : (⟨l.toArray⟩ : ByteArray).toList.isEmpty = l.isEmpty := by rw [toList_eq]
theorem tw_len (l : List UInt8) : (l.takeWhile Dm.isD).length ≤ l.length ∧ (l.dropWhile Dm.isD).length ≤ l.length := by
  have := congrArg List.length (List.takeWhile_append_dropWhile (p := Dm.isD) (l := l))
  rw [List.length_append] at this
  omega

theorem parseU_any (s u : ByteArray) (ng : Bool) (w : World) (hu : Lib.trimPrefix s.data.toList [45] = u.data.toList) (hng : Lib.hasPrefix s.data.toList [45] = ng) (hus : u.size ≤ 100000) :
    Calls Tryd.prog 26 #[.string s] w fun e w' => e = .returned (pV (Dm.parseU ng u.data.toList)) ∧ Below w.heap.size w w' := by
  have hus' : u.size ≤ maxLen := by unfold maxLen; omega
  have hul := size_len u
  have l1 := tw_len u.data.toList
  have hwh := mk_list (u.data.toList.takeWhile Dm.isD)
  have hre := mk_list (u.data.toList.dropWhile Dm.isD)
  have hws := mk_size (u.data.toList.takeWhile Dm.isD)
  have hrs := mk_size (u.data.toList.dropWhile Dm.isD)
  have hwe := mk_empty (u.data.toList.takeWhile Dm.isD)
  generalize hwhE : (⟨(u.data.toList.takeWhile Dm.isD).toArray⟩ : ByteArray) = wh at *
  generalize hreE : (⟨(u.data.toList.dropWhile Dm.isD).toArray⟩ : ByteArray) = re at *
  clear hwhE hreE
  unfold Dm.parseU
  by_cases hb : u.data.toList.takeWhile Dm.isD = [] ∨ (1 < (u.data.toList.takeWhile Dm.isD).length ∧ (u.data.toList.takeWhile Dm.isD).headD 0 = 48)
  · rw [if_pos hb]
    refine parse_p1 s u wh re ng w hu hng hus' hwh.symm hre.symm ?_
    rcases hb with hb | ⟨h1, h2⟩
    · left; rw [hwe, hb]; rfl
    · right
      have g : 1 < wh.size := by omega
      refine ⟨by rw [hwe]; cases hq : u.data.toList.takeWhile Dm.isD with | nil => rw [hq] at h1; simp at h1 | cons => rfl, g, ?_⟩
      have h0 : 0 < wh.data.toList.length := by rw [hwh]; omega
      rw [ba_get wh 0 (by omega), ← head_get _ h0, hwh, h2]; rfl
  · rw [if_neg hb]
    have hw0 : wh.toList.isEmpty = false := by
      rw [hwe]
      cases hq : u.data.toList.takeWhile Dm.isD with
      | nil => exact absurd (.inl hq) hb
      | cons => rfl
    have hw1 : ¬ 1 < wh.size ∨ ∃ h : 1 < wh.size, ¬ (wh[0].toNat : Int) = 48 := by
      by_cases g : 1 < wh.size
      · right
        refine ⟨g, ?_⟩
        have h0 : 0 < wh.data.toList.length := by rw [hwh]; omega
        rw [ba_get wh 0 (by omega), ← head_get _ h0, hwh]
        exact natne 48 (by omega) (fun e => hb (.inr ⟨by omega, e⟩))
      · exact .inl g
    by_cases hp : (u.data.toList.dropWhile Dm.isD).headD 0 = 46
    · rw [if_pos hp]
      obtain ⟨q2, q1⟩ := pre_yes (by decide) hp
      rw [← hre] at q1 q2
      have l2 := tw_len (u.data.toList.dropWhile Dm.isD).tail
      have l3 : (u.data.toList.dropWhile Dm.isD).tail.length ≤ (u.data.toList.dropWhile Dm.isD).length := by simp
      have hbe := mk_list (u.data.toList.dropWhile Dm.isD).tail
      have hbs := mk_size (u.data.toList.dropWhile Dm.isD).tail
      have hpa := mk_list ((u.data.toList.dropWhile Dm.isD).tail.takeWhile Dm.isD)
      have hps := mk_size ((u.data.toList.dropWhile Dm.isD).tail.takeWhile Dm.isD)
      have hpe := mk_empty ((u.data.toList.dropWhile Dm.isD).tail.takeWhile Dm.isD)
      have hr2 := mk_list ((u.data.toList.dropWhile Dm.isD).tail.dropWhile Dm.isD)
      have hr2s := mk_size ((u.data.toList.dropWhile Dm.isD).tail.dropWhile Dm.isD)
      rw [hre] at q1
      generalize hE1 : (⟨(u.data.toList.dropWhile Dm.isD).tail.toArray⟩ : ByteArray) = be at *
      generalize hE2 : (⟨((u.data.toList.dropWhile Dm.isD).tail.takeWhile Dm.isD).toArray⟩ : ByteArray) = pa at *
      generalize hE3 : (⟨((u.data.toList.dropWhile Dm.isD).tail.dropWhile Dm.isD).toArray⟩ : ByteArray) = r2 at *
      clear hE1 hE2 hE3
      have b1 : be.size ≤ maxLen := by unfold maxLen; omega
      have b2 : r2.size ≤ maxLen := by unfold maxLen; omega
      have p1 : Lib.trimPrefix re.data.toList [46] = be.data.toList := by rw [hre, hbe]; exact q1
      have p3 : be.data.toList.takeWhile Dm.isD = pa.data.toList := by rw [hbe, hpa]
      have p4 : be.data.toList.dropWhile Dm.isD = r2.data.toList := by rw [hbe, hr2]
      by_cases hpn : (u.data.toList.dropWhile Dm.isD).tail.takeWhile Dm.isD = []
      · rw [if_pos hpn]
        exact parse_p3e s u wh re be pa r2 ng w hu hng hus' hwh.symm hre.symm hw0 hw1 b1 p1 q2 p3 p4 (by rw [hpe, hpn]; rfl)
      · rw [if_neg hpn]
        have hp0 : pa.toList.isEmpty = false := by
          rw [hpe]
          cases hq : (u.data.toList.dropWhile Dm.isD).tail.takeWhile Dm.isD with
          | nil => exact absurd hq hpn
          | cons => rfl
        cases he : Dm.expL ((u.data.toList.dropWhile Dm.isD).tail.dropWhile Dm.isD) with
        | none => exact parse_p4n s u wh re be pa r2 ng w hu hng hus' hwh.symm hre.symm hw0 hw1 b1 p1 q2 p3 p4 hp0 b2 (by rw [hr2]; exact he)
        | some t =>
          have hb := expL_bd he
          have := parse_p4s s u wh re be pa r2 ng w hu hng hus' hwh.symm hre.symm hw0 hw1 b1 p1 q2 p3 p4 hp0 b2 t (by rw [hr2]; exact he) (by omega) (by omega) (by omega) (by omega)
          rw [hwh, hpa, hps] at this
          exact this
    · rw [if_neg hp]
      obtain ⟨q2, q1⟩ := pre_no hp
      rw [← hre] at q1 q2
      have b2 : re.size ≤ maxLen := by unfold maxLen; omega
      cases he : Dm.expL (u.data.toList.dropWhile Dm.isD) with
      | none => exact parse_p3n s u wh re ng w hu hng hus' hwh.symm hre.symm hw0 hw1 b2 q1 q2 (by rw [hre]; exact he)
      | some t =>
        have hb := expL_bd he
        have := parse_p3s s u wh re ng w hu hng hus' hwh.symm hre.symm hw0 hw1 b2 q1 q2 t (by rw [hre]; exact he) (by omega) (by omega) (by omega)
        rw [hwh] at this
        exact this
theorem parse_any (s : ByteArray) (w : World) (hs : s.size ≤ 100000) :
    Calls Tryd.prog 26 #[.string s] w fun e w' => e = .returned (pV (Dm.parseL s.data.toList)) ∧ Below w.heap.size w w' := by
  have hl := size_len s
  unfold Dm.parseL
  by_cases h : s.data.toList.headD 0 = 45
  · rw [if_pos h]
    obtain ⟨q2, q1⟩ := pre_yes (by decide) h
    have e := mk_list s.data.toList.tail
    have := parseU_any s ⟨s.data.toList.tail.toArray⟩ true w (by rw [q1]) q2 (by rw [mk_size]; simp; omega)
    exact this
  · rw [if_neg h]
    obtain ⟨q2, q1⟩ := pre_no h
    exact parseU_any s s false w q1 q2 hs
end Go.Proofs.YtppkknmgdahniabDoor

namespace Go.Proofs.YtppkknmgdahniabDoor
set_option maxRecDepth 100000
open Go.RowKit
set_option linter.unusedVariables false
set_option linter.unusedSimpArgs false

/-- A boxed struct of three cells, the first block that a call has laid; what was there before is as it was. -/
def Box3 (w0 : World) (x y z : Value) (w : World) : Prop :=
  Below w0.heap.size w0 w ∧ w0.heap.size < w.heap.size ∧ w.cell? ⟨w0.heap.size, 0, none⟩ = some x ∧ w.cell? ⟨w0.heap.size, 1, none⟩ = some y ∧ w.cell? ⟨w0.heap.size, 2, none⟩ = some z
theorem Box3.start (w : World) (x y z : Value) (t : Nat) : Box3 w x y z (w.alloc (.cells #[x, y, z] t)) :=
  ⟨(Below.refl _ _).alloc (Nat.le_refl _) _, by simp, by go_simp, by go_simp, by go_simp⟩
theorem Box3.step {w0 w w' : World} {x y z : Value} {B : Nat} (h : Box3 w0 x y z w) (hB : w0.heap.size < B) (hb : Below B w w') : Box3 w0 x y z w' := by
  obtain ⟨h1, h2, a, b, c⟩ := h
  refine ⟨h1.trans (hb.mono (by omega)), Nat.lt_of_lt_of_le h2 hb.size, ?_, ?_, ?_⟩
  · rw [hb.cell (p := ⟨w0.heap.size, 0, none⟩) hB]; exact a
  · rw [hb.cell (p := ⟨w0.heap.size, 1, none⟩) hB]; exact b
  · rw [hb.cell (p := ⟨w0.heap.size, 2, none⟩) hB]; exact c
theorem Box3.next {w0 w w' : World} {x y z : Value} (h : Box3 w0 x y z w) (hb : Below w.heap.size w w') : Box3 w0 x y z w' := h.step h.2.1 hb
theorem Box3.alloc {w0 w : World} {x y z : Value} (h : Box3 w0 x y z w) (o : Obj) : Box3 w0 x y z (w.alloc o) := h.next ((Below.refl _ _).alloc (Nat.le_refl _) _)
theorem Box3.drew {w0 w : World} {x y z : Value} (h : Box3 w0 x y z w) : Box3 w0 x y z w.drew := h.next (Below.refl _ _).drew

theorem lt_of_some {w : World} {b : Nat} {o : Obj} (h : w.heap[b]? = some o) : b < w.heap.size := by
  rcases Nat.lt_or_ge b w.heap.size with g | g
  · exact g
  · rw [Array.getElem?_eq_none g] at h; cases h
theorem ownsRow_below {w w' : World} {B : Nat} {e : TypeId} {v : Value} {n : Nat} {xs : List Value} (h : w.ownsRow B e 1 v n xs) (hb : Below w.heap.size w w') : w'.ownsRow B e 1 v n xs := by
  refine ⟨h.1, ?_⟩
  rcases h.2 with g | ⟨g, cap, cur, h1, h2, h3, rest⟩
  · exact .inl g
  · exact .inr ⟨g, cap, cur, h1, h2, (hb.block g (lt_of_some h3)).trans h3, rest⟩
theorem builderAt_below {T e : TypeId} {B b : Nat} {p : Value} {bs : List Value} {w w' : World} (h : Lib.BuilderAt T e B b p bs w) (hb : Below w.heap.size w w') : Lib.BuilderAt T e B b p bs w' := by
  obtain ⟨h1, v, h2, h3, h4⟩ := h
  exact ⟨h1, v, (hb.block b (lt_of_some h2)).trans h2, ownsRow_below h3 hb, h4⟩
theorem isb_below {T e : TypeId} {B b : Nat} {bs : List Value} {w w' : World} (h : Lib.IsBuilder T e B b bs w) (hb : Below w.heap.size w w') : Lib.IsBuilder T e B b bs w' :=
  h.elim (fun x => .inl (builderAt_below x hb)) (fun x => .inr (builderAt_below x hb))
theorem isb_drew {T e : TypeId} {B b : Nat} {bs : List Value} {w : World} (h : Lib.IsBuilder T e B b bs w) : Lib.IsBuilder T e B b bs w.drew := isb_below h (Below.refl _ _).drew
theorem isb_of {T e : TypeId} {B b : Nat} {p : List UInt8} {s : ByteArray} {w : World} (h : Lib.BuilderAt T e B b (.pointer (some ⟨b, 0, none⟩)) (Lib.byteCells p ++ Lib.byteCells s.data.toList) w) : Lib.IsBuilder T e B b (Lib.byteCells (p ++ s.data.toList)) w := by
  rw [Lib.byteCells_append]; exact .inr h

theorem wrap_id {n : Int} (h1 : -1000000000 ≤ n) (h2 : n ≤ 1000000000) : IntKind.i64.wrap n = n := by
  rw [IntKind.wrap_i64]; omega
theorem writeS (b : Nat) (pre : List UInt8) (T : ByteArray) (w : World) (hI : Lib.IsBuilder 43 5 b b (Lib.byteCells pre) w) (hl : pre.length + T.size ≤ 100000) (hb : b ≤ w.heap.size) :
    Calls Tryd.prog 20 #[.pointer (some ⟨b, 0, none⟩), .string T] w fun e w' => e = .returned (.tuple #[.int .i64 T.size, .nilIface]) ∧ Lib.IsBuilder 43 5 b b (Lib.byteCells (pre ++ T.data.toList)) w' ∧ Below b w w' := by
  refine (Tryd.Builder_WriteString b b _ T w hI (by rw [Lib.byteCells_length]; omega) hb).mono ?_
  rintro e w' ⟨rfl, h1, h2⟩
  exact ⟨rfl, isb_of h1, h2⟩
theorem writeB (b : Nat) (pre : List UInt8) (c : UInt8) (w : World) (hI : Lib.IsBuilder 43 5 b b (Lib.byteCells pre) w) (hl : pre.length ≤ 100000) (hb : b ≤ w.heap.size) :
    Calls Tryd.prog 48 #[.pointer (some ⟨b, 0, none⟩), .int .u8 (c.toNat : Int)] w fun e w' => e = .returned .nilIface ∧ Lib.IsBuilder 43 5 b b (Lib.byteCells (pre ++ [c])) w' ∧ Below b w w' := by
  refine (Tryd.Builder_WriteByte b b _ (c.toNat : Int) w hI (by rw [Lib.byteCells_length]; omega) hb).mono ?_
  rintro e w' ⟨rfl, h1, h2⟩
  refine ⟨rfl, ?_, h2⟩
  rw [Lib.byteCells_append]
  exact .inr h1
theorem ret_str {a b : ByteArray} (h : a = b) : Ending.returned (.string a) = .returned (.string b) := by rw [h]
theorem may_b (ng : Bool) (s : ByteArray) (n : Int) (b : Bool) (w : World) (hs : s.size ≤ maxLen) (h : Dm.mayB ng s.data.toList n = b) :
    Calls Tryd.prog 50 #[.agg #[.bool ng, .string s, .int .i64 n]] w fun e w' => e = .returned (.bool b) ∧ Below w.heap.size w w' := by
  have := may_any ng s n w hs
  rw [h] at this; exact this

set_option maxRecDepth 100000 in
set_option maxHeartbeats 1000000 in
theorem print_no (ng : Bool) (s : ByteArray) (n : Int) (w : World) (hs : s.size ≤ maxLen) (h : Dm.mayB ng s.data.toList n = false) :
    Calls Tryd.prog 34 #[.agg #[.bool ng, .string s, .int .i64 n]] w fun e w' => e = .returned (.string ⟨#[]⟩) ∧ Below w.heap.size w w' := by
  have hx := Box3.start w (.bool ng) (.string s) (.int .i64 n) 31
  have H := hide h
  clear h
  go_enter Tryd.func34, Tryd.ntmps34
  go_wp2_with (go_at_call 50; refine (may_b ng s n false _ hs (unhide H)).mono ?_; rintro e w' ⟨rfl, hbw⟩)
  go_ret
  exact ⟨rfl, (hx.next hbw).1⟩

set_option maxRecDepth 100000 in
set_option maxHeartbeats 1000000 in
theorem print_low (ng : Bool) (s : ByteArray) (n : Nat) (w : World) (h : Dm.mayB ng s.data.toList n = true) (hs1 : 1 ≤ s.size) (hs2 : s.size ≤ 60) (hn : n ≤ 60) (hp : s.size ≤ n) :
    Calls Tryd.prog 34 #[.agg #[.bool ng, .string s, .int .i64 n]] w fun e w' => e = .returned (.string ⟨((if ng then [45] else []) ++ ([48, 46] ++ List.replicate (n - s.size) 48 ++ s.data.toList)).toArray⟩) ∧ Below w.heap.size w w' := by
  have hx := Box3.start w (.bool ng) (.string s) (.int .i64 (n : Int)) 31
  have H := hide h
  have hsm : s.size ≤ maxLen := by unfold maxLen; omega
  clear h
  cases ng with
  | false =>
    go_enter Tryd.func34, Tryd.ntmps34
    go_wp2_with (go_at_call 50; refine (may_b false s n true _ hsm (unhide H)).mono ?_; rintro e w2 ⟨rfl, hbw⟩; have hx2 := hx.next hbw; clear hx hbw; obtain ⟨hx0, hxs, c0, c1, c2⟩ := id hx2)
    have hx3 := hx2.alloc (.cells #[.pointer none, .slice none 0 0] 43)
    have hI3 : Lib.IsBuilder 43 5 w2.heap.size w2.heap.size (Lib.byteCells []) (w2.alloc (.cells #[.pointer none, .slice none 0 0] 43)) := Lib.fresh_isBuilder 43 5 w2
    obtain ⟨_, _, d0, d1, d2⟩ := id hx3
    have hz : w2.heap.size ≤ (w2.alloc (.cells #[.pointer none, .slice none 0 0] 43)).heap.size := by simp
    clear c0 c1 c2
    have hwr : IntKind.i64.wrap (-((s.size : Int) - (n : Int))) = -((s.size : Int) - (n : Int)) := wrap_id (by omega) (by omega)
    have hs0 : ((⟨#[48, 46]⟩ : ByteArray) ++ ⟨Array.replicate (-((s.size : Int) - (n : Int))).toNat 48⟩ ++ s).size ≤ 200 := by
      rw [ByteArray.size_append, ByteArray.size_append]
      show 2 + (Array.replicate (-((s.size : Int) - (n : Int))).toNat (48 : UInt8)).size + s.size ≤ 200
      rw [Array.size_replicate]; omega
    have HS := hide hs0
    clear hs0
    go_region_with (first | (go_at_call 51; refine (repeat_any _ _ (by omega) (by omega)).mono ?_; rintro e w4 ⟨rfl, hb4⟩; have hI4 := isb_below (by first | exact hI3 | exact isb_drew hI3) hb4; have hx4 := Box3.next (by first | exact hx3 | exact hx3.drew) hb4; obtain ⟨_, _, d0, d1, d2⟩ := id hx4; have hz4 := Nat.le_trans hz hb4.size) | (go_at_call 20; refine (writeS w2.heap.size [] _ w4 (by exact hI4) (by have := unhide HS; simp only [List.length_nil, List.length_cons]; omega) hz4).mono ?_; rintro e w5 ⟨rfl, hI5, hb5⟩))
    all_goals
      have hx5 := hx4.step hxs hb5
      go_wp2_with (go_at_call 22; refine (Tryd.Builder_String_any w2.heap.size w2.heap.size _ w5 hI5 (Nat.le_trans hz4 hb5.size)).mono ?_; rintro e w6 ⟨rfl, hb6⟩)
      go_ret
      refine ⟨?_, (hx5.step hxs hb6).1⟩
      have e : (-((s.size : Int) - (n : Int))).toNat = n - s.size := by omega
      exact ret_str (by rw [e])
  | true =>
    go_enter Tryd.func34, Tryd.ntmps34
    go_wp2_with (go_at_call 50; refine (may_b true s n true _ hsm (unhide H)).mono ?_; rintro e w2 ⟨rfl, hbw⟩; have hx2 := hx.next hbw; clear hx hbw; obtain ⟨hx0, hxs, c0, c1, c2⟩ := id hx2)
    refine (writeB w2.heap.size [] 45 (w2.alloc (.cells #[.pointer none, .slice none 0 0] 43)) (Lib.fresh_isBuilder 43 5 w2) (by simp) (by simp)).mono ?_
    rintro e w3 ⟨rfl, hI3, hb3⟩
    have hx3 := (hx2.alloc (.cells #[.pointer none, .slice none 0 0] 43)).step hxs hb3
    have hz : w2.heap.size ≤ w3.heap.size := Nat.le_trans (by simp) hb3.size
    obtain ⟨_, _, d0, d1, d2⟩ := id hx3
    clear c0 c1 c2
    go_wp2
    have hwr : IntKind.i64.wrap (-((s.size : Int) - (n : Int))) = -((s.size : Int) - (n : Int)) := wrap_id (by omega) (by omega)
    have hs0 : ((⟨#[48, 46]⟩ : ByteArray) ++ ⟨Array.replicate (-((s.size : Int) - (n : Int))).toNat 48⟩ ++ s).size ≤ 200 := by
      rw [ByteArray.size_append, ByteArray.size_append]
      show 2 + (Array.replicate (-((s.size : Int) - (n : Int))).toNat (48 : UInt8)).size + s.size ≤ 200
      rw [Array.size_replicate]; omega
    have HS := hide hs0
    clear hs0
    go_region_with (first | (go_at_call 51; refine (repeat_any _ _ (by omega) (by omega)).mono ?_; rintro e w4 ⟨rfl, hb4⟩; have hI4 := isb_below (by first | exact hI3 | exact isb_drew hI3) hb4; have hx4 := Box3.next (by first | exact hx3 | exact hx3.drew) hb4; obtain ⟨_, _, d0, d1, d2⟩ := id hx4; have hz4 := Nat.le_trans hz hb4.size) | (go_at_call 20; refine (writeS w2.heap.size [45] _ w4 (by exact hI4) (by have := unhide HS; simp only [List.length_nil, List.length_cons]; omega) hz4).mono ?_; rintro e w5 ⟨rfl, hI5, hb5⟩))
    all_goals
      have hx5 := hx4.step hxs hb5
      go_wp2_with (go_at_call 22; refine (Tryd.Builder_String_any w2.heap.size w2.heap.size _ w5 hI5 (Nat.le_trans hz4 hb5.size)).mono ?_; rintro e w6 ⟨rfl, hb6⟩)
      go_ret
      refine ⟨?_, (hx5.step hxs hb6).1⟩
      have e : (-((s.size : Int) - (n : Int))).toNat = n - s.size := by omega
      exact ret_str (by rw [e])
end Go.Proofs.YtppkknmgdahniabDoor

namespace Go.Proofs.YtppkknmgdahniabDoor
set_option maxRecDepth 100000
open Go.RowKit
set_option linter.unusedVariables false
set_option linter.unusedSimpArgs false

set_option maxRecDepth 100000 in
set_option maxHeartbeats 1000000 in
theorem print_high (ng : Bool) (s : ByteArray) (n : Nat) (w : World) (h : Dm.mayB ng s.data.toList n = true) (hs2 : s.size ≤ 60) (hp : n < s.size) :
    Calls Tryd.prog 34 #[.agg #[.bool ng, .string s, .int .i64 n]] w fun e w' => e = .returned (.string ⟨((if ng then [45] else []) ++ (s.data.toList.take (s.size - n) ++ (if 0 < n then 46 :: s.data.toList.drop (s.size - n) else []))).toArray⟩) ∧ Below w.heap.size w w' := by
  have hx := Box3.start w (.bool ng) (.string s) (.int .i64 (n : Int)) 31
  have H := hide h
  have hsm : s.size ≤ maxLen := by unfold maxLen; omega
  have hge : ¬ (s.size : Int) - (n : Int) ≤ 0 := by omega
  have hT1 : (s.extract 0 (s.size - n)).data.toList = s.data.toList.take (s.size - n) := by
    rw [Go.Lib.extract_data, List.drop_zero, Nat.sub_zero]
  have hT2 : ((⟨#[46]⟩ : ByteArray) ++ s.extract (s.size - n) s.size).data.toList = 46 :: s.data.toList.drop (s.size - n) := by
    rw [ByteArray.data_append, Array.toList_append, Go.Lib.extract_to_end]; rfl
  have hZ1 : (s.extract 0 (s.size - n)).size ≤ 60 := by rw [size_len, hT1, List.length_take]; omega
  have hZ2 : ((⟨#[46]⟩ : ByteArray) ++ s.extract (s.size - n) s.size).size ≤ 61 := by
    rw [size_len, hT2, List.length_cons, List.length_drop, ← size_len]; omega
  have hT3 : List.take (s.size - (s.size - n)) (List.drop (s.size - n) s.data.toList) = List.drop (s.size - n) s.data.toList := List.take_of_length_le (by rw [List.length_drop, ← size_len]; omega)
  have HT1 := hide hT1
  have HT3 := hide hT3
  have HT2 := hide hT2
  have HZ1 := hide hZ1
  have HZ2 := hide hZ2
  clear h
  clear hT1 hT2 hT3 hZ1 hZ2
  cases ng with
  | false =>
    by_cases hn0 : (0 : Int) < (n : Int)
    · go_enter Tryd.func34, Tryd.ntmps34
      go_wp2_with (go_at_call 50; refine (may_b false s n true _ hsm (unhide H)).mono ?_; rintro e w2 ⟨rfl, hbw⟩; have hx2 := hx.next hbw; clear hx hbw; obtain ⟨hx0, hxs, c0, c1, c2⟩ := id hx2)
      have hx3 := hx2.alloc (.cells #[.pointer none, .slice none 0 0] 43)
      have hz : w2.heap.size ≤ (w2.alloc (.cells #[.pointer none, .slice none 0 0] 43)).heap.size := by simp
      clear c0 c1 c2
      refine (writeS w2.heap.size [] (s.extract 0 (s.size - n)) (w2.alloc (.cells #[.pointer none, .slice none 0 0] 43)) (Lib.fresh_isBuilder 43 5 w2) (by have := unhide HZ1; simp only [List.length_nil]; omega) hz).mono ?_
      rintro e w4 ⟨rfl, hI4, hb4⟩
      have hx4 := hx3.step hxs hb4
      have hz4 := Nat.le_trans hz hb4.size
      obtain ⟨_, _, e0, e1, e2⟩ := id hx4
      go_wp2_with fail
      refine (writeS w2.heap.size _ _ w4 hI4 (by have := unhide HZ2; rw [List.length_append, unhide HT1, List.length_take]; simp only [List.length_cons, List.length_nil]; omega) hz4).mono ?_
      rintro e w5 ⟨rfl, hI5, hb5⟩
      have hx5 := hx4.step hxs hb5
      have hz5 := Nat.le_trans hz4 hb5.size
      go_wp2_with fail
      refine (Tryd.Builder_String_any w2.heap.size w2.heap.size _ w5 hI5 hz5).mono ?_
      rintro e w6 ⟨rfl, hb6⟩
      go_wp2_with fail
      go_ret
      refine ⟨?_, (hx5.step hxs hb6).1⟩
      exact ret_str (by rw [unhide HT3])
    · go_enter Tryd.func34, Tryd.ntmps34
      go_wp2_with (go_at_call 50; refine (may_b false s n true _ hsm (unhide H)).mono ?_; rintro e w2 ⟨rfl, hbw⟩; have hx2 := hx.next hbw; clear hx hbw; obtain ⟨hx0, hxs, c0, c1, c2⟩ := id hx2)
      have hx3 := hx2.alloc (.cells #[.pointer none, .slice none 0 0] 43)
      have hz : w2.heap.size ≤ (w2.alloc (.cells #[.pointer none, .slice none 0 0] 43)).heap.size := by simp
      clear c0 c1 c2
      refine (writeS w2.heap.size [] (s.extract 0 (s.size - n)) (w2.alloc (.cells #[.pointer none, .slice none 0 0] 43)) (Lib.fresh_isBuilder 43 5 w2) (by have := unhide HZ1; simp only [List.length_nil]; omega) hz).mono ?_
      rintro e w4 ⟨rfl, hI4, hb4⟩
      have hx4 := hx3.step hxs hb4
      have hz4 := Nat.le_trans hz hb4.size
      obtain ⟨_, _, e0, e1, e2⟩ := id hx4
      go_wp2_with fail
      refine (Tryd.Builder_String_any w2.heap.size w2.heap.size _ w4 hI4 hz4).mono ?_
      rintro e w6 ⟨rfl, hb6⟩
      go_wp2_with fail
      go_ret
      refine ⟨?_, (hx4.step hxs hb6).1⟩
      exact ret_str (by first | rfl | simp)
  | true =>
    by_cases hn0 : (0 : Int) < (n : Int)
    · go_enter Tryd.func34, Tryd.ntmps34
      go_wp2_with (go_at_call 50; refine (may_b true s n true _ hsm (unhide H)).mono ?_; rintro e w2 ⟨rfl, hbw⟩; have hx2 := hx.next hbw; clear hx hbw; obtain ⟨hx0, hxs, c0, c1, c2⟩ := id hx2)
      refine (writeB w2.heap.size [] 45 (w2.alloc (.cells #[.pointer none, .slice none 0 0] 43)) (Lib.fresh_isBuilder 43 5 w2) (by simp) (by simp)).mono ?_
      rintro e w3 ⟨rfl, hI3, hb3⟩
      have hx3 := (hx2.alloc (.cells #[.pointer none, .slice none 0 0] 43)).step hxs hb3
      have hz : w2.heap.size ≤ w3.heap.size := Nat.le_trans (by simp) hb3.size
      obtain ⟨_, _, d0, d1, d2⟩ := id hx3
      clear c0 c1 c2
      go_wp2_with fail
      refine (writeS w2.heap.size [45] (s.extract 0 (s.size - n)) w3 hI3 (by have := unhide HZ1; simp only [List.length_cons, List.length_nil]; omega) hz).mono ?_
      rintro e w4 ⟨rfl, hI4, hb4⟩
      have hx4 := hx3.step hxs hb4
      have hz4 := Nat.le_trans hz hb4.size
      obtain ⟨_, _, e0, e1, e2⟩ := id hx4
      go_wp2_with fail
      refine (writeS w2.heap.size _ _ w4 hI4 (by have := unhide HZ2; rw [List.length_append, unhide HT1, List.length_take]; simp only [List.length_cons, List.length_nil]; omega) hz4).mono ?_
      rintro e w5 ⟨rfl, hI5, hb5⟩
      have hx5 := hx4.step hxs hb5
      have hz5 := Nat.le_trans hz4 hb5.size
      go_wp2_with fail
      refine (Tryd.Builder_String_any w2.heap.size w2.heap.size _ w5 hI5 hz5).mono ?_
      rintro e w6 ⟨rfl, hb6⟩
      go_wp2_with fail
      go_ret
      refine ⟨?_, (hx5.step hxs hb6).1⟩
      exact ret_str (by rw [unhide HT3])
    · go_enter Tryd.func34, Tryd.ntmps34
      go_wp2_with (go_at_call 50; refine (may_b true s n true _ hsm (unhide H)).mono ?_; rintro e w2 ⟨rfl, hbw⟩; have hx2 := hx.next hbw; clear hx hbw; obtain ⟨hx0, hxs, c0, c1, c2⟩ := id hx2)
      refine (writeB w2.heap.size [] 45 (w2.alloc (.cells #[.pointer none, .slice none 0 0] 43)) (Lib.fresh_isBuilder 43 5 w2) (by simp) (by simp)).mono ?_
      rintro e w3 ⟨rfl, hI3, hb3⟩
      have hx3 := (hx2.alloc (.cells #[.pointer none, .slice none 0 0] 43)).step hxs hb3
      have hz : w2.heap.size ≤ w3.heap.size := Nat.le_trans (by simp) hb3.size
      obtain ⟨_, _, d0, d1, d2⟩ := id hx3
      clear c0 c1 c2
      go_wp2_with fail
      refine (writeS w2.heap.size [45] (s.extract 0 (s.size - n)) w3 hI3 (by have := unhide HZ1; simp only [List.length_cons, List.length_nil]; omega) hz).mono ?_
      rintro e w4 ⟨rfl, hI4, hb4⟩
      have hx4 := hx3.step hxs hb4
      have hz4 := Nat.le_trans hz hb4.size
      obtain ⟨_, _, e0, e1, e2⟩ := id hx4
      go_wp2_with fail
      refine (Tryd.Builder_String_any w2.heap.size w2.heap.size _ w4 hI4 hz4).mono ?_
      rintro e w6 ⟨rfl, hb6⟩
      go_wp2_with fail
      go_ret
      refine ⟨?_, (hx4.step hxs hb6).1⟩
      exact ret_str (by first | rfl | simp)

theorem print_any (d : Dm.D) (w : World) (h : Dm.May d) :
    Calls Tryd.prog 34 #[dV d] w fun e w' => e = .returned (.string ⟨(Dm.printL d).toArray⟩) ∧ Below w.heap.size w w' := by
  have hm := dV_may h
  obtain ⟨l1, l2, l3⟩ := may_len h
  have hsz := mk_size d.ds
  unfold Dm.printL
  by_cases g : d.ds.length ≤ d.sc
  · rw [if_pos g]
    have := print_low d.ng ⟨d.ds.toArray⟩ d.sc w hm (by omega) (by omega) l3 (by omega)
    rw [hsz] at this
    exact this
  · rw [if_neg g]
    have := print_high d.ng ⟨d.ds.toArray⟩ d.sc w hm (by omega) (by omega)
    rw [hsz] at this
    exact this
end Go.Proofs.YtppkknmgdahniabDoor

namespace Go.Proofs.YtppkknmgdahniabDoor
set_option maxRecDepth 100000
open Go.RowKit
set_option linter.unusedVariables false
set_option linter.unusedSimpArgs false

theorem ret_slice {p : Option Addr} {n m : Nat} (h : n = m) : Ending.returned (.slice p n n) = .returned (.slice p m m) := by rw [h]
theorem ret_int {k : IntKind} {a b : Int} (h : a = b) : Ending.returned (.int k a) = .returned (.int k b) := by rw [h]
def AddInv (w0 : World) (x1 x2 x3 x4 x5 x6 : Value) (g cnt A B : Nat) (sg : Int) (k : Nat) (cy : Int) (wr : World) : Prop :=
  ∃ L : List UInt8, L.length = cnt ∧ Dm.allD (L.drop (cnt - k)) ∧ ((A % 10 ^ k : Nat) : Int) + sg * ((B % 10 ^ k : Nat) : Int) = (Dm.num (L.drop (cnt - k)) : Int) + cy * Dm.p10 k ∧
    Row wr g 0 L ∧ (∀ j, j < cnt → wr.frozen? ⟨g, j, none⟩ = false) ∧ Two w0 x1 x2 x3 x4 x5 x6 wr ∧ w0.heap.size + 1 < g

theorem AddInv.step {w0 : World} {x1 x2 x3 x4 x5 x6 : Value} {g cnt A B : Nat} {sg : Int} {k : Nat} {cy : Int} {wr : World} (h : AddInv w0 x1 x2 x3 x4 x5 x6 g cnt A B sg k cy wr) (hk : k < cnt)
    (t v : Int) (ht0 : 0 ≤ t) (ht : t = ((A / 10 ^ k % 10 : Nat) : Int) + sg * ((B / 10 ^ k % 10 : Nat) : Int) + cy + 10) (hv : v = 48 + t % 10) (nq : Nat) :
    AddInv w0 x1 x2 x3 x4 x5 x6 g cnt A B sg (k + 1) (t / 10 - 1) ((wr.drewN nq).setCell ⟨g, cnt - 1 - k, none⟩ (.int .u8 v)) := by
  obtain ⟨L, hL, hLd, heq, hrow, hfz, htw, hg⟩ := h
  have hc : (UInt8.ofNat v.toNat).toNat = v.toNat := UInt8.toNat_ofNat_of_lt' (by show v.toNat < 256; omega)
  have hcv : (((UInt8.ofNat v.toNat).toNat : Nat) : Int) = v := by omega
  have hdv : Dm.dv (UInt8.ofNat v.toNat) = (t % 10).toNat := by unfold Dm.dv; omega
  have hdD : Dm.isD (UInt8.ofNat v.toNat) = true := Dm.isD_iff.2 (by omega)
  have e1 : cnt - (k + 1) = cnt - 1 - k := by omega
  have e2 : cnt - 1 - k + 1 = cnt - k := by omega
  have hdrop := Dm.drop_set_len (l := L) (j := cnt - 1 - k) (by omega) (UInt8.ofNat v.toNat)
  rw [e2] at hdrop
  refine ⟨L.set (cnt - 1 - k) (UInt8.ofNat v.toNat), by rw [List.length_set]; exact hL, ?_, ?_, ?_, ?_, ?_, hg⟩
  · rw [e1, hdrop]
    exact Dm.allD_cons.2 ⟨hdD, hLd⟩
  · rw [e1, hdrop, Dm.num_cons, hdv]
    have hlen : (L.drop (cnt - k)).length = k := by rw [List.length_drop]; omega
    rw [hlen]
    exact Dm.step_add heq ht ht0
  · have := (Row.below (w' := wr.drewN nq) hrow (Go.below_drewN (Below.refl _ _) nq)).set (cnt - 1 - k) (UInt8.ofNat v.toNat)
    rw [hcv] at this
    exact this
  · intro j hj
    rw [World.frozen?_setCell]
    exact hfz j hj
  · exact htw.step (B := w0.heap.size + 1 + 1) (by omega) ((Go.below_drewN (Below.refl _ _) nq).setCell (by show w0.heap.size + 1 + 1 ≤ g; omega) _)
theorem AddInv.fin {w0 : World} {x1 x2 x3 x4 x5 x6 : Value} {g cnt A B : Nat} {sg : Int} {cy : Int} {wr : World} (h : AddInv w0 x1 x2 x3 x4 x5 x6 g cnt A B sg cnt cy wr) (hsg : sg = 1 ∨ sg = -1) (hc0 : 0 < cnt)
    (hA : A < 10 ^ (cnt - 1)) (hB : B < 10 ^ (cnt - 1)) (hpos : 0 ≤ (A : Int) + sg * (B : Int)) :
    ∃ L : List UInt8, L.length = cnt ∧ Dm.allD L ∧ Row wr g 0 L ∧ (Dm.num L : Int) = (A : Int) + sg * (B : Int) := by
  obtain ⟨L, hL, hLd, heq, hrow, hfz, htw, hg⟩ := h
  have h10 : 10 ^ (cnt - 1) * 10 ≤ 10 ^ cnt := Dm.pow_lt (by omega)
  rw [Nat.sub_self, List.drop_zero] at hLd heq
  rw [Nat.mod_eq_of_lt (show A < 10 ^ cnt by omega), Nat.mod_eq_of_lt (show B < 10 ^ cnt by omega)] at heq
  have hlt := Dm.num_lt hLd
  rw [hL] at hlt
  refine ⟨L, hL, hLd, hrow, ?_⟩
  have hp : Dm.p10 cnt = ((10 ^ cnt : Nat) : Int) := rfl
  have hcy : cy = 0 := by
    rcases Int.lt_trichotomy cy 0 with g1 | g1 | g1
    · exfalso
      have : cy * Dm.p10 cnt ≤ (-1) * Dm.p10 cnt := Int.mul_le_mul_of_nonneg_right (by omega) (by rw [hp]; omega)
      rw [hp] at this heq
      omega
    · exact g1
    · exfalso
      have : 1 * Dm.p10 cnt ≤ cy * Dm.p10 cnt := Int.mul_le_mul_of_nonneg_right (by omega) (by rw [hp]; omega)
      rw [hp] at this heq
      rcases hsg with rfl | rfl <;> omega
  rw [heq, hcy, Int.zero_mul, Int.add_zero]
theorem dAt_b {l : List UInt8} (h : Dm.allD l) {n j k d : Nat} (hj : j ≤ n) (hd : Dm.dAt l ((k : Int) - ((n : Int) - (j : Int))) = d) : Dm.num l * 10 ^ (n - j) / 10 ^ k % 10 = d := by
  rw [← Dm.dAt_nat h, ← hd]
  congr 1
  omega
theorem num_scaled {l : List UInt8} (h : Dm.allD l) {m c : Nat} (hc : l.length + m ≤ c) : Dm.num l * 10 ^ m < 10 ^ c := by
  have h1 := Dm.num_lt h
  have h2 : Dm.num l * 10 ^ m < 10 ^ l.length * 10 ^ m := Nat.mul_lt_mul_of_pos_right h1 (Dm.pow_pos' m)
  rw [← Nat.pow_add] at h2
  exact Nat.lt_of_lt_of_le h2 (Nat.pow_le_pow_right (by omega) hc)

end Go.Proofs.YtppkknmgdahniabDoor

namespace Go.Proofs.YtppkknmgdahniabDoor
set_option maxRecDepth 100000
open Go.RowKit
set_option linter.unusedVariables false
set_option linter.unusedSimpArgs false

def SumInv (w0 : World) (g cnt X m : Nat) (wr : World) : Prop :=
  ∃ S : List Nat, S.length = cnt ∧ Dm.V S = X ∧ (∀ p, p < cnt → S.getD p 0 ≤ m) ∧ Ints wr g S ∧ (∀ j, j < cnt → wr.frozen? ⟨g, j, none⟩ = false) ∧ Below w0.heap.size w0 wr ∧ w0.heap.size ≤ g ∧ g < wr.heap.size
theorem SumInv.step {w0 : World} {g cnt X m : Nat} {wr : World} (h : SumInv w0 g cnt X m wr) {p d e : Nat} (hp : p < cnt) (hd : d ≤ 9) (he : e ≤ 9) (x : Int) (hx : ∀ S : List Nat, S.length = cnt → Ints wr g S → x = ((S.getD p 0 : Nat) : Int) + (d : Int) * (e : Int)) (Y : Nat) (hY : Y = X + d * e * 10 ^ p) :
    SumInv w0 g cnt Y (m + 81) (wr.setCell ⟨g, p, none⟩ (.int .i64 x)) := by
  obtain ⟨S, h1, h2, h3, h4, h5, h6, h7, h8⟩ := h
  have hx' := hx S h1 h4
  have hxe : x = ((S.getD p 0 + d * e : Nat) : Int) := by rw [hx', Int.natCast_add, Int.natCast_mul]
  refine ⟨S.set p (S.getD p 0 + d * e), by rw [List.length_set]; exact h1, ?_, ?_, ?_, ?_, ?_, h7, ?_⟩
  · rw [Dm.V_set _ _ _ (by omega), h2, hY]
  · intro q hq
    have hde : d * e ≤ 9 * 9 := Nat.mul_le_mul hd he
    by_cases g1 : p = q
    · subst g1
      have := h3 p hp
      have e1 : (S.set p (S.getD p 0 + d * e)).getD p 0 = S.getD p 0 + d * e := by simp [List.getD, List.getElem?_set, show p < S.length by omega]
      rw [e1]; omega
    · have := h3 q hq
      have e1 : (S.set p (S.getD p 0 + d * e)).getD q 0 = S.getD q 0 := by simp [List.getD, List.getElem?_set, g1]
      rw [e1]; omega
  · rw [hxe]
    exact h4.set p _
  · intro j hj
    rw [World.frozen?_setCell]
    exact h5 j hj
  · exact h6.setCell h7 _
  · show g < (wr.setCell _ _).heap.size
    simpa [World.setCell] using h8
theorem SumInv.next {w0 : World} {g cnt X m : Nat} {wr w' : World} (h : SumInv w0 g cnt X m wr) (hb : Below wr.heap.size wr w') : SumInv w0 g cnt X m w' := by
  obtain ⟨S, h1, h2, h3, h4, h5, h6, h7, h8⟩ := h
  refine ⟨S, h1, h2, h3, h4.below hb, ?_, h6.trans (hb.mono (by omega)), h7, Nat.lt_of_lt_of_le h8 hb.size⟩
  intro j hj
  rw [hb.frozen (p := ⟨g, j, none⟩) h8]
  exact h5 j hj
theorem SumInv.drew {w0 : World} {g cnt X m : Nat} {wr : World} (h : SumInv w0 g cnt X m wr) : SumInv w0 g cnt X m wr.drew := h.next (Below.refl _ _).drew
theorem SumInv.drewN {w0 : World} {g cnt X m : Nat} {wr : World} (h : SumInv w0 g cnt X m wr) (n : Nat) : SumInv w0 g cnt X m (wr.drewN n) := h.next (Go.below_drewN (Below.refl _ _) n)
theorem SumInv.more {w0 : World} {g cnt X m m' : Nat} {wr : World} (h : SumInv w0 g cnt X m wr) (hm : m ≤ m') : SumInv w0 g cnt X m' wr := by
  obtain ⟨S, h1, h2, h3, h4, h5, h6, h7, h8⟩ := h
  exact ⟨S, h1, h2, fun p hp => Nat.le_trans (h3 p hp) hm, h4, h5, h6, h7, h8⟩
theorem dAt_0 {l : List UInt8} (h : Dm.allD l) {k d : Nat} (hd : Dm.dAt l (k : Int) = d) : Dm.num l / 10 ^ k % 10 = d := by
  have := Dm.dAt_nat h 0 k
  rw [show ((k : Int) - ((0 : Nat) : Int)) = (k : Int) by omega, hd] at this
  simpa using this.symm
/-- Where the digits have come to: the last k are laid, cy is carried. -/
def DigInv (w0 : World) (g g2 cnt : Nat) (S : List Nat) (k cy : Nat) (wr : World) : Prop :=
  ∃ L : List UInt8, L.length = cnt ∧ Dm.allD (L.drop (cnt - k)) ∧ Dm.V (S.take k) = Dm.num (L.drop (cnt - k)) + cy * 10 ^ k ∧ Row wr g2 0 L ∧ (∀ j, j < cnt → wr.frozen? ⟨g2, j, none⟩ = false) ∧ Ints wr g S ∧ Below w0.heap.size w0 wr ∧ w0.heap.size ≤ g ∧ g < g2
theorem DigInv.step {w0 : World} {g g2 cnt : Nat} {S : List Nat} {k cy : Nat} {wr : World} (h : DigInv w0 g g2 cnt S k cy wr) (hk : k < cnt) {t : Nat} (v : Int) (hS : k < S.length) (ht : t = S.getD k 0 + cy) (hv : v = 48 + ((t % 10 : Nat) : Int)) :
    DigInv w0 g g2 cnt S (k + 1) (t / 10) (wr.setCell ⟨g2, cnt - 1 - k, none⟩ (.int .u8 v)) := by
  obtain ⟨L, hL, hLd, heq, hrow, hfz, hI, hB, hg1, hg2⟩ := h
  have hc : (UInt8.ofNat v.toNat).toNat = v.toNat := UInt8.toNat_ofNat_of_lt' (by show v.toNat < 256; omega)
  have hcv : (((UInt8.ofNat v.toNat).toNat : Nat) : Int) = v := by omega
  have hdv : Dm.dv (UInt8.ofNat v.toNat) = t % 10 := by unfold Dm.dv; omega
  have hdD : Dm.isD (UInt8.ofNat v.toNat) = true := Dm.isD_iff.2 (by omega)
  have e1 : cnt - (k + 1) = cnt - 1 - k := by omega
  have e2 : cnt - 1 - k + 1 = cnt - k := by omega
  have hdrop := Dm.drop_set_len (l := L) (j := cnt - 1 - k) (by omega) (UInt8.ofNat v.toNat)
  rw [e2] at hdrop
  refine ⟨L.set (cnt - 1 - k) (UInt8.ofNat v.toNat), by rw [List.length_set]; exact hL, ?_, ?_, ?_, ?_, ?_, hB.setCell (by show w0.heap.size ≤ g2; omega) _, hg1, hg2⟩
  · rw [e1, hdrop]
    exact Dm.allD_cons.2 ⟨hdD, hLd⟩
  · rw [e1, hdrop, Dm.num_cons, hdv, Dm.V_take_succ S k hS]
    have hlen : (L.drop (cnt - k)).length = k := by rw [List.length_drop]; omega
    rw [hlen]
    exact Dm.step_mul heq ht
  · have := hrow.set (cnt - 1 - k) (UInt8.ofNat v.toNat)
    rw [hcv] at this
    exact this
  · intro j hj
    rw [World.frozen?_setCell]
    exact hfz j hj
  · intro p hp
    rw [World.cell?_setCell_other (w := wr) (a := ⟨g2, cnt - 1 - k, none⟩) (b := ⟨g, p, none⟩) (h := by intro q; injection q with q1; omega)]
    exact hI p hp

end Go.Proofs.YtppkknmgdahniabDoor

namespace Go.Proofs.YtppkknmgdahniabDoor
set_option maxRecDepth 100000
open Go.RowKit
set_option linter.unusedVariables false
set_option linter.unusedSimpArgs false

theorem rV_tV (r : Option Dm.D) : rV r = tV r := by cases r <;> rfl
theorem fit_r (ng : Bool) (b n : Nat) (ds : List UInt8) (sc : Int) (w : World) (hn : ds.length = n) (h0 : 0 < n) (hn1 : n ≤ 1000000) (hs0 : -1000000 ≤ sc) (hs1 : sc ≤ 1000000) (hd : Dm.allD ds) (hr : Row w b 0 ds) :
    Calls Tryd.prog 42 #[.bool ng, .slice (some ⟨b, 0, none⟩) n n, .int .i64 sc] w fun e w' => ∃ r, e = .returned (.tuple #[.agg #[.bool (rx r), .string (ry r), .int .i64 (rz r)], .int .i64 (re r)]) ∧ Dm.Rep (Dm.sgn ng (Dm.num ds) * Dm.p10 (-sc).toNat) sc.toNat r ∧ Below w.heap.size w w' := by
  refine (fit_any ng b 0 n n ds sc w hn h0 (Nat.le_refl _) (by omega) hn1 hs0 hs1 hr).mono ?_
  rintro e w' ⟨rfl, hb⟩
  exact ⟨_, by rw [rV_tV]; rfl, Dm.fit_rep ng hd sc, hb⟩

end Go.Proofs.YtppkknmgdahniabDoor

namespace Go.Proofs.YtppkknmgdahniabDoor
set_option maxRecDepth 100000
open Go.RowKit
set_option linter.unusedVariables false
set_option linter.unusedSimpArgs false

end Go.Proofs.YtppkknmgdahniabDoor
