/- What is proved here: what exponent of package dec does, walked; conditions: as each theorem states. -/
import Derived.Test.YtmlmplmghlbdmaaGreatDoorWb
import Derived.Test.YtmlmplmghlbdmaaGreatDoorShelf
namespace Go.Proofs.YtmlmplmghlbdmaaGreatDoor
open Go.RowKit
set_option linter.unusedVariables false
set_option linter.unusedSimpArgs false

def expU (below : Bool) (u : List UInt8) : Option Int :=
  if u.length < 1 ∨ 2 < u.length then none else if u.all Dm.isD then some (if below then -(Dm.num u : Int) else (Dm.num u : Int)) else none
theorem expL_minus {c : UInt8} {u : List UInt8} (h : c = 101 ∨ c = 69) : Dm.expL (c :: 45 :: u) = expU true u := by
  simp only [Dm.expL, expU, if_neg (show ¬ (c ≠ 101 ∧ c ≠ 69) by rcases h with rfl | rfl <;> simp)]
  simp
theorem expL_plus {c : UInt8} {u : List UInt8} (h : c = 101 ∨ c = 69) : Dm.expL (c :: 43 :: u) = expU false u := by
  simp only [Dm.expL, expU, if_neg (show ¬ (c ≠ 101 ∧ c ≠ 69) by rcases h with rfl | rfl <;> simp)]
  simp
theorem expL_bare {c : UInt8} {t : List UInt8} (h : c = 101 ∨ c = 69) (h1 : t.head? ≠ some 45) (h2 : t.head? ≠ some 43) : Dm.expL (c :: t) = expU false t := by
  simp only [Dm.expL, expU, if_neg (show ¬ (c ≠ 101 ∧ c ≠ 69) by rcases h with rfl | rfl <;> simp)]
  have e1 : (t.head? == some 45) = false := by simpa using h1
  have e2 : (t.head? == some 43) = false := by simpa using h2
  simp only [e1, e2, Bool.or_self, Bool.false_eq_true, if_false]
theorem hasPrefix_one (t : List UInt8) (c : UInt8) (n : Nat) (hn : t.length ≤ n) : Lib.hasPrefix (List.take n t) [c] = (t.head? == some c) := by
  rw [List.take_of_length_le hn]
  unfold Lib.hasPrefix
  cases t with
  | nil => rfl
  | cons d u =>
    have : (c == d) = (d == c) := by rw [Bool.eq_iff_iff]; simp only [beq_iff_eq]; exact eq_comm
    simp [List.isPrefixOf, this]
theorem expU_len {b : Bool} {u : List UInt8} (h : u.length < 1 ∨ 2 < u.length) : expU b u = none := if_pos h
theorem expU_bad {b : Bool} {u : List UInt8} {k : Nat} (h : k < u.length) (hd : Dm.isD u[k] = false) : expU b u = none := by
  unfold expU
  have : u.all Dm.isD = false := by
    rw [List.all_eq_false]
    exact ⟨u[k], List.getElem_mem h, by rw [hd]; simp⟩
  rw [this]; simp
theorem expU_ok {b : Bool} {u : List UInt8} (h : 1 ≤ u.length ∧ u.length ≤ 2) (hd : Dm.allD u) : expU b u = some (if b then -(Dm.num u : Int) else (Dm.num u : Int)) := by
  unfold expU
  rw [if_neg (by omega), if_pos (Dm.allD_all.2 hd)]
theorem ret_exp {x : Int} {b : Bool} {r : Option Int} (h : x = r.getD 0) (g : b = r.isSome) : Ending.returned (.tuple #[.int .i64 x, .bool b]) = .returned (.tuple #[.int .i64 (r.getD 0), .bool r.isSome]) := by rw [h, g]
theorem num_take_succ {l : List UInt8} {k : Nat} (h : k < l.length) : Dm.num (l.take (k + 1)) = 10 * Dm.num (l.take k) + Dm.dv l[k] := by
  rw [List.take_succ_eq_append_getElem h, Dm.num_snoc]
theorem num_take_lt {l : List UInt8} {k : Nat} (h : k ≤ 2) (hd : Dm.allD (l.take k)) : Dm.num (l.take k) < 100 := by
  have := Dm.num_lt hd
  have h2 : (l.take k).length ≤ 2 := by rw [List.length_take]; omega
  have : 10 ^ (l.take k).length ≤ 10 ^ 2 := Nat.pow_le_pow_right (by omega) h2
  omega

set_option maxRecDepth 100000 in
set_option maxHeartbeats 1000000 in
theorem exponent_minus (s : ByteArray) (w : World) (c : UInt8) (u : List UInt8) (hl : s.data.toList = c :: 45 :: u) (hc : c = 101 ∨ c = 69) (hs : s.size ≤ maxLen) :
    Calls Tryz.prog 98 #[.string s] w fun e w' => e = .returned (.tuple #[.int .i64 ((expU true u).getD 0), .bool (expU true u).isSome]) ∧ Below w.heap.size w w' := by
  unfold maxLen at hs
  have h2 : s.size = u.length + 2 := by rw [size_len, hl]; simp
  have h0 : s.toList.isEmpty = false := by rw [toList_eq, hl]; rfl
  have hp : Lib.hasPrefix (List.take (s.size - 1) s.data.toList.tail) [45] = true := by
    rw [hasPrefix_one _ _ _ (by rw [hl, h2]; simp), hl]; simp
  have b1 : 2 ≤ s.size := by omega
  have b0 : 0 < s.size := Nat.lt_of_lt_of_le (by decide) b1
  have e0 : s[0]'b0 = c := by rw [ba_get _ _ (by omega)]; simp [hl]
  have HL := hide hl
  have H2 := hide h2
  clear hl
  clear h2
  by_cases hsz : u.length < 1 ∨ 2 < u.length
  · have b2 : ((s.size - 1 - 1 : Nat) : Int) < 1 ∨ 2 < ((s.size - 1 - 1 : Nat) : Int) := by rw [unhide H2]; omega
    rw [expU_len hsz]
    clear hsz
    rcases hc with rfl | rfl
    · have e1 : ((s[0]'b0).toNat : Int) = 101 := by rw [e0]; rfl
      clear e0
      rcases b2 with b2 | b2
      all_goals
        go_enter Tryz.func98, Tryz.ntmps98
        go_wp2_with (go_at_call 60; refine (Tryz.strings_HasPrefix _ _ _).mono ?_; rintro e w' ⟨rfl, rfl⟩)
        go_ret2
        exact ⟨rfl, Below.refl _ _⟩
    · have e1 : ((s[0]'b0).toNat : Int) = 69 := by rw [e0]; rfl
      clear e0
      rcases b2 with b2 | b2
      all_goals
        go_enter Tryz.func98, Tryz.ntmps98
        go_wp2_with (go_at_call 60; refine (Tryz.strings_HasPrefix _ _ _).mono ?_; rintro e w' ⟨rfl, rfl⟩)
        go_ret2
        exact ⟨rfl, Below.refl _ _⟩
  · have b2 : 1 ≤ ((s.size - 1 - 1 : Nat) : Int) := by rw [unhide H2]; omega
    have b3 : ((s.size - 1 - 1 : Nat) : Int) ≤ 2 := by rw [unhide H2]; omega
    have HS := hide hsz
    clear hsz
    have HV : Hid (((s.extract 1 s.size).extract 1 (s.size - 1)).data.toList = u ∧ ((s.extract 1 s.size).extract 1 (s.size - 1)).size = s.size - 1 - 1) := by
      have g : ((s.extract 1 s.size).extract 1 (s.size - 1)).data.toList = u := by
        have hl := unhide HL
        rw [Go.Lib.extract_data, Go.Lib.extract_to_end, hl]
        have := unhide H2
        rw [this]
        simp only [List.drop_succ_cons, List.drop_zero]
        exact List.take_of_length_le (by omega)
      refine hide ⟨g, ?_⟩
      rw [size_len, g, unhide H2]; omega
    have hc' : (s[0]'b0).toNat = 101 ∨ (s[0]'b0).toNat = 69 := by
      rw [e0]; rcases hc with rfl | rfl
      · left; rfl
      · right; rfl
    clear e0 hc
    rcases hc' with e1' | e1'
    all_goals
      have e1 : ((s[0]'b0).toNat : Int) = _ := congrArg Nat.cast e1'
      clear e1'
      go_enter Tryz.func98, Tryz.ntmps98
      go_wp2_with (go_at_call 60; refine (Tryz.strings_HasPrefix _ _ _).mono ?_; rintro e w' ⟨rfl, rfl⟩)
      clear HL H2 h0 hp e1 b1
      generalize (s.extract 1 s.size).extract 1 (s.size - 1) = v at *
      generalize s.size - 1 - 1 = n at *
      go_loop [37, 5, 2] (fun i j t => ∃ k : Nat, k ≤ n ∧ i = .int .i64 k ∧ t = .int .i64 (Dm.num (u.take k) : Int) ∧ Dm.allD (u.take k)) (fun i _ _ => n - (intOf i).toNat)
      case atStart => exact ⟨0, Nat.zero_le _, rfl, by rw [List.take_zero]; rfl, by rw [List.take_zero]; exact Dm.allD_nil⟩
      case round =>
        obtain ⟨k, hk, rfl, rfl, hd⟩ := hrel
        obtain ⟨hvu, hvn⟩ := unhide HV
        have hlu : u.length = n := by rw [← hvu, ← size_len, hvn]
        have hnb : (Dm.num (u.take k) : Int) < 100 := by have := num_take_lt (l := u) (k := k) (by omega) hd; omega
        by_cases hlt : k < n
        · have hkv : k < v.size := by omega
          have hku : k < u.length := by omega
          have hvk : v[k] = u[k] := by rw [ba_get v k hkv]; simp only [hvu]
          have HVK := hide hvk
          have HD := hide hd
          have HVU := hide hvu
          have HVN := hide hvn
          have HLU := hide hlu
          clear hvk hd hvu hvn hlu
          by_cases hg : Dm.isD v[k] = true
          · have hbd := Dm.isD_iff.1 hg
            have h48 : (48 : Int) ≤ (v[k].toNat : Int) := by omega
            have h57 : (v[k].toNat : Int) ≤ 57 := by omega
            clear hbd
            go_wp2_with (go_at_call 55; refine (isDigit_any _ _).mono ?_; rintro e w' ⟨rfl, rfl⟩)
            go_round
            case rel =>
              refine ⟨k + 1, by omega, by go_num, ?_, ?_⟩
              · rw [num_take_succ hku, ← unhide HVK]
                have hdv : (Dm.dv v[k] : Int) = (v[k].toNat : Int) - 48 := by unfold Dm.dv; omega
                exact congrArg (Value.int .i64) (by omega)
              · rw [unhide HVK] at hg
                exact allD_take_succ hku (unhide HD) hg
            case measure => simp [intOf]; omega
          · have hg' : Dm.isD v[k] = false := by simpa using hg
            clear hg
            have hbad : expU true u = none := expU_bad hku (by rw [← unhide HVK]; exact hg')
            have HB := hide hbad
            clear hbad
            go_wp2_with (go_at_call 55; refine (isDigit_any _ _).mono ?_; rintro e w' ⟨rfl, rfl⟩)
            go_ret2
            exact ⟨ret_exp (by rw [unhide HB]; rfl) (by rw [unhide HB]; rfl), Below.refl _ _⟩
        · have hkn : k = u.length := by omega
          have hall : Dm.allD u := by rw [hkn, List.take_length] at hd; exact hd
          have hok := expU_ok (b := true) (u := u) (by omega) hall
          have hnum : Dm.num (u.take k) = Dm.num u := by rw [hkn, List.take_length]
          have HX := hide hok
          have HN := hide hnum
          clear hok hnum hkn hall hvu hvn hlu hd
          go_wp2
          go_ret2
          exact ⟨ret_exp (by rw [unhide HX, unhide HN]; rfl) (by rw [unhide HX]; rfl), Below.refl _ _⟩
set_option maxRecDepth 100000 in
set_option maxHeartbeats 1000000 in
theorem exponent_plus (s : ByteArray) (w : World) (c : UInt8) (u : List UInt8) (hl : s.data.toList = c :: 43 :: u) (hc : c = 101 ∨ c = 69) (hs : s.size ≤ maxLen) :
    Calls Tryz.prog 98 #[.string s] w fun e w' => e = .returned (.tuple #[.int .i64 ((expU false u).getD 0), .bool (expU false u).isSome]) ∧ Below w.heap.size w w' := by
  unfold maxLen at hs
  have h2 : s.size = u.length + 2 := by rw [size_len, hl]; simp
  have h0 : s.toList.isEmpty = false := by rw [toList_eq, hl]; rfl
  have hp : Lib.hasPrefix (List.take (s.size - 1) s.data.toList.tail) [45] = false := by
    rw [hasPrefix_one _ _ _ (by rw [hl, h2]; simp), hl]; simp
  have hp2 : Lib.hasPrefix (List.take (s.size - 1) s.data.toList.tail) [43] = true := by
    rw [hasPrefix_one _ _ _ (by rw [hl, h2]; simp), hl]; simp
  have b1 : 2 ≤ s.size := by omega
  have b0 : 0 < s.size := Nat.lt_of_lt_of_le (by decide) b1
  have e0 : s[0]'b0 = c := by rw [ba_get _ _ (by omega)]; simp [hl]
  have HL := hide hl
  have H2 := hide h2
  clear hl
  clear h2
  by_cases hsz : u.length < 1 ∨ 2 < u.length
  · have b2 : ((s.size - 1 - 1 : Nat) : Int) < 1 ∨ 2 < ((s.size - 1 - 1 : Nat) : Int) := by rw [unhide H2]; omega
    rw [expU_len hsz]
    clear hsz
    rcases hc with rfl | rfl
    · have e1 : ((s[0]'b0).toNat : Int) = 101 := by rw [e0]; rfl
      clear e0
      rcases b2 with b2 | b2
      all_goals
        go_enter Tryz.func98, Tryz.ntmps98
        go_wp2_with (go_at_call 60; refine (Tryz.strings_HasPrefix _ _ _).mono ?_; rintro e w' ⟨rfl, rfl⟩)
        go_ret2
        exact ⟨rfl, Below.refl _ _⟩
    · have e1 : ((s[0]'b0).toNat : Int) = 69 := by rw [e0]; rfl
      clear e0
      rcases b2 with b2 | b2
      all_goals
        go_enter Tryz.func98, Tryz.ntmps98
        go_wp2_with (go_at_call 60; refine (Tryz.strings_HasPrefix _ _ _).mono ?_; rintro e w' ⟨rfl, rfl⟩)
        go_ret2
        exact ⟨rfl, Below.refl _ _⟩
  · have b2 : 1 ≤ ((s.size - 1 - 1 : Nat) : Int) := by rw [unhide H2]; omega
    have b3 : ((s.size - 1 - 1 : Nat) : Int) ≤ 2 := by rw [unhide H2]; omega
    have HS := hide hsz
    clear hsz
    have HV : Hid (((s.extract 1 s.size).extract 1 (s.size - 1)).data.toList = u ∧ ((s.extract 1 s.size).extract 1 (s.size - 1)).size = s.size - 1 - 1) := by
      have g : ((s.extract 1 s.size).extract 1 (s.size - 1)).data.toList = u := by
        have hl := unhide HL
        rw [Go.Lib.extract_data, Go.Lib.extract_to_end, hl]
        have := unhide H2
        rw [this]
        simp only [List.drop_succ_cons, List.drop_zero]
        exact List.take_of_length_le (by omega)
      refine hide ⟨g, ?_⟩
      rw [size_len, g, unhide H2]; omega
    have hc' : (s[0]'b0).toNat = 101 ∨ (s[0]'b0).toNat = 69 := by
      rw [e0]; rcases hc with rfl | rfl
      · left; rfl
      · right; rfl
    clear e0 hc
    rcases hc' with e1' | e1'
    all_goals
      have e1 : ((s[0]'b0).toNat : Int) = _ := congrArg Nat.cast e1'
      clear e1'
      go_enter Tryz.func98, Tryz.ntmps98
      go_wp2_with (go_at_call 60; refine (Tryz.strings_HasPrefix _ _ _).mono ?_; rintro e w' ⟨rfl, rfl⟩)
      clear HL H2 h0 hp hp2 e1 b1
      generalize (s.extract 1 s.size).extract 1 (s.size - 1) = v at *
      generalize s.size - 1 - 1 = n at *
      go_loop [37, 5, 2] (fun i j t => ∃ k : Nat, k ≤ n ∧ i = .int .i64 k ∧ t = .int .i64 (Dm.num (u.take k) : Int) ∧ Dm.allD (u.take k)) (fun i _ _ => n - (intOf i).toNat)
      case atStart => exact ⟨0, Nat.zero_le _, rfl, by rw [List.take_zero]; rfl, by rw [List.take_zero]; exact Dm.allD_nil⟩
      case round =>
        obtain ⟨k, hk, rfl, rfl, hd⟩ := hrel
        obtain ⟨hvu, hvn⟩ := unhide HV
        have hlu : u.length = n := by rw [← hvu, ← size_len, hvn]
        have hnb : (Dm.num (u.take k) : Int) < 100 := by have := num_take_lt (l := u) (k := k) (by omega) hd; omega
        by_cases hlt : k < n
        · have hkv : k < v.size := by omega
          have hku : k < u.length := by omega
          have hvk : v[k] = u[k] := by rw [ba_get v k hkv]; simp only [hvu]
          have HVK := hide hvk
          have HD := hide hd
          have HVU := hide hvu
          have HVN := hide hvn
          have HLU := hide hlu
          clear hvk hd hvu hvn hlu
          by_cases hg : Dm.isD v[k] = true
          · have hbd := Dm.isD_iff.1 hg
            have h48 : (48 : Int) ≤ (v[k].toNat : Int) := by omega
            have h57 : (v[k].toNat : Int) ≤ 57 := by omega
            clear hbd
            go_wp2_with (go_at_call 55; refine (isDigit_any _ _).mono ?_; rintro e w' ⟨rfl, rfl⟩)
            go_round
            case rel =>
              refine ⟨k + 1, by omega, by go_num, ?_, ?_⟩
              · rw [num_take_succ hku, ← unhide HVK]
                have hdv : (Dm.dv v[k] : Int) = (v[k].toNat : Int) - 48 := by unfold Dm.dv; omega
                exact congrArg (Value.int .i64) (by omega)
              · rw [unhide HVK] at hg
                exact allD_take_succ hku (unhide HD) hg
            case measure => simp [intOf]; omega
          · have hg' : Dm.isD v[k] = false := by simpa using hg
            clear hg
            have hbad : expU false u = none := expU_bad hku (by rw [← unhide HVK]; exact hg')
            have HB := hide hbad
            clear hbad
            go_wp2_with (go_at_call 55; refine (isDigit_any _ _).mono ?_; rintro e w' ⟨rfl, rfl⟩)
            go_ret2
            exact ⟨ret_exp (by rw [unhide HB]; rfl) (by rw [unhide HB]; rfl), Below.refl _ _⟩
        · have hkn : k = u.length := by omega
          have hall : Dm.allD u := by rw [hkn, List.take_length] at hd; exact hd
          have hok := expU_ok (b := false) (u := u) (by omega) hall
          have hnum : Dm.num (u.take k) = Dm.num u := by rw [hkn, List.take_length]
          have HX := hide hok
          have HN := hide hnum
          clear hok hnum hkn hall hvu hvn hlu hd
          go_wp2
          go_ret2
          exact ⟨ret_exp (by rw [unhide HX, unhide HN]; rfl) (by rw [unhide HX]; rfl), Below.refl _ _⟩
set_option maxRecDepth 100000 in
set_option maxHeartbeats 1000000 in
theorem exponent_bare (s : ByteArray) (w : World) (c : UInt8) (u : List UInt8) (hl : s.data.toList = c :: u) (q1 : u.head? ≠ some 45) (q2 : u.head? ≠ some 43) (hc : c = 101 ∨ c = 69) (hs : s.size ≤ maxLen) :
    Calls Tryz.prog 98 #[.string s] w fun e w' => e = .returned (.tuple #[.int .i64 ((expU false u).getD 0), .bool (expU false u).isSome]) ∧ Below w.heap.size w w' := by
  unfold maxLen at hs
  have h2 : s.size = u.length + 1 := by rw [size_len, hl]; simp
  have h0 : s.toList.isEmpty = false := by rw [toList_eq, hl]; rfl
  have hp : Lib.hasPrefix (List.take (s.size - 1) s.data.toList.tail) [45] = false := by
    rw [hasPrefix_one _ _ _ (by rw [hl, h2]; simp), hl]; simpa using q1
  have hp2 : Lib.hasPrefix (List.take (s.size - 1) s.data.toList.tail) [43] = false := by
    rw [hasPrefix_one _ _ _ (by rw [hl, h2]; simp), hl]; simpa using q2
  clear q1
  clear q2
  have b1 : 1 ≤ s.size := by omega
  have b0 : 0 < s.size := Nat.lt_of_lt_of_le (by decide) b1
  have e0 : s[0]'b0 = c := by rw [ba_get _ _ (by omega)]; simp [hl]
  have HL := hide hl
  have H2 := hide h2
  clear hl
  clear h2
  by_cases hsz : u.length < 1 ∨ 2 < u.length
  · have b2 : ((s.size - 1 : Nat) : Int) < 1 ∨ 2 < ((s.size - 1 : Nat) : Int) := by rw [unhide H2]; omega
    rw [expU_len hsz]
    clear hsz
    rcases hc with rfl | rfl
    · have e1 : ((s[0]'b0).toNat : Int) = 101 := by rw [e0]; rfl
      clear e0
      rcases b2 with b2 | b2
      all_goals
        go_enter Tryz.func98, Tryz.ntmps98
        go_wp2_with (go_at_call 60; refine (Tryz.strings_HasPrefix _ _ _).mono ?_; rintro e w' ⟨rfl, rfl⟩)
        go_ret2
        exact ⟨rfl, Below.refl _ _⟩
    · have e1 : ((s[0]'b0).toNat : Int) = 69 := by rw [e0]; rfl
      clear e0
      rcases b2 with b2 | b2
      all_goals
        go_enter Tryz.func98, Tryz.ntmps98
        go_wp2_with (go_at_call 60; refine (Tryz.strings_HasPrefix _ _ _).mono ?_; rintro e w' ⟨rfl, rfl⟩)
        go_ret2
        exact ⟨rfl, Below.refl _ _⟩
  · have b2 : 1 ≤ ((s.size - 1 : Nat) : Int) := by rw [unhide H2]; omega
    have b3 : ((s.size - 1 : Nat) : Int) ≤ 2 := by rw [unhide H2]; omega
    have HS := hide hsz
    clear hsz
    have HV : Hid ((s.extract 1 s.size).data.toList = u ∧ (s.extract 1 s.size).size = s.size - 1) := by
      have g : (s.extract 1 s.size).data.toList = u := by
        have hl := unhide HL
        rw [Go.Lib.extract_to_end, hl]
        simp only [List.drop_succ_cons, List.drop_zero]
      refine hide ⟨g, ?_⟩
      rw [size_len, g, unhide H2]; omega
    have hc' : (s[0]'b0).toNat = 101 ∨ (s[0]'b0).toNat = 69 := by
      rw [e0]; rcases hc with rfl | rfl
      · left; rfl
      · right; rfl
    clear e0 hc
    rcases hc' with e1' | e1'
    all_goals
      have e1 : ((s[0]'b0).toNat : Int) = _ := congrArg Nat.cast e1'
      clear e1'
      go_enter Tryz.func98, Tryz.ntmps98
      go_wp2_with (go_at_call 60; refine (Tryz.strings_HasPrefix _ _ _).mono ?_; rintro e w' ⟨rfl, rfl⟩)
      clear HL H2 h0 hp hp2 e1 b1
      generalize s.extract 1 s.size = v at *
      generalize s.size - 1 = n at *
      go_loop [37, 5, 2] (fun i j t => ∃ k : Nat, k ≤ n ∧ i = .int .i64 k ∧ t = .int .i64 (Dm.num (u.take k) : Int) ∧ Dm.allD (u.take k)) (fun i _ _ => n - (intOf i).toNat)
      case atStart => exact ⟨0, Nat.zero_le _, rfl, by rw [List.take_zero]; rfl, by rw [List.take_zero]; exact Dm.allD_nil⟩
      case round =>
        obtain ⟨k, hk, rfl, rfl, hd⟩ := hrel
        obtain ⟨hvu, hvn⟩ := unhide HV
        have hlu : u.length = n := by rw [← hvu, ← size_len, hvn]
        have hnb : (Dm.num (u.take k) : Int) < 100 := by have := num_take_lt (l := u) (k := k) (by omega) hd; omega
        by_cases hlt : k < n
        · have hkv : k < v.size := by omega
          have hku : k < u.length := by omega
          have hvk : v[k] = u[k] := by rw [ba_get v k hkv]; simp only [hvu]
          have HVK := hide hvk
          have HD := hide hd
          have HVU := hide hvu
          have HVN := hide hvn
          have HLU := hide hlu
          clear hvk hd hvu hvn hlu
          by_cases hg : Dm.isD v[k] = true
          · have hbd := Dm.isD_iff.1 hg
            have h48 : (48 : Int) ≤ (v[k].toNat : Int) := by omega
            have h57 : (v[k].toNat : Int) ≤ 57 := by omega
            clear hbd
            go_wp2_with (go_at_call 55; refine (isDigit_any _ _).mono ?_; rintro e w' ⟨rfl, rfl⟩)
            go_round
            case rel =>
              refine ⟨k + 1, by omega, by go_num, ?_, ?_⟩
              · rw [num_take_succ hku, ← unhide HVK]
                have hdv : (Dm.dv v[k] : Int) = (v[k].toNat : Int) - 48 := by unfold Dm.dv; omega
                exact congrArg (Value.int .i64) (by omega)
              · rw [unhide HVK] at hg
                exact allD_take_succ hku (unhide HD) hg
            case measure => simp [intOf]; omega
          · have hg' : Dm.isD v[k] = false := by simpa using hg
            clear hg
            have hbad : expU false u = none := expU_bad hku (by rw [← unhide HVK]; exact hg')
            have HB := hide hbad
            clear hbad
            go_wp2_with (go_at_call 55; refine (isDigit_any _ _).mono ?_; rintro e w' ⟨rfl, rfl⟩)
            go_ret2
            exact ⟨ret_exp (by rw [unhide HB]; rfl) (by rw [unhide HB]; rfl), Below.refl _ _⟩
        · have hkn : k = u.length := by omega
          have hall : Dm.allD u := by rw [hkn, List.take_length] at hd; exact hd
          have hok := expU_ok (b := false) (u := u) (by omega) hall
          have hnum : Dm.num (u.take k) = Dm.num u := by rw [hkn, List.take_length]
          have HX := hide hok
          have HN := hide hnum
          clear hok hnum hkn hall hvu hvn hlu hd
          go_wp2
          go_ret2
          exact ⟨ret_exp (by rw [unhide HX, unhide HN]; rfl) (by rw [unhide HX]; rfl), Below.refl _ _⟩
end Go.Proofs.YtmlmplmghlbdmaaGreatDoor
