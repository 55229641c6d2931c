/- What is proved here: what MayName of package cats, CutPrefix and Clone of the library, and printStep of package path do, walked; conditions: as each theorem states. What is proved here: the ways through readStep of package path, by the texts that a text begins with, and readPlainKey, walked; conditions: as each theorem states. Written by readstep_gen.py. What is proved here: what the closure of Parse does, that takes a step into its row, walked; conditions: as the theorem states. -/
import Derived.Test.YtnagecbepidfiaaGreatDoorZBf
import Derived.Test.YtnagecbepidfiaaGreatDoorZAc
import Derived.Test.YtnagecbepidfiaaGreatDoorZAb
import Derived.Test.YtnagecbepidfiaaGreatDoorZBd
import Derived.Lib.ItoaLen
import Derived.Test.YtnagecbepidfiaaGreatDoorZBe
namespace Go.Proofs.YtnagecbepidfiaaGreatDoor.Np
set_option maxRecDepth 100000
open Go.Proofs.YtnagecbepidfiaaGreatDoor.Nq
open Go.RowKit
set_option linter.unusedVariables false
set_option linter.unusedSimpArgs false

theorem ret_bo {a b : Bool} (h : a = b) : Ending.returned (.bool a) = .returned (.bool b) := by rw [h]
theorem pext {x y : ByteArray} (e : x.data.toList = y.data.toList) : x = y := by
  cases x; cases y
  congr 1
  exact Array.toList_inj.1 e
theorem isLetter_any (c : UInt8) (w : World) : Calls Tryz.prog 112 #[.int .u8 (c.toNat : Int)] w fun e w' => e = .returned (.bool (Cm.letB c)) ∧ w' = w := by
  unfold Cm.letB
  by_cases h1 : 97 ≤ c.toNat
  · go_enter Tryz.func112, Tryz.ntmps112
    go_wp2
    go_ret
    exact ⟨ret_bo (by simp [h1]; omega), rfl⟩
  · rw [decide_eq_false h1]
    go_enter Tryz.func112, Tryz.ntmps112
    go_wp2
    go_ret
    exact ⟨rfl, rfl⟩

theorem isInName_any (c : UInt8) (w : World) : Calls Tryz.prog 113 #[.int .u8 (c.toNat : Int)] w fun e w' => e = .returned (.bool (Cm.inB c)) ∧ w' = w := by
  have C : ∀ b, Cm.letB c = b → ∀ W, Calls Tryz.prog 112 #[.int .u8 (c.toNat : Int)] W fun e w' => e = .returned (.bool b) ∧ w' = W := fun b h W => h ▸ isLetter_any c W
  unfold Cm.inB
  cases hb : Cm.letB c
  · replace C := C _ hb
    clear hb
    by_cases h1 : 48 ≤ c.toNat
    · by_cases h2 : c.toNat ≤ 57
      · have d3 : ((c.toNat : Int) == 95) = false := beq_eq_false_iff_ne.2 (by omega)
        go_enter Tryz.func113, Tryz.ntmps113
        go_wp2_with (go_at_call 112; refine (C _).mono ?_; rintro e w ⟨rfl, rfl⟩)
        go_ret
        exact ⟨ret_bo (by simp [h1, h2]), rfl⟩
      · obtain ⟨q, hq⟩ : ∃ q, decide (c.toNat = 95) = q := ⟨_, rfl⟩
        have d3 : ((c.toNat : Int) == 95) = q := by rw [← hq, Bool.eq_iff_iff]; simp; omega
        rw [hq]
        clear hq
        go_enter Tryz.func113, Tryz.ntmps113
        go_wp2_with (go_at_call 112; refine (C _).mono ?_; rintro e w ⟨rfl, rfl⟩)
        go_ret
        exact ⟨ret_bo (by have h3 : ¬ ((c.toNat : Int) ≤ 57) := (by omega); simp [h1, h2, h3]), rfl⟩
    · obtain ⟨q, hq⟩ : ∃ q, decide (c.toNat = 95) = q := ⟨_, rfl⟩
      have d3 : ((c.toNat : Int) == 95) = q := by rw [← hq, Bool.eq_iff_iff]; simp; omega
      rw [hq]
      clear hq
      go_enter Tryz.func113, Tryz.ntmps113
      go_wp2_with (go_at_call 112; refine (C _).mono ?_; rintro e w ⟨rfl, rfl⟩)
      go_ret
      exact ⟨ret_bo (by simp [h1]), rfl⟩
  · replace C := C _ hb
    clear hb
    go_enter Tryz.func113, Tryz.ntmps113
    go_wp2_with (go_at_call 112; refine (C _).mono ?_; rintro e w ⟨rfl, rfl⟩)
    go_ret
    exact ⟨rfl, rfl⟩

theorem mayName_any (s : ByteArray) (w : World) (hs : s.size ≤ 9223372036854775807) : Calls Tryz.prog 78 #[.string s] w fun e w' => e = .returned (.bool (Cm.nameB s.data.toList)) ∧ w' = w := by
  by_cases h0 : s.size = 0
  · have hz := pempty_yes h0
    have hn : Cm.nameB s.data.toList = false := by
      have : s.data.toList = [] := List.eq_nil_of_length_eq_zero h0
      rw [this]; rfl
    rw [hn]
    clear h0
    go_enter Tryz.func78, Tryz.ntmps78
    go_wp2
    go_ret
    exact ⟨rfl, rfl⟩
  · have hz := pempty_no h0
    have h0' : (0 : Int) < (s.size : Int) := by omega
    by_cases h24 : s.size ≤ 24
    · have d24 : decide (24 < (s.size : Int)) = false := decide_eq_false (by omega)
      have hg : s.data.toList.getD 0 0 = s[0]'(by omega) := by
        have hl : 0 < s.data.toList.length := by rw [Array.length_toList]; exact Nat.pos_of_ne_zero h0
        rw [List.getD, List.getElem?_eq_getElem hl]; rfl
      have hn : Cm.nameB s.data.toList = (Cm.letB (s[0]'(by omega)) && s.data.toList.all Cm.inB) := by
        unfold Cm.nameB
        rw [hg, Array.length_toList, decide_eq_true (show 1 ≤ s.data.size from Nat.pos_of_ne_zero h0), decide_eq_true (show s.data.size ≤ 24 from h24)]
        rfl
      obtain ⟨q, hq⟩ : ∃ q, s.data.toList.all Cm.inB = q := ⟨_, rfl⟩
      rw [hn, hq]
      have HQ := phide hq
      clear hq
      cases hl : Cm.letB (s[0]'(by omega))
      · have C : ∀ W, Calls Tryz.prog 112 #[.int .u8 ((s[0]'(by omega)).toNat : Int)] W fun e w' => e = .returned (.bool false) ∧ w' = W := fun W => hl ▸ isLetter_any _ W
        clear hl hn hg
        go_enter Tryz.func78, Tryz.ntmps78
        go_wp2_with (go_at_call 112; refine (C _).mono ?_; rintro e w ⟨rfl, rfl⟩)
        go_ret
        exact ⟨rfl, rfl⟩
      · have C : ∀ W, Calls Tryz.prog 112 #[.int .u8 ((s[0]'(by omega)).toNat : Int)] W fun e w' => e = .returned (.bool true) ∧ w' = W := fun W => hl ▸ isLetter_any _ W
        clear hl hn hg
        go_enter Tryz.func78, Tryz.ntmps78
        go_wp2_with (go_at_call 112; refine (C _).mono ?_; rintro e w ⟨rfl, rfl⟩)
        clear C
        go_loop [19] (fun i => ∃ k : Nat, k ≤ s.size ∧ i = .int .i64 (k : Int) ∧ (s.data.toList.take k).all Cm.inB = true) (fun i => s.size - (intOf i).toNat)
        case atStart => exact ⟨0, by omega, rfl, rfl⟩
        case round =>
          obtain ⟨k, hk, rfl, hp⟩ := hrel
          by_cases hlt : k < s.size
          · have hts : s.data.toList.take (k + 1) = s.data.toList.take k ++ [s[k]'hlt] := by
              rw [List.take_succ_eq_append_getElem (by rw [Array.length_toList]; exact hlt)]; rfl
            cases hi : Cm.inB (s[k]'hlt)
            · have C : ∀ W, Calls Tryz.prog 113 #[.int .u8 ((s[k]'hlt).toNat : Int)] W fun e w' => e = .returned (.bool false) ∧ w' = W := fun W => hi ▸ isInName_any _ W
              have hall : s.data.toList.all Cm.inB = false := by
                rw [List.all_eq_false]
                exact ⟨s[k]'hlt, by rw [ByteArray.getElem_eq_getElem_data, ← Array.getElem_toList]; exact List.getElem_mem _, by rw [hi]; simp⟩
              have HL := phide ((punhide HQ).symm.trans hall)
              clear hts hi hp hall
              go_wp2_with (go_at_call 113; refine (C _).mono ?_; rintro e w ⟨rfl, rfl⟩)
              go_ret
              exact ⟨ret_bo (punhide HL).symm, rfl⟩
            · have C : ∀ W, Calls Tryz.prog 113 #[.int .u8 ((s[k]'hlt).toNat : Int)] W fun e w' => e = .returned (.bool true) ∧ w' = W := fun W => hi ▸ isInName_any _ W
              have hp2 : (s.data.toList.take (k + 1)).all Cm.inB = true := by rw [hts, List.all_append, hp]; simp [hi]
              clear hts hi hp
              go_wp2_with (go_at_call 113; refine (C _).mono ?_; rintro e w ⟨rfl, rfl⟩)
              go_round
              case rel => exact ⟨k + 1, by omega, by go_num, hp2⟩
              case measure => simp [intOf]; omega
          · have hall : s.data.toList.all Cm.inB = true := by rwa [List.take_of_length_le (by rw [Array.length_toList]; show s.size ≤ k; omega)] at hp
            have HL := phide ((punhide HQ).symm.trans hall)
            clear hall hp
            go_wp2
            go_ret
            exact ⟨ret_bo (punhide HL).symm, rfl⟩
    · have d24 : decide (24 < (s.size : Int)) = true := decide_eq_true (by omega)
      have hn : Cm.nameB s.data.toList = false := by
        unfold Cm.nameB
        rw [Array.length_toList, decide_eq_false (show ¬ s.data.size ≤ 24 from h24)]
        simp
      rw [hn]
      go_enter Tryz.func78, Tryz.ntmps78
      go_wp2
      go_ret
      exact ⟨rfl, rfl⟩


theorem clone_any (s : ByteArray) (w : World) (hs : s.size ≤ 1000000) : Calls Tryz.prog 99 #[.string s] w fun e w' => e = .returned (.string s) ∧ Below w.heap.size w w' := by
  go_enter Tryz.func99, Tryz.ntmps99
  go_wp2_with fail
  refine (Tryz.stringslite_Clone s _ (by omega)).mono ?_
  rintro e w2 ⟨rfl, b9⟩
  go_wp2
  go_ret
  exact ⟨rfl, b9⟩
theorem pre36 (l : List UInt8) : Lib.hasPrefix l [36] = decide (l.getD 0 0 = 36) := pre_one l 36 (by decide)
theorem cutPrefix_yes (s r : ByteArray) (h : s.data.toList = 36 :: r.data.toList) (w : World) :
    Calls Tryz.prog 97 #[.string s, .string ⟨#[36]⟩] w fun e w' => e = .returned (.tuple #[.string r, .bool true]) ∧ w' = w := by
  have C : ∀ W, Calls Tryz.prog 132 #[.string s, .string ⟨#[36]⟩] W fun e w' => e = .returned (.bool true) ∧ w' = W := fun W => by
    refine (Go.Proofs.Any.stringslite_HasPrefix (show Go.Proofs.Lays.n206 Tryz.prog Tryz.laysQ_ren from { Tryz.laysQ99 with }) s ⟨#[36]⟩ W).mono ?_
    rintro e w' ⟨rfl, rfl⟩
    exact ⟨by rw [pre36, h]; rfl, rfl⟩
  have hsz : s.size = r.size + 1 := by
    have := congrArg List.length h
    rw [List.length_cons, Array.length_toList, Array.length_toList] at this
    exact this
  have hex : s.extract 1 s.size = r := by
    refine pext ?_
    rw [Lib.extract_data, h, List.drop_succ_cons, List.drop_zero, List.take_of_length_le]
    rw [Array.length_toList]; show r.size ≤ _; omega
  have c1 : (1 : Int) ≤ (s.size : Int) := by omega
  have hL : Tryz.func97 = Tryz.func97 := rfl
  clear h hL hsz
  go_enter Tryz.func97, Tryz.ntmps97
  go_wp2_with (first | (go_at_call 132; refine (C _).mono ?_; rintro e w ⟨rfl, rfl⟩) | go_in)
  go_ret2
  exact ⟨rfl, rfl⟩
theorem cutPrefix_no (s : ByteArray) (h : s.data.toList.getD 0 0 ≠ 36) (w : World) :
    Calls Tryz.prog 97 #[.string s, .string ⟨#[36]⟩] w fun e w' => e = .returned (.tuple #[.string s, .bool false]) ∧ w' = w := by
  have C : ∀ W, Calls Tryz.prog 132 #[.string s, .string ⟨#[36]⟩] W fun e w' => e = .returned (.bool false) ∧ w' = W := fun W => by
    refine (Go.Proofs.Any.stringslite_HasPrefix (show Go.Proofs.Lays.n206 Tryz.prog Tryz.laysQ_ren from { Tryz.laysQ99 with }) s ⟨#[36]⟩ W).mono ?_
    rintro e w' ⟨rfl, rfl⟩
    exact ⟨by rw [pre36, decide_eq_false h], rfl⟩
  clear h
  go_enter Tryz.func97, Tryz.ntmps97
  go_wp2_with (first | (go_at_call 132; refine (C _).mono ?_; rintro e w ⟨rfl, rfl⟩) | go_in)
  go_ret2
  exact ⟨rfl, rfl⟩

theorem add_one91 (q : ByteArray) (h : q.size ≤ 1000000) : (∀ W, (Op.stringOp .add ⟨#[91]⟩ q).run Tryz.prog W = .ok (.string (⟨#[91]⟩ ++ q)) W) ∧ (∀ W, (Op.stringOp .add (⟨#[91]⟩ ++ q) ⟨#[93]⟩).run Tryz.prog W = .ok (.string (⟨#[91]⟩ ++ q ++ ⟨#[93]⟩)) W) := by
  refine ⟨fun W => run_string_add_sum _ _ _ ?_, fun W => run_string_add_sum _ _ _ ?_⟩
  · show 1 + q.size ≤ _; omega
  · rw [ByteArray.size_append]; show 1 + q.size + 1 ≤ _; omega
theorem add_one46 (q : ByteArray) (h : q.size ≤ 1000000) : ∀ W, (Op.stringOp .add ⟨#[46]⟩ q).run Tryz.prog W = .ok (.string (⟨#[46]⟩ ++ q)) W := fun W => run_string_add_sum _ _ _ (by show 1 + q.size ≤ _; omega)
/-- A step's text. -/
def prL (t : Pm.St) : List UInt8 :=
  if t.k = 1 then (if Cm.nameB t.s.data.toList then 46 :: t.s.data.toList else 91 :: (Qm.quoteL t.s.data.toList ++ [93]))
  else if t.k = 2 then 91 :: (Lib.itoa t.n ++ [93]) else if t.k = 3 then [46, 42] else if t.k = 4 then [91, 42, 93] else [42, 42]
theorem mayB_key {t : Pm.St} (h : mayB t = true) (h1 : t.k = 1) : t.s.size ≤ 24 ∧ t.n = 0 ∧ Lib.validD t.s.data.toList = true := by
  have hc := (mayB_cl h).1
  unfold mayB at h
  rw [if_pos h1, Bool.and_eq_true, Bool.and_eq_true, decide_eq_true_eq, decide_eq_true_eq] at h
  refine ⟨h.2.1, ?_, h.2.2⟩
  rw [← hc]; unfold Pm.bareS; rw [if_pos h1]
theorem mayB_at {t : Pm.St} (h : mayB t = true) (h2 : t.k = 2) : 0 ≤ t.n ∧ t.n ≤ 9999 ∧ t.s = Pm.nul := by
  have hc := (mayB_cl h).1
  unfold mayB at h
  rw [if_neg (by omega), if_pos h2, Bool.and_eq_true, Bool.and_eq_true, decide_eq_true_eq, decide_eq_true_eq, decide_eq_true_eq] at h
  refine ⟨h.2.1, h.2.2, ?_⟩
  rw [← hc]; unfold Pm.bareS; rw [if_neg (by omega), if_pos h2]
theorem mayB_other {t : Pm.St} (h : mayB t = true) (h1 : t.k ≠ 1) (h2 : t.k ≠ 2) : (t.k = 3 ∨ t.k = 4 ∨ t.k = 5) ∧ t = ⟨t.k, Pm.nul, 0⟩ := by
  have hc := (mayB_cl h).1
  unfold mayB at h
  rw [if_neg h1, if_neg h2, Bool.and_eq_true, Bool.and_eq_true, decide_eq_true_eq, decide_eq_true_eq, decide_eq_true_eq] at h
  refine ⟨by omega, ?_⟩
  rw [← hc]; unfold Pm.bareS; rw [if_neg h1, if_neg h2]
set_option maxRecDepth 100000 in
set_option maxHeartbeats 1000000 in
theorem printStep_any (t : Pm.St) (hm : mayB t = true) (u : ByteArray) (hu : prL t = u.data.toList) (w : World) (hP : Pow w) : Calls Tryz.prog 84 #[valS t] w fun e w' => e = .returned (.string u) ∧ Below w.heap.size w w' := by
  have HU := phide hu
  have hB0 : ∀ o, Below w.heap.size w (w.alloc o) := fun o => (Below.refl _ _).alloc (Nat.le_refl _) _
  have hPa : ∀ o, Pow (w.alloc o) := fun o => hP.next (hB0 o)
  have hsz : ∀ o, w.heap.size ≤ (w.alloc o).heap.size := fun o => by simp
  by_cases h1 : t.k = 1
  · obtain ⟨h24, hn, hv⟩ := mayB_key hm h1
    obtain ⟨k, s, n⟩ := t
    simp only [] at h1 h24 hn hv
    subst h1 hn
    unfold prL at hu
    rw [if_pos rfl] at hu
    cases hnm : Cm.nameB s.data.toList
    · have CN : ∀ W, Calls Tryz.prog 78 #[.string s] W fun e w' => e = .returned (.bool false) ∧ w' = W := fun W => hnm ▸ mayName_any s W (by omega)
      obtain ⟨q, hq⟩ : ∃ q : ByteArray, Qm.quoteL s.data.toList = q.data.toList := ⟨⟨(Qm.quoteL s.data.toList).toArray⟩, by simp⟩
      have CQ := fun W => quote_c s q W (by omega) hq
      have hqs : q.size ≤ 1000000 := by
        have h6 := quo_le s.data.toList
        have h7 := congrArg List.length hq
        have h8 : s.data.toList.length = s.size := Array.length_toList
        have h9 : q.data.toList.length = q.size := Array.length_toList
        unfold Qm.quoteL at h7
        simp only [List.length_cons, List.length_append, List.length_nil] at h7
        omega
      obtain ⟨j1, j2⟩ := add_one91 q hqs
      have HE : Hid ((⟨#[91]⟩ : ByteArray) ++ q ++ ⟨#[93]⟩ = u) := phide (by
        refine pext ?_
        rw [← hu]
        simp only [hnm, Bool.false_eq_true, if_false, hq]
        simp)
      unfold valS
      clear hu HU hnm hv hm h24 hq hqs
      go_enter Tryz.func84, Tryz.ntmps84
      go_wp2_with (first | (go_at_call 78; refine (CN _).mono ?_; rintro e w2 ⟨rfl, rfl⟩) | (go_at_call 50; refine (CQ _).mono ?_; rintro e w2 ⟨rfl, b9⟩))
      go_ret
      exact ⟨by rw [← punhide HE]; rfl, (hB0 _).trans (b9.mono (hsz _))⟩
    · have CN : ∀ W, Calls Tryz.prog 78 #[.string s] W fun e w' => e = .returned (.bool true) ∧ w' = W := fun W => hnm ▸ mayName_any s W (by omega)
      have j1 := add_one46 s (by omega)
      have HE : Hid ((⟨#[46]⟩ : ByteArray) ++ s = u) := phide (by
        refine pext ?_
        rw [← hu]
        simp only [hnm, if_true]
        simp)
      unfold valS
      clear hu HU hnm hv hm h24
      go_enter Tryz.func84, Tryz.ntmps84
      go_wp2_with (first | (go_at_call 78; refine (CN _).mono ?_; rintro e w2 ⟨rfl, rfl⟩))
      go_ret
      exact ⟨by rw [← punhide HE]; rfl, hB0 _⟩
  · by_cases h2 : t.k = 2
    · obtain ⟨n0, n1, hs⟩ := mayB_at hm h2
      obtain ⟨k, s, n⟩ := t
      simp only [] at h2 n0 n1 hs
      subst h2 hs
      unfold prL at hu
      rw [if_neg h1, if_pos rfl] at hu
      obtain ⟨q, hq⟩ : ∃ q : ByteArray, Lib.itoa n = q.data.toList := ⟨⟨(Lib.itoa n).toArray⟩, by simp⟩
      have CI := fun W (hP : Pow W) => itoa_b n q (by omega) (by omega) W hP (by rw [hq])
      have hqs : q.size ≤ 1000000 := by
        have h7 := congrArg List.length hq
        have h9 : q.data.toList.length = q.size := Array.length_toList
        have := Lib.itoa_length_le n (by omega) (by omega)
        omega
      obtain ⟨j1, j2⟩ := add_one91 q hqs
      have HE : Hid ((⟨#[91]⟩ : ByteArray) ++ q ++ ⟨#[93]⟩ = u) := phide (by
        refine pext ?_
        rw [← hu, hq]
        simp)
      clear hq hqs
      unfold valS Pm.nul
      clear hu HU hm h1
      go_enter Tryz.func84, Tryz.ntmps84
      go_wp2_with (first | (go_at_call 51; refine (CI _ (hPa _)).mono ?_; rintro e w2 ⟨rfl, b9⟩))
      go_ret
      exact ⟨by rw [← punhide HE]; rfl, (hB0 _).trans (b9.mono (hsz _))⟩
    · obtain ⟨ho, he⟩ := mayB_other hm h1 h2
      obtain ⟨k, s, n⟩ := t
      simp only [Pm.St.mk.injEq, true_and] at he ho h1 h2
      obtain ⟨rfl, rfl⟩ := he
      unfold valS Pm.nul
      clear hm h1 h2
      rcases ho with rfl | rfl | rfl
      · obtain rfl : u = ⟨#[46, 42]⟩ := pext hu.symm
        clear hu HU
        go_enter Tryz.func84, Tryz.ntmps84
        go_wp2
        go_ret
        exact ⟨rfl, hB0 _⟩
      · obtain rfl : u = ⟨#[91, 42, 93]⟩ := pext hu.symm
        clear hu HU
        go_enter Tryz.func84, Tryz.ntmps84
        go_wp2
        go_ret
        exact ⟨rfl, hB0 _⟩
      · obtain rfl : u = ⟨#[42, 42]⟩ := pext hu.symm
        clear hu HU
        go_enter Tryz.func84, Tryz.ntmps84
        go_wp2
        go_ret
        exact ⟨rfl, hB0 _⟩
end Go.Proofs.YtnagecbepidfiaaGreatDoor.Np

namespace Go.Proofs.YtnagecbepidfiaaGreatDoor.Np
set_option maxRecDepth 100000
open Go.Proofs.YtnagecbepidfiaaGreatDoor.Nq
open Go.RowKit
set_option linter.unusedVariables false
set_option linter.unusedSimpArgs false

/-- What readStep answers. -/
def stV (t : Pm.St) (n : Nat) : Value := .tuple #[valS t, .int .i64 (n : Int)]
abbrev pfx (s : ByteArray) (p : List UInt8) : Bool := Lib.hasPrefix s.data.toList p
/-- The block of a result that is a step. -/
def Res (B : Nat) (W : World) (g : Nat) : Prop := B ≤ g ∧ g < W.heap.size ∧ (W.cell? ⟨g, 0, none⟩ = some (.int .i64 0) ∧ W.cell? ⟨g, 1, none⟩ = some (.string ⟨#[]⟩) ∧ W.cell? ⟨g, 2, none⟩ = some (.int .i64 0)) ∧ (W.frozen? ⟨g, 0, none⟩ = false ∧ W.frozen? ⟨g, 1, none⟩ = false ∧ W.frozen? ⟨g, 2, none⟩ = false)
theorem Res.new (w : World) : Res w.heap.size (w.alloc (.cells #[.int .i64 0, .string ⟨#[]⟩, .int .i64 0] 57)) w.heap.size :=
  ⟨Nat.le_refl _, by simp, ⟨World.cell?_alloc_at _ _ _ _ rfl, World.cell?_alloc_at _ _ _ _ rfl, World.cell?_alloc_at _ _ _ _ rfl⟩, ⟨World.frozen?_alloc_at _ _ _ _ rfl, World.frozen?_alloc_at _ _ _ _ rfl, World.frozen?_alloc_at _ _ _ _ rfl⟩⟩
theorem Res.next {B g : Nat} {W W' : World} (h : Res B W g) (hB : Below W.heap.size W W') : Res B W' g := by
  obtain ⟨h1, h2, ⟨a0, a1, a2⟩, ⟨f0, f1, f2⟩⟩ := h
  exact ⟨h1, Nat.lt_of_lt_of_le h2 hB.size, ⟨(hB.cell (p := ⟨g, 0, none⟩) h2).trans a0, (hB.cell (p := ⟨g, 1, none⟩) h2).trans a1, (hB.cell (p := ⟨g, 2, none⟩) h2).trans a2⟩,
    ⟨(hB.frozen (p := ⟨g, 0, none⟩) h2).trans f0, (hB.frozen (p := ⟨g, 1, none⟩) h2).trans f1, (hB.frozen (p := ⟨g, 2, none⟩) h2).trans f2⟩⟩
theorem Res.same {B g : Nat} {W : World} (h : Res B W g) : (∀ v, (W.setCell ⟨g, 0, none⟩ v).cell? ⟨g, 0, none⟩ = some v) ∧ (∀ v0 v, ((W.setCell ⟨g, 0, none⟩ v0).setCell ⟨g, 1, none⟩ v).cell? ⟨g, 1, none⟩ = some v) ∧
    (∀ v0 v1 v, (((W.setCell ⟨g, 0, none⟩ v0).setCell ⟨g, 1, none⟩ v1).setCell ⟨g, 2, none⟩ v).cell? ⟨g, 2, none⟩ = some v) := by
  obtain ⟨h1, h2, ⟨a0, a1, a2⟩, _⟩ := h
  have n1 : ∀ {i j : Nat}, i ≠ j → ((⟨g, i, none⟩ : Addr) ≠ ⟨g, j, none⟩) := fun h e => h (Addr.mk.inj e).2.1
  refine ⟨fun v => World.cell?_setCell_same _ _ _ a0, fun v0 v => World.cell?_setCell_same _ _ _ (u := .string ⟨#[]⟩) ?_, fun v0 v1 v => World.cell?_setCell_same _ _ _ (u := .int .i64 0) ?_⟩
  · rw [World.cell?_setCell_other _ _ _ _ (n1 (by decide))]; exact a1
  · rw [World.cell?_setCell_other _ _ _ _ (n1 (by decide)), World.cell?_setCell_other _ _ _ _ (n1 (by decide))]; exact a2
theorem set3 {B g : Nat} {w W : World} (h : Below B w W) (hg : B ≤ g) (x y z : Value) : Below B w (((W.setCell ⟨g, 0, none⟩ x).setCell ⟨g, 1, none⟩ y).setCell ⟨g, 2, none⟩ z) := ((h.setCell hg _).setCell hg _).setCell hg _
set_option maxRecDepth 100000 in
set_option maxHeartbeats 1000000 in
theorem plainKey_any (s : ByteArray) (h1 : 1 ≤ s.size) (hs : s.size ≤ 100000) (r : ByteArray) (hr : s.extract 1 s.size = r) (i : Int) (len : Nat) (hi : (i = -1 ∧ len = s.size) ∨ (∃ j : Nat, i = (j : Int) ∧ len = j + 1 ∧ len ≤ s.size)) (k : ByteArray) (hk : s.extract 1 len = k)
    (CI : ∀ W, Calls Tryz.prog 174 #[.string r, .string ⟨#[46, 91, 42]⟩] W fun e w' => e = .returned (.int .i64 i) ∧ Below W.heap.size W w') (w : World) :
    Calls Tryz.prog 166 #[.string s] w fun e w' => e = .returned (stV ⟨1, k, 0⟩ len) ∧ Below w.heap.size w w' := by
  have c1 : (1 : Int) ≤ (s.size : Int) := by omega
  have hB0 : Below w.heap.size w (w.alloc (.cells #[.int .i64 0, .string ⟨#[]⟩, .int .i64 0] 57)) := (Below.refl _ _).alloc (Nat.le_refl _) _
  have hR := Res.new w
  have hsz : w.heap.size ≤ (w.alloc (.cells #[.int .i64 0, .string ⟨#[]⟩, .int .i64 0] 57)).heap.size := by simp
  have hks : k.size ≤ 1000000 := by rw [← hk, ByteArray.size_extract]; omega
  have CC := fun W => clone_any k W hks
  have h1l : 1 ≤ len := by rcases hi with h | ⟨j, h⟩ <;> omega
  have c3 : (1 : Int) ≤ (len : Int) := by omega
  have c4 : (len : Int) ≤ (s.size : Int) := by rcases hi with h | ⟨j, h⟩ <;> omega
  unfold stV valS
  go_enter Tryz.func166, Tryz.ntmps166
  rcases hi with ⟨rfl, hl⟩ | ⟨j, rfl, rfl, hl2⟩
  · subst hl
    have hkr : r = k := hr.symm.trans hk
    subst hkr
    clear hks h1 hs h1l c3 c4 hk
    go_wp2_with fail
    refine (CI _).mono ?_
    rintro e w2 ⟨rfl, b2⟩
    replace hR := hR.next b2
    replace hB0 := hB0.trans (b2.mono hsz)
    go_wp2_with (go_at_call 99; refine (CC _).mono ?_; rintro e w3 ⟨rfl, b3⟩; have q3 := Nat.le_of_lt hR.2.1; replace hR := hR.next b3; replace hB0 := hB0.trans (b3.mono q3); clear q3 b3; obtain ⟨r1, r2, ⟨a0, a1, a2⟩, ⟨f0, f1, f2⟩⟩ := id hR; obtain ⟨s0, s1, s2⟩ := hR.same)
    (try simp only [Exit.inBlock, Exit.then])
    refine bodyPost_ret (by simp [results, Tryz.results166, go_sem, s0, s1, s2]; try rfl) rfl ?_
    exact ⟨rfl, set3 hB0 (Nat.le_refl _) _ _ _⟩
  · have d1 : decide (0 ≤ (j : Int)) = true := decide_eq_true (by omega)
    have hw : IntKind.i64.wrap (1 + (j : Int)) = (j : Int) + 1 := by rw [IntKind.wrap_i64]; omega
    have c5 : (1 : Int) ≤ (j : Int) + 1 := by omega
    have c6 : (j : Int) + 1 ≤ (s.size : Int) := by omega
    have c7 : ((j + 1 : Nat) : Int) = (j : Int) + 1 := by omega
    clear hks h1 hs h1l hl2 c3 c4
    go_wp2_with fail
    refine (CI _).mono ?_
    rintro e w2 ⟨rfl, b2⟩
    replace hR := hR.next b2
    replace hB0 := hB0.trans (b2.mono hsz)
    go_wp2_with (go_at_call 99; refine (CC _).mono ?_; rintro e w3 ⟨rfl, b3⟩; have q3 := Nat.le_of_lt hR.2.1; replace hR := hR.next b3; replace hB0 := hB0.trans (b3.mono q3); clear q3 b3; obtain ⟨r1, r2, ⟨a0, a1, a2⟩, ⟨f0, f1, f2⟩⟩ := id hR; obtain ⟨s0, s1, s2⟩ := hR.same)
    (try simp only [Exit.inBlock, Exit.then])
    refine bodyPost_ret (by simp [results, Tryz.results166, go_sem, s0, s1, s2]; try rfl) rfl ?_
    exact ⟨rfl, set3 hB0 (Nat.le_refl _) _ _ _⟩

set_option maxRecDepth 100000 in
set_option maxHeartbeats 1000000 in
theorem step_deep (s : ByteArray) (p1 : pfx s [42, 42] = true) (w : World) :
    Calls Tryz.prog 148 #[.string s] w fun e w' => e = .returned (stV ⟨5, Pm.nul, 0⟩ 2) ∧ Below w.heap.size w w' := by
  have qq := fun (p : ByteArray) (W : World) => prefix_is s p _ rfl W
  have q1 : Lib.hasPrefix s.data.toList (⟨#[42, 42]⟩ : ByteArray).data.toList = true := p1
  have hB0 : Below w.heap.size w (w.alloc (.cells #[.int .i64 0, .string ⟨#[]⟩, .int .i64 0] 57)) := (Below.refl _ _).alloc (Nat.le_refl _) _
  have hR := Res.new w
  unfold stV valS
  unfold pfx at *
  go_enter Tryz.func148, Tryz.ntmps148
  go_wp2_with (first | (go_at_call 103; refine (qq _ _).mono ?_; rintro e9 w9 ⟨rfl, rfl⟩; simp only [q1]))
  go_returns
  exact ⟨rfl, by go_grown⟩
set_option maxRecDepth 100000 in
set_option maxHeartbeats 1000000 in
theorem step_anyKey (s : ByteArray) (p1 : pfx s [42, 42] = false) (p2 : pfx s [46, 42] = true) (w : World) :
    Calls Tryz.prog 148 #[.string s] w fun e w' => e = .returned (stV ⟨3, Pm.nul, 0⟩ 2) ∧ Below w.heap.size w w' := by
  have qq := fun (p : ByteArray) (W : World) => prefix_is s p _ rfl W
  have q1 : Lib.hasPrefix s.data.toList (⟨#[42, 42]⟩ : ByteArray).data.toList = false := p1
  have q2 : Lib.hasPrefix s.data.toList (⟨#[46, 42]⟩ : ByteArray).data.toList = true := p2
  have hB0 : Below w.heap.size w (w.alloc (.cells #[.int .i64 0, .string ⟨#[]⟩, .int .i64 0] 57)) := (Below.refl _ _).alloc (Nat.le_refl _) _
  have hR := Res.new w
  unfold stV valS
  unfold pfx at *
  go_enter Tryz.func148, Tryz.ntmps148
  go_wp2_with (first | (go_at_call 103; refine (qq _ _).mono ?_; rintro e9 w9 ⟨rfl, rfl⟩; simp only [q1, q2]))
  go_returns
  exact ⟨rfl, by go_grown⟩
set_option maxRecDepth 100000 in
set_option maxHeartbeats 1000000 in
theorem step_any (s : ByteArray) (p1 : pfx s [42, 42] = false) (p2 : pfx s [46, 42] = false) (p3 : pfx s [91, 42, 93] = true) (w : World) :
    Calls Tryz.prog 148 #[.string s] w fun e w' => e = .returned (stV ⟨4, Pm.nul, 0⟩ 3) ∧ Below w.heap.size w w' := by
  have qq := fun (p : ByteArray) (W : World) => prefix_is s p _ rfl W
  have q1 : Lib.hasPrefix s.data.toList (⟨#[42, 42]⟩ : ByteArray).data.toList = false := p1
  have q2 : Lib.hasPrefix s.data.toList (⟨#[46, 42]⟩ : ByteArray).data.toList = false := p2
  have q3 : Lib.hasPrefix s.data.toList (⟨#[91, 42, 93]⟩ : ByteArray).data.toList = true := p3
  have hB0 : Below w.heap.size w (w.alloc (.cells #[.int .i64 0, .string ⟨#[]⟩, .int .i64 0] 57)) := (Below.refl _ _).alloc (Nat.le_refl _) _
  have hR := Res.new w
  unfold stV valS
  unfold pfx at *
  go_enter Tryz.func148, Tryz.ntmps148
  go_wp2_with (first | (go_at_call 103; refine (qq _ _).mono ?_; rintro e9 w9 ⟨rfl, rfl⟩; simp only [q1, q2, q3]))
  go_returns
  exact ⟨rfl, by go_grown⟩
set_option maxRecDepth 100000 in
set_option maxHeartbeats 1000000 in
theorem step_plain (s : ByteArray) (p1 : pfx s [42, 42] = false) (p2 : pfx s [46, 42] = false) (p3 : pfx s [91, 42, 93] = false) (p4 : pfx s [46] = true) (t : Pm.St) (n : Nat) (w : World) (CS : ∀ W, Below w.heap.size w W → Calls Tryz.prog 166 #[.string s] W fun e w' => e = .returned (stV t n) ∧ Below W.heap.size W w') :
    Calls Tryz.prog 148 #[.string s] w fun e w' => e = .returned (stV t n) ∧ Below w.heap.size w w' := by
  have qq := fun (p : ByteArray) (W : World) => prefix_is s p _ rfl W
  have q1 : Lib.hasPrefix s.data.toList (⟨#[42, 42]⟩ : ByteArray).data.toList = false := p1
  have q2 : Lib.hasPrefix s.data.toList (⟨#[46, 42]⟩ : ByteArray).data.toList = false := p2
  have q3 : Lib.hasPrefix s.data.toList (⟨#[91, 42, 93]⟩ : ByteArray).data.toList = false := p3
  have q4 : Lib.hasPrefix s.data.toList (⟨#[46]⟩ : ByteArray).data.toList = true := p4
  have hB0 : Below w.heap.size w (w.alloc (.cells #[.int .i64 0, .string ⟨#[]⟩, .int .i64 0] 57)) := (Below.refl _ _).alloc (Nat.le_refl _) _
  have hR := Res.new w
  unfold stV valS
  unfold pfx at *
  have CS2 := CS _ hB0
  unfold stV valS at CS2
  clear CS
  go_enter Tryz.func148, Tryz.ntmps148
  go_wp2_with (first | (go_at_call 103; refine (qq _ _).mono ?_; rintro e9 w9 ⟨rfl, rfl⟩; simp only [q1, q2, q3, q4]) | (go_at_call 166; refine CS2.mono ?_; rintro e9 w2 ⟨rfl, b2⟩; have q9 := Nat.le_of_lt hR.2.1; replace hR := hR.next b2; replace hB0 := hB0.trans (b2.mono q9); clear q9 b2; obtain ⟨r1, r2, ⟨a0, a1, a2⟩, ⟨f0, f1, f2⟩⟩ := id hR; obtain ⟨s0, s1, s2⟩ := hR.same))
  (try simp only [Exit.inBlock, Exit.then])
  refine bodyPost_ret (by simp [results, Tryz.results148, go_sem, s0, s1, s2]; try rfl) rfl ?_
  exact ⟨rfl, set3 hB0 (Nat.le_refl _) _ _ _⟩
set_option maxRecDepth 100000 in
set_option maxHeartbeats 1000000 in
theorem step_quoted (s : ByteArray) (p1 : pfx s [42, 42] = false) (p2 : pfx s [46, 42] = false) (p3 : pfx s [91, 42, 93] = false) (p4 : pfx s [46] = false) (p5 : pfx s [91, 34] = true) (t : Pm.St) (n : Nat) (w : World) (CS : ∀ W, Below w.heap.size w W → Calls Tryz.prog 167 #[.string s] W fun e w' => e = .returned (stV t n) ∧ Below W.heap.size W w') :
    Calls Tryz.prog 148 #[.string s] w fun e w' => e = .returned (stV t n) ∧ Below w.heap.size w w' := by
  have qq := fun (p : ByteArray) (W : World) => prefix_is s p _ rfl W
  have q1 : Lib.hasPrefix s.data.toList (⟨#[42, 42]⟩ : ByteArray).data.toList = false := p1
  have q2 : Lib.hasPrefix s.data.toList (⟨#[46, 42]⟩ : ByteArray).data.toList = false := p2
  have q3 : Lib.hasPrefix s.data.toList (⟨#[91, 42, 93]⟩ : ByteArray).data.toList = false := p3
  have q4 : Lib.hasPrefix s.data.toList (⟨#[46]⟩ : ByteArray).data.toList = false := p4
  have q5 : Lib.hasPrefix s.data.toList (⟨#[91, 34]⟩ : ByteArray).data.toList = true := p5
  have hB0 : Below w.heap.size w (w.alloc (.cells #[.int .i64 0, .string ⟨#[]⟩, .int .i64 0] 57)) := (Below.refl _ _).alloc (Nat.le_refl _) _
  have hR := Res.new w
  unfold stV valS
  unfold pfx at *
  have CS2 := CS _ hB0
  unfold stV valS at CS2
  clear CS
  go_enter Tryz.func148, Tryz.ntmps148
  go_wp2_with (first | (go_at_call 103; refine (qq _ _).mono ?_; rintro e9 w9 ⟨rfl, rfl⟩; simp only [q1, q2, q3, q4, q5]) | (go_at_call 167; refine CS2.mono ?_; rintro e9 w2 ⟨rfl, b2⟩; have q9 := Nat.le_of_lt hR.2.1; replace hR := hR.next b2; replace hB0 := hB0.trans (b2.mono q9); clear q9 b2; obtain ⟨r1, r2, ⟨a0, a1, a2⟩, ⟨f0, f1, f2⟩⟩ := id hR; obtain ⟨s0, s1, s2⟩ := hR.same))
  (try simp only [Exit.inBlock, Exit.then])
  refine bodyPost_ret (by simp [results, Tryz.results148, go_sem, s0, s1, s2]; try rfl) rfl ?_
  exact ⟨rfl, set3 hB0 (Nat.le_refl _) _ _ _⟩
set_option maxRecDepth 100000 in
set_option maxHeartbeats 1000000 in
theorem step_at (s : ByteArray) (p1 : pfx s [42, 42] = false) (p2 : pfx s [46, 42] = false) (p3 : pfx s [91, 42, 93] = false) (p4 : pfx s [46] = false) (p5 : pfx s [91, 34] = false) (p6 : pfx s [91] = true) (t : Pm.St) (n : Nat) (w : World) (CS : ∀ W, Below w.heap.size w W → Calls Tryz.prog 168 #[.string s] W fun e w' => e = .returned (stV t n) ∧ Below W.heap.size W w') :
    Calls Tryz.prog 148 #[.string s] w fun e w' => e = .returned (stV t n) ∧ Below w.heap.size w w' := by
  have qq := fun (p : ByteArray) (W : World) => prefix_is s p _ rfl W
  have q1 : Lib.hasPrefix s.data.toList (⟨#[42, 42]⟩ : ByteArray).data.toList = false := p1
  have q2 : Lib.hasPrefix s.data.toList (⟨#[46, 42]⟩ : ByteArray).data.toList = false := p2
  have q3 : Lib.hasPrefix s.data.toList (⟨#[91, 42, 93]⟩ : ByteArray).data.toList = false := p3
  have q4 : Lib.hasPrefix s.data.toList (⟨#[46]⟩ : ByteArray).data.toList = false := p4
  have q5 : Lib.hasPrefix s.data.toList (⟨#[91, 34]⟩ : ByteArray).data.toList = false := p5
  have q6 : Lib.hasPrefix s.data.toList (⟨#[91]⟩ : ByteArray).data.toList = true := p6
  have hB0 : Below w.heap.size w (w.alloc (.cells #[.int .i64 0, .string ⟨#[]⟩, .int .i64 0] 57)) := (Below.refl _ _).alloc (Nat.le_refl _) _
  have hR := Res.new w
  unfold stV valS
  unfold pfx at *
  have CS2 := CS _ hB0
  unfold stV valS at CS2
  clear CS
  go_enter Tryz.func148, Tryz.ntmps148
  go_wp2_with (first | (go_at_call 103; refine (qq _ _).mono ?_; rintro e9 w9 ⟨rfl, rfl⟩; simp only [q1, q2, q3, q4, q5, q6]) | (go_at_call 168; refine CS2.mono ?_; rintro e9 w2 ⟨rfl, b2⟩; have q9 := Nat.le_of_lt hR.2.1; replace hR := hR.next b2; replace hB0 := hB0.trans (b2.mono q9); clear q9 b2; obtain ⟨r1, r2, ⟨a0, a1, a2⟩, ⟨f0, f1, f2⟩⟩ := id hR; obtain ⟨s0, s1, s2⟩ := hR.same))
  (try simp only [Exit.inBlock, Exit.then])
  refine bodyPost_ret (by simp [results, Tryz.results148, go_sem, s0, s1, s2]; try rfl) rfl ?_
  exact ⟨rfl, set3 hB0 (Nat.le_refl _) _ _ _⟩
set_option maxRecDepth 100000 in
set_option maxHeartbeats 1000000 in
theorem step_none (s : ByteArray) (p1 : pfx s [42, 42] = false) (p2 : pfx s [46, 42] = false) (p3 : pfx s [91, 42, 93] = false) (p4 : pfx s [46] = false) (p5 : pfx s [91, 34] = false) (p6 : pfx s [91] = false) (w : World) :
    Calls Tryz.prog 148 #[.string s] w fun e w' => e = .returned (stV ⟨0, Pm.nul, 0⟩ 0) ∧ Below w.heap.size w w' := by
  have qq := fun (p : ByteArray) (W : World) => prefix_is s p _ rfl W
  have q1 : Lib.hasPrefix s.data.toList (⟨#[42, 42]⟩ : ByteArray).data.toList = false := p1
  have q2 : Lib.hasPrefix s.data.toList (⟨#[46, 42]⟩ : ByteArray).data.toList = false := p2
  have q3 : Lib.hasPrefix s.data.toList (⟨#[91, 42, 93]⟩ : ByteArray).data.toList = false := p3
  have q4 : Lib.hasPrefix s.data.toList (⟨#[46]⟩ : ByteArray).data.toList = false := p4
  have q5 : Lib.hasPrefix s.data.toList (⟨#[91, 34]⟩ : ByteArray).data.toList = false := p5
  have q6 : Lib.hasPrefix s.data.toList (⟨#[91]⟩ : ByteArray).data.toList = false := p6
  have hB0 : Below w.heap.size w (w.alloc (.cells #[.int .i64 0, .string ⟨#[]⟩, .int .i64 0] 57)) := (Below.refl _ _).alloc (Nat.le_refl _) _
  have hR := Res.new w
  unfold stV valS
  unfold pfx at *
  go_enter Tryz.func148, Tryz.ntmps148
  go_wp2_with (first | (go_at_call 103; refine (qq _ _).mono ?_; rintro e9 w9 ⟨rfl, rfl⟩; simp only [q1, q2, q3, q4, q5, q6]))
  go_returns
  exact ⟨rfl, by go_grown⟩
end Go.Proofs.YtnagecbepidfiaaGreatDoor.Np

namespace Go.Proofs.YtnagecbepidfiaaGreatDoor.Np
set_option maxRecDepth 100000
open Go.Proofs.YtnagecbepidfiaaGreatDoor.Nq
open Go.RowKit
set_option linter.unusedVariables false
set_option linter.unusedSimpArgs false

/-- What Parse has taken so far: how many, and the first eight. -/
def Acc (B : Nat) (W : World) (cb sb : Nat) (D : List Pm.St) : Prop :=
  B ≤ cb ∧ B ≤ sb ∧ cb ≠ sb ∧ cb < W.heap.size ∧ sb < W.heap.size ∧ W.cell? ⟨cb, 0, none⟩ = some (.int .i64 (D.length : Int)) ∧ W.frozen? ⟨cb, 0, none⟩ = false ∧ W.frozen? ⟨sb, 0, none⟩ = false ∧
    ∃ v, W.cell? ⟨sb, 0, none⟩ = some v ∧ W.ownsRow B 57 3 v (min 8 D.length) (rowS (D.take 8)) ∧ (v.ownBlock ≠ some cb ∧ v.ownBlock ≠ some sb)
theorem ownS_block {w w' : World} {base k : Nat} {v : Value} {xs : List Value} (h : w.ownsRow base 57 3 v k xs) (hB : ∀ g, v.ownBlock = some g → w'.heap[g]? = w.heap[g]?) : w'.ownsRow base 57 3 v k xs := by
  obtain ⟨h0, h⟩ := h
  refine ⟨h0, ?_⟩
  rcases h with ⟨e, e2⟩ | ⟨g', cap', cur, hv, hg, hh, r⟩
  · exact .inl ⟨e, e2⟩
  · refine .inr ⟨g', cap', cur, hv, hg, ?_, r⟩
    rw [hB g' (by rw [hv]; rfl)]
    exact hh
theorem frozen_set (W : World) (p : Addr) (u : Value) (a : Addr) : (W.setCell p u).frozen? a = W.frozen? a := by
  first | exact World.frozen?_setCell _ _ _ _ | simp
theorem Acc.next {B cb sb : Nat} {W W' : World} {D : List Pm.St} (h : Acc B W cb sb D) (hB : Below W.heap.size W W') : Acc B W' cb sb D := by
  obtain ⟨h1, h2, h3, h4, h5, h6, h7, h8, v, h9, h10, h11⟩ := h
  exact ⟨h1, h2, h3, Nat.lt_of_lt_of_le h4 hB.size, Nat.lt_of_lt_of_le h5 hB.size, (hB.cell (p := ⟨cb, 0, none⟩) h4).trans h6, (hB.frozen (p := ⟨cb, 0, none⟩) h4).trans h7, (hB.frozen (p := ⟨sb, 0, none⟩) h5).trans h8,
    v, (hB.cell (p := ⟨sb, 0, none⟩) h5).trans h9, ownS_block h10 (fun g hg => hB.block g (h10.lt g hg).2), h11⟩

set_option maxRecDepth 100000 in
set_option maxHeartbeats 2000000 in
theorem take_any (B cb sb : Nat) (D : List Pm.St) (t : Pm.St) (hD : D.length ≤ 100000) (w : World) (hA : Acc B w cb sb D) :
    Calls Tryz.prog 131 #[valS t, .pointer (some ⟨cb, 0, none⟩), .pointer (some ⟨sb, 0, none⟩)] w fun e w' => e = .returned (.tuple #[]) ∧ Acc B w' cb sb (D ++ [t]) ∧ Below B w w' := by
  obtain ⟨i0, hi, hz0, hz1, hz2⟩ := info_parts infoS
  have hA1 := hA.next ((Below.refl _ _).alloc (Nat.le_refl _) (.cells #[.int .i64 t.k, .string t.s, .int .i64 t.n] 57))
  have hBw : B ≤ w.heap.size := Nat.le_of_lt (Nat.lt_of_le_of_lt hA.1 hA.2.2.2.1)
  have hB1 : Below B w (w.alloc (.cells #[.int .i64 t.k, .string t.s, .int .i64 t.n] 57)) := (Below.refl _ _).alloc hBw _
  have x0 : (w.alloc (.cells #[.int .i64 t.k, .string t.s, .int .i64 t.n] 57)).cell? ⟨w.heap.size, 0, none⟩ = some (.int .i64 t.k) := World.cell?_alloc_at _ _ _ _ rfl
  have x1 : (w.alloc (.cells #[.int .i64 t.k, .string t.s, .int .i64 t.n] 57)).cell? ⟨w.heap.size, 1, none⟩ = some (.string t.s) := World.cell?_alloc_at _ _ _ _ rfl
  have x2 : (w.alloc (.cells #[.int .i64 t.k, .string t.s, .int .i64 t.n] 57)).cell? ⟨w.heap.size, 2, none⟩ = some (.int .i64 t.n) := World.cell?_alloc_at _ _ _ _ rfl
  have hxc : cb ≠ w.heap.size := by have := hA.2.2.2.1; omega
  have hxs : sb ≠ w.heap.size := by have := hA.2.2.2.2.1; omega
  have hsz : w.heap.size < (w.alloc (.cells #[.int .i64 t.k, .string t.s, .int .i64 t.n] 57)).heap.size := by simp
  obtain ⟨n, hn⟩ : ∃ n, D.length = n := ⟨_, rfl⟩
  have hlen : (D ++ [t]).length = n + 1 := by simp [hn]
  obtain ⟨tk, ts, tn⟩ := t
  unfold valS
  simp only [] at *
  go_enter Tryz.func131, Tryz.ntmps131
  go_upto_region 1 with fail
  generalize w.alloc (.cells #[.int .i64 tk, .string ts, .int .i64 tn] 57) = W1 at *
  obtain ⟨h1, h2, h3, h4, h5, h6, h7, h8, v, h9, h10, h11, h12⟩ := hA1
  rw [hn] at h6 h10 hD
  have hw : IntKind.i64.wrap ((n : Int) + 1) = (n : Int) + 1 := by rw [IntKind.wrap_i64]; omega
  have k1 : ∀ u, (W1.setCell ⟨cb, 0, none⟩ u).cell? ⟨cb, 0, none⟩ = some u := fun u => World.cell?_setCell_same _ _ _ h6
  have k2 : ∀ u, (W1.setCell ⟨cb, 0, none⟩ u).cell? ⟨sb, 0, none⟩ = some v := fun u => by rw [World.cell?_setCell_other _ _ _ _ (fun e => h3 (Addr.mk.inj e).1)]; exact h9
  go_upto_region 2 with fail
  have f1 : ∀ (u : Value) (a : Addr), (W1.setCell ⟨cb, 0, none⟩ u).frozen? a = W1.frozen? a := fun u a => frozen_set _ _ _ _
  have hlt2 : ∀ u : Value, (W1.setCell ⟨cb, 0, none⟩ u).heap.size = W1.heap.size := fun u => by simp [World.setCell]
  have y0 : ∀ u, (W1.setCell ⟨cb, 0, none⟩ u).cell? ⟨w.heap.size, 0, none⟩ = some (.int .i64 tk) := fun u => by rw [World.cell?_setCell_other _ _ _ _ (fun e => hxc (Addr.mk.inj e).1)]; exact x0
  have y1 : ∀ u, (W1.setCell ⟨cb, 0, none⟩ u).cell? ⟨w.heap.size, 1, none⟩ = some (.string ts) := fun u => by rw [World.cell?_setCell_other _ _ _ _ (fun e => hxc (Addr.mk.inj e).1)]; exact x1
  have y2 : ∀ u, (W1.setCell ⟨cb, 0, none⟩ u).cell? ⟨w.heap.size, 2, none⟩ = some (.int .i64 tn) := fun u => by rw [World.cell?_setCell_other _ _ _ _ (fun e => hxc (Addr.mk.inj e).1)]; exact x2
  have o1 : ∀ u, (W1.setCell ⟨cb, 0, none⟩ u).ownsRow B 57 3 v (min 8 n) (rowS (D.take 8)) := fun u => ownS_block h10 (fun g hg => Below.heap_setCell _ _ _ _ (fun e => h11 (by rw [hg]; exact congrArg some e)))
  have b1 : ∀ u, Below B w (W1.setCell ⟨cb, 0, none⟩ u) := fun u => hB1.setCell h1 u
  have q1 := k1 (.int .i64 ((n : Int) + 1)); have q2 := k2 (.int .i64 ((n : Int) + 1)); have q3 := f1 (.int .i64 ((n : Int) + 1)); have q4 := hlt2 (.int .i64 ((n : Int) + 1))
  have q5 := y0 (.int .i64 ((n : Int) + 1)); have q6 := y1 (.int .i64 ((n : Int) + 1)); have q7 := y2 (.int .i64 ((n : Int) + 1)); have q8 := o1 (.int .i64 ((n : Int) + 1)); have q9 := b1 (.int .i64 ((n : Int) + 1))
  generalize W1.setCell ⟨cb, 0, none⟩ (.int .i64 ((n : Int) + 1)) = W2 at *
  clear k1 k2 f1 hlt2 y0 y1 y2 o1 b1 h6 h9 h10 hw x0 x1 x2 hB1
  have r3 : W2.frozen? ⟨cb, 0, none⟩ = false := (q3 _).trans h7
  have r4 : W2.frozen? ⟨sb, 0, none⟩ = false := (q3 _).trans h8
  rw [← q4] at h4 h5 hsz
  clear q3 q4 h7 h8
  by_cases h8n : n < 8
  · have d1 : decide ((n : Int) + 1 ≤ 8) = true := decide_eq_true (by omega)
    rw [Nat.min_eq_right (by omega), List.take_of_length_le (by omega)] at q8
    have o2 := q8.alloc (.cells #[.int .i64 tk, .string ts, .int .i64 tn] 57)
    have hnew := newS W2 ⟨tk, ts, tn⟩ 57
    have hLm : rowS (D ++ [⟨tk, ts, tn⟩]) = rowS D ++ cellsS ⟨tk, ts, tn⟩ := rowS_snoc _ _
    go_wp2_with (at_builtin; refine wpList_append_lies _ rfl _ _ 52 rfl B 57 i0 (.agg #[.int .i64 0, .string ⟨#[]⟩, .int .i64 0]) 3 32 Tryz.underlying52 hi hz0 hz1 hz2 rfl (by decide) _ n _ rfl o2 ⟨W2.heap.size, 0, none⟩ 1 1 (cellsS ⟨tk, ts, tn⟩) rfl rfl hnew (by intro u hu; exact rowS_one (L := [⟨tk, ts, tn⟩]) u (by unfold rowS; simpa using hu)) (by omega) (by unfold maxLen; omega) (by omega) (by simp; omega) (W2.heap.size + 1) (by simp) ?_)
    intro g2 cap2 w4 hown2 hgrow hat hlt4
    rw [← hLm] at hown2
    have hgrow2 : W2.grownBy w4 v.ownBlock := (World.grownBy_alloc W2 _ v.ownBlock).trans hgrow
    have e1 : w4.heap[cb]? = W2.heap[cb]? := hgrow2.block cb h4 (fun e => h11 e.symm)
    have e2 : w4.heap[sb]? = W2.heap[sb]? := hgrow2.block sb h5 (fun e => h12 e.symm)
    have z1 : w4.cell? ⟨cb, 0, none⟩ = some (.int .i64 ((n : Int) + 1)) := (World.cell?_of_block (w := W2) e1).trans q1
    have z2 : w4.cell? ⟨sb, 0, none⟩ = some v := (World.cell?_of_block (w := W2) e2).trans q2
    have z3 : w4.frozen? ⟨cb, 0, none⟩ = false := (World.frozen?_of_block (w := W2) (a := ⟨cb, 0, none⟩) e1).trans r3
    have z4 : w4.frozen? ⟨sb, 0, none⟩ = false := (World.frozen?_of_block (w := W2) (a := ⟨sb, 0, none⟩) e2).trans r4
    have g1 : g2 ≠ cb ∧ g2 ≠ sb := by
      rcases hat with h | h
      · exact ⟨fun e => h11 (by rw [h, e]), fun e => h12 (by rw [h, e])⟩
      · omega
    have hB4 : Below B w w4 := q9.grown hgrow2 (by omega) (fun k hk => (q8.lt k hk).1)
    have hs4 := hgrow2.size
    clear hgrow hgrow2 o2 hnew q1 q2 r3 r4 hat e1 e2 q5 q6 q7 q8 q9
    go_wp2
    go_returns
    refine ⟨rfl, ?_, hB4.setCell h2 _⟩
    refine ⟨h1, h2, h3, by simp [World.setCell]; omega, by simp [World.setCell]; omega, ?_, ?_, ?_, .slice (some ⟨g2, 0, none⟩) (n + 1) cap2, ?_, ?_, ?_, ?_⟩
    · rw [World.cell?_setCell_other _ _ _ _ (fun e => h3 (Addr.mk.inj e).1.symm), z1, hlen]; rfl
    · rw [frozen_set]; exact z3
    · rw [frozen_set]; exact z4
    · exact World.cell?_setCell_same _ _ _ z2
    · rw [hlen, Nat.min_eq_right (by omega), List.take_of_length_le (by omega)]
      exact ownS_block hown2 (fun g hg => Below.heap_setCell _ _ _ _ (fun e => g1.2 ((Option.some.inj hg).trans e)))
    · exact fun e => g1.1 (Option.some.inj e)
    · exact fun e => g1.2 (Option.some.inj e)
  · have d1 : decide ((n : Int) + 1 ≤ 8) = false := decide_eq_false (by omega)
    go_wp2
    go_returns
    refine ⟨rfl, ⟨h1, h2, h3, h4, h5, ?_, r3, r4, v, q2, ?_, h11, h12⟩, q9⟩
    · rw [q1, hlen]; rfl
    · rw [hlen, Nat.min_eq_left (by omega), List.take_append_of_le_length (by omega)]
      rwa [Nat.min_eq_left (by omega)] at q8
end Go.Proofs.YtnagecbepidfiaaGreatDoor.Np
