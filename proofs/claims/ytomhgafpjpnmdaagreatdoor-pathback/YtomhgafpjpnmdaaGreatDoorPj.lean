/- What is proved here: what MayName of package cats, CutPrefix and Clone of the library, and printStep of package path do, walked; conditions: as each theorem states. -/
import Derived.Test.YtomhgafpjpnmdaaGreatDoorPe
import Derived.Test.YtomhgafpjpnmdaaGreatDoorPi
import Derived.Test.YtomhgafpjpnmdaaGreatDoorCm
import Derived.Test.YtomhgafpjpnmdaaGreatDoorQh
import Derived.Lib.ItoaLen
namespace Go.Proofs.YtomhgafpjpnmdaaGreatDoor
open Go.RowKit
set_option linter.unusedVariables false
set_option linter.unusedSimpArgs false

theorem pempty_yes {s : ByteArray} (h : s.size = 0) : s.toList.isEmpty = true := by
  rw [ByteArray.toList_eq, List.isEmpty_iff]
  exact List.eq_nil_of_length_eq_zero h
theorem pempty_no {s : ByteArray} (h : s.size ≠ 0) : s.toList.isEmpty = false := by
  rw [ByteArray.toList_eq]
  cases e : s.data.toList with
  | nil => exact absurd (congrArg List.length e) h
  | cons => rfl
theorem ret_bo {a b : Bool} (h : a = b) : Ending.returned (.bool a) = .returned (.bool b) := by rw [h]
theorem pext {x y : ByteArray} (e : x.data.toList = y.data.toList) : x = y := by
  cases x; cases y
  congr 1
  exact Array.toList_inj.1 e
theorem isLetter_any (c : UInt8) (w : World) : Calls Tryz.prog 50 #[.int .u8 (c.toNat : Int)] w fun e w' => e = .returned (.bool (Cm.letB c)) ∧ w' = w := by
  unfold Cm.letB
  by_cases h1 : 97 ≤ c.toNat
  · go_enter Tryz.func50, Tryz.ntmps50
    go_wp2
    go_ret
    exact ⟨ret_bo (by simp [h1]; omega), rfl⟩
  · rw [decide_eq_false h1]
    go_enter Tryz.func50, Tryz.ntmps50
    go_wp2
    go_ret
    exact ⟨rfl, rfl⟩

theorem isInName_any (c : UInt8) (w : World) : Calls Tryz.prog 51 #[.int .u8 (c.toNat : Int)] w fun e w' => e = .returned (.bool (Cm.inB c)) ∧ w' = w := by
  have C : ∀ b, Cm.letB c = b → ∀ W, Calls Tryz.prog 50 #[.int .u8 (c.toNat : Int)] W fun e w' => e = .returned (.bool b) ∧ w' = W := fun b h W => h ▸ isLetter_any c W
  unfold Cm.inB
  cases hb : Cm.letB c
  · replace C := C _ hb
    clear hb
    by_cases h1 : 48 ≤ c.toNat
    · by_cases h2 : c.toNat ≤ 57
      · have d3 : ((c.toNat : Int) == 95) = false := beq_eq_false_iff_ne.2 (by omega)
        go_enter Tryz.func51, Tryz.ntmps51
        go_wp2_with (go_at_call 50; refine (C _).mono ?_; rintro e w ⟨rfl, rfl⟩)
        go_ret
        exact ⟨ret_bo (by simp [h1, h2]), rfl⟩
      · obtain ⟨q, hq⟩ : ∃ q, decide (c.toNat = 95) = q := ⟨_, rfl⟩
        have d3 : ((c.toNat : Int) == 95) = q := by rw [← hq, Bool.eq_iff_iff]; simp; omega
        rw [hq]
        clear hq
        go_enter Tryz.func51, Tryz.ntmps51
        go_wp2_with (go_at_call 50; refine (C _).mono ?_; rintro e w ⟨rfl, rfl⟩)
        go_ret
        exact ⟨ret_bo (by have h3 : ¬ ((c.toNat : Int) ≤ 57) := (by omega); simp [h1, h2, h3]), rfl⟩
    · obtain ⟨q, hq⟩ : ∃ q, decide (c.toNat = 95) = q := ⟨_, rfl⟩
      have d3 : ((c.toNat : Int) == 95) = q := by rw [← hq, Bool.eq_iff_iff]; simp; omega
      rw [hq]
      clear hq
      go_enter Tryz.func51, Tryz.ntmps51
      go_wp2_with (go_at_call 50; refine (C _).mono ?_; rintro e w ⟨rfl, rfl⟩)
      go_ret
      exact ⟨ret_bo (by simp [h1]), rfl⟩
  · replace C := C _ hb
    clear hb
    go_enter Tryz.func51, Tryz.ntmps51
    go_wp2_with (go_at_call 50; refine (C _).mono ?_; rintro e w ⟨rfl, rfl⟩)
    go_ret
    exact ⟨rfl, rfl⟩

theorem mayName_any (s : ByteArray) (w : World) (hs : s.size ≤ 9223372036854775807) : Calls Tryz.prog 39 #[.string s] w fun e w' => e = .returned (.bool (Cm.nameB s.data.toList)) ∧ w' = w := by
  by_cases h0 : s.size = 0
  · have hz := pempty_yes h0
    have hn : Cm.nameB s.data.toList = false := by
      have : s.data.toList = [] := List.eq_nil_of_length_eq_zero h0
      rw [this]; rfl
    rw [hn]
    clear h0
    go_enter Tryz.func39, Tryz.ntmps39
    go_wp2
    go_ret
    exact ⟨rfl, rfl⟩
  · have hz := pempty_no h0
    have h0' : (0 : Int) < (s.size : Int) := by omega
    by_cases h24 : s.size ≤ 24
    · have d24 : decide (24 < (s.size : Int)) = false := decide_eq_false (by omega)
      have hg : s.data.toList.getD 0 0 = s[0]'(by omega) := by
        have hl : 0 < s.data.toList.length := by rw [Array.length_toList]; exact Nat.pos_of_ne_zero h0
        rw [List.getD, List.getElem?_eq_getElem hl]; rfl
      have hn : Cm.nameB s.data.toList = (Cm.letB (s[0]'(by omega)) && s.data.toList.all Cm.inB) := by
        unfold Cm.nameB
        rw [hg, Array.length_toList, decide_eq_true (show 1 ≤ s.data.size from Nat.pos_of_ne_zero h0), decide_eq_true (show s.data.size ≤ 24 from h24)]
        rfl
      obtain ⟨q, hq⟩ : ∃ q, s.data.toList.all Cm.inB = q := ⟨_, rfl⟩
      rw [hn, hq]
      have HQ := phide hq
      clear hq
      cases hl : Cm.letB (s[0]'(by omega))
      · have C : ∀ W, Calls Tryz.prog 50 #[.int .u8 ((s[0]'(by omega)).toNat : Int)] W fun e w' => e = .returned (.bool false) ∧ w' = W := fun W => hl ▸ isLetter_any _ W
        clear hl hn hg
        go_enter Tryz.func39, Tryz.ntmps39
        go_wp2_with (go_at_call 50; refine (C _).mono ?_; rintro e w ⟨rfl, rfl⟩)
        go_ret
        exact ⟨rfl, rfl⟩
      · have C : ∀ W, Calls Tryz.prog 50 #[.int .u8 ((s[0]'(by omega)).toNat : Int)] W fun e w' => e = .returned (.bool true) ∧ w' = W := fun W => hl ▸ isLetter_any _ W
        clear hl hn hg
        go_enter Tryz.func39, Tryz.ntmps39
        go_wp2_with (go_at_call 50; refine (C _).mono ?_; rintro e w ⟨rfl, rfl⟩)
        clear C
        go_loop [19] (fun i => ∃ k : Nat, k ≤ s.size ∧ i = .int .i64 (k : Int) ∧ (s.data.toList.take k).all Cm.inB = true) (fun i => s.size - (intOf i).toNat)
        case atStart => exact ⟨0, by omega, rfl, rfl⟩
        case round =>
          obtain ⟨k, hk, rfl, hp⟩ := hrel
          by_cases hlt : k < s.size
          · have hts : s.data.toList.take (k + 1) = s.data.toList.take k ++ [s[k]'hlt] := by
              rw [List.take_succ_eq_append_getElem (by rw [Array.length_toList]; exact hlt)]; rfl
            cases hi : Cm.inB (s[k]'hlt)
            · have C : ∀ W, Calls Tryz.prog 51 #[.int .u8 ((s[k]'hlt).toNat : Int)] W fun e w' => e = .returned (.bool false) ∧ w' = W := fun W => hi ▸ isInName_any _ W
              have hall : s.data.toList.all Cm.inB = false := by
                rw [List.all_eq_false]
                exact ⟨s[k]'hlt, by rw [ByteArray.getElem_eq_getElem_data, ← Array.getElem_toList]; exact List.getElem_mem _, by rw [hi]; simp⟩
              have HL := phide ((punhide HQ).symm.trans hall)
              clear hts hi hp hall
              go_wp2_with (go_at_call 51; refine (C _).mono ?_; rintro e w ⟨rfl, rfl⟩)
              go_ret
              exact ⟨ret_bo (punhide HL).symm, rfl⟩
            · have C : ∀ W, Calls Tryz.prog 51 #[.int .u8 ((s[k]'hlt).toNat : Int)] W fun e w' => e = .returned (.bool true) ∧ w' = W := fun W => hi ▸ isInName_any _ W
              have hp2 : (s.data.toList.take (k + 1)).all Cm.inB = true := by rw [hts, List.all_append, hp]; simp [hi]
              clear hts hi hp
              go_wp2_with (go_at_call 51; refine (C _).mono ?_; rintro e w ⟨rfl, rfl⟩)
              go_round
              case rel => exact ⟨k + 1, by omega, by go_num, hp2⟩
              case measure => simp [intOf]; omega
          · have hall : s.data.toList.all Cm.inB = true := by rwa [List.take_of_length_le (by rw [Array.length_toList]; show s.size ≤ k; omega)] at hp
            have HL := phide ((punhide HQ).symm.trans hall)
            clear hall hp
            go_wp2
            go_ret
            exact ⟨ret_bo (punhide HL).symm, rfl⟩
    · have d24 : decide (24 < (s.size : Int)) = true := decide_eq_true (by omega)
      have hn : Cm.nameB s.data.toList = false := by
        unfold Cm.nameB
        rw [Array.length_toList, decide_eq_false (show ¬ s.data.size ≤ 24 from h24)]
        simp
      rw [hn]
      go_enter Tryz.func39, Tryz.ntmps39
      go_wp2
      go_ret
      exact ⟨rfl, rfl⟩


theorem clone_any (s : ByteArray) (w : World) (hs : s.size ≤ 1000000) : Calls Tryz.prog 58 #[.string s] w fun e w' => e = .returned (.string s) ∧ Below w.heap.size w w' := by
  go_enter Tryz.func58, Tryz.ntmps58
  go_wp2_with fail
  refine (Tryz.stringslite_Clone s _ (by omega)).mono ?_
  rintro e w2 ⟨rfl, b9⟩
  go_wp2
  go_ret
  exact ⟨rfl, b9⟩
theorem pre36 (l : List UInt8) : Lib.hasPrefix l [36] = decide (l.getD 0 0 = 36) := pre_one l 36 (by decide)
theorem cutPrefix_yes (s r : ByteArray) (h : s.data.toList = 36 :: r.data.toList) (w : World) :
    Calls Tryz.prog 36 #[.string s, .string ⟨#[36]⟩] w fun e w' => e = .returned (.tuple #[.string r, .bool true]) ∧ w' = w := by
  have C : ∀ W, Calls Tryz.prog 56 #[.string s, .string ⟨#[36]⟩] W fun e w' => e = .returned (.bool true) ∧ w' = W := fun W => by
    refine (Go.Proofs.Any.stringslite_HasPrefix (show Go.Proofs.Lays.n206 Tryz.prog Tryz.laysQ_ren from { Tryz.laysQ99 with }) s ⟨#[36]⟩ W).mono ?_
    rintro e w' ⟨rfl, rfl⟩
    exact ⟨by rw [pre36, h]; rfl, rfl⟩
  have hsz : s.size = r.size + 1 := by
    have := congrArg List.length h
    rw [List.length_cons, Array.length_toList, Array.length_toList] at this
    exact this
  have hex : s.extract 1 s.size = r := by
    refine pext ?_
    rw [Lib.extract_data, h, List.drop_succ_cons, List.drop_zero, List.take_of_length_le]
    rw [Array.length_toList]; show r.size ≤ _; omega
  have c1 : (1 : Int) ≤ (s.size : Int) := by omega
  have hL : Tryz.func36 = Tryz.func36 := rfl
  clear h hL hsz
  go_enter Tryz.func36, Tryz.ntmps36
  go_wp2_with (first | (go_at_call 56; refine (C _).mono ?_; rintro e w ⟨rfl, rfl⟩) | go_in)
  go_ret2
  exact ⟨rfl, rfl⟩
theorem cutPrefix_no (s : ByteArray) (h : s.data.toList.getD 0 0 ≠ 36) (w : World) :
    Calls Tryz.prog 36 #[.string s, .string ⟨#[36]⟩] w fun e w' => e = .returned (.tuple #[.string s, .bool false]) ∧ w' = w := by
  have C : ∀ W, Calls Tryz.prog 56 #[.string s, .string ⟨#[36]⟩] W fun e w' => e = .returned (.bool false) ∧ w' = W := fun W => by
    refine (Go.Proofs.Any.stringslite_HasPrefix (show Go.Proofs.Lays.n206 Tryz.prog Tryz.laysQ_ren from { Tryz.laysQ99 with }) s ⟨#[36]⟩ W).mono ?_
    rintro e w' ⟨rfl, rfl⟩
    exact ⟨by rw [pre36, decide_eq_false h], rfl⟩
  clear h
  go_enter Tryz.func36, Tryz.ntmps36
  go_wp2_with (first | (go_at_call 56; refine (C _).mono ?_; rintro e w ⟨rfl, rfl⟩) | go_in)
  go_ret2
  exact ⟨rfl, rfl⟩

theorem add_one91 (q : ByteArray) (h : q.size ≤ 1000000) : (∀ W, (Op.stringOp .add ⟨#[91]⟩ q).run Tryz.prog W = .ok (.string (⟨#[91]⟩ ++ q)) W) ∧ (∀ W, (Op.stringOp .add (⟨#[91]⟩ ++ q) ⟨#[93]⟩).run Tryz.prog W = .ok (.string (⟨#[91]⟩ ++ q ++ ⟨#[93]⟩)) W) := by
  refine ⟨fun W => run_string_add_sum _ _ _ ?_, fun W => run_string_add_sum _ _ _ ?_⟩
  · show 1 + q.size ≤ _; omega
  · rw [ByteArray.size_append]; show 1 + q.size + 1 ≤ _; omega
theorem add_one46 (q : ByteArray) (h : q.size ≤ 1000000) : ∀ W, (Op.stringOp .add ⟨#[46]⟩ q).run Tryz.prog W = .ok (.string (⟨#[46]⟩ ++ q)) W := fun W => run_string_add_sum _ _ _ (by show 1 + q.size ≤ _; omega)
/-- A step's text. -/
def prL (t : Pm.St) : List UInt8 :=
  if t.k = 1 then (if Cm.nameB t.s.data.toList then 46 :: t.s.data.toList else 91 :: (Qm.quoteL t.s.data.toList ++ [93]))
  else if t.k = 2 then 91 :: (Lib.itoa t.n ++ [93]) else if t.k = 3 then [46, 42] else if t.k = 4 then [91, 42, 93] else [42, 42]
theorem mayB_key {t : Pm.St} (h : mayB t = true) (h1 : t.k = 1) : t.s.size ≤ 24 ∧ t.n = 0 ∧ Lib.validD t.s.data.toList = true := by
  have hc := (mayB_cl h).1
  unfold mayB at h
  rw [if_pos h1, Bool.and_eq_true, Bool.and_eq_true, decide_eq_true_eq, decide_eq_true_eq] at h
  refine ⟨h.2.1, ?_, h.2.2⟩
  rw [← hc]; unfold Pm.bareS; rw [if_pos h1]
theorem mayB_at {t : Pm.St} (h : mayB t = true) (h2 : t.k = 2) : 0 ≤ t.n ∧ t.n ≤ 9999 ∧ t.s = Pm.nul := by
  have hc := (mayB_cl h).1
  unfold mayB at h
  rw [if_neg (by omega), if_pos h2, Bool.and_eq_true, Bool.and_eq_true, decide_eq_true_eq, decide_eq_true_eq, decide_eq_true_eq] at h
  refine ⟨h.2.1, h.2.2, ?_⟩
  rw [← hc]; unfold Pm.bareS; rw [if_neg (by omega), if_pos h2]
theorem mayB_other {t : Pm.St} (h : mayB t = true) (h1 : t.k ≠ 1) (h2 : t.k ≠ 2) : (t.k = 3 ∨ t.k = 4 ∨ t.k = 5) ∧ t = ⟨t.k, Pm.nul, 0⟩ := by
  have hc := (mayB_cl h).1
  unfold mayB at h
  rw [if_neg h1, if_neg h2, Bool.and_eq_true, Bool.and_eq_true, decide_eq_true_eq, decide_eq_true_eq, decide_eq_true_eq] at h
  refine ⟨by omega, ?_⟩
  rw [← hc]; unfold Pm.bareS; rw [if_neg h1, if_neg h2]
set_option maxRecDepth 100000 in
set_option maxHeartbeats 1000000 in
theorem printStep_any (t : Pm.St) (hm : mayB t = true) (u : ByteArray) (hu : prL t = u.data.toList) (w : World) (hP : Pow w) : Calls Tryz.prog 27 #[valS t] w fun e w' => e = .returned (.string u) ∧ Below w.heap.size w w' := by
  have HU := phide hu
  have hB0 : ∀ o, Below w.heap.size w (w.alloc o) := fun o => (Below.refl _ _).alloc (Nat.le_refl _) _
  have hPa : ∀ o, Pow (w.alloc o) := fun o => hP.next (hB0 o)
  have hsz : ∀ o, w.heap.size ≤ (w.alloc o).heap.size := fun o => by simp
  by_cases h1 : t.k = 1
  · obtain ⟨h24, hn, hv⟩ := mayB_key hm h1
    obtain ⟨k, s, n⟩ := t
    simp only [] at h1 h24 hn hv
    subst h1 hn
    unfold prL at hu
    rw [if_pos rfl] at hu
    cases hnm : Cm.nameB s.data.toList
    · have CN : ∀ W, Calls Tryz.prog 39 #[.string s] W fun e w' => e = .returned (.bool false) ∧ w' = W := fun W => hnm ▸ mayName_any s W (by omega)
      obtain ⟨q, hq⟩ : ∃ q : ByteArray, Qm.quoteL s.data.toList = q.data.toList := ⟨⟨(Qm.quoteL s.data.toList).toArray⟩, by simp⟩
      have CQ := fun W => quote_c s q W (by omega) hq
      have hqs : q.size ≤ 1000000 := by
        have h6 := quo_le s.data.toList
        have h7 := congrArg List.length hq
        have h8 : s.data.toList.length = s.size := Array.length_toList
        have h9 : q.data.toList.length = q.size := Array.length_toList
        unfold Qm.quoteL at h7
        simp only [List.length_cons, List.length_append, List.length_nil] at h7
        omega
      obtain ⟨j1, j2⟩ := add_one91 q hqs
      have HE : Hid ((⟨#[91]⟩ : ByteArray) ++ q ++ ⟨#[93]⟩ = u) := phide (by
        refine pext ?_
        rw [← hu]
        simp only [hnm, Bool.false_eq_true, if_false, hq]
        simp)
      unfold valS
      clear hu HU hnm hv hm h24 hq hqs
      go_enter Tryz.func27, Tryz.ntmps27
      go_wp2_with (first | (go_at_call 39; refine (CN _).mono ?_; rintro e w2 ⟨rfl, rfl⟩) | (go_at_call 40; refine (CQ _).mono ?_; rintro e w2 ⟨rfl, b9⟩))
      go_ret
      exact ⟨by rw [← punhide HE]; rfl, (hB0 _).trans (b9.mono (hsz _))⟩
    · have CN : ∀ W, Calls Tryz.prog 39 #[.string s] W fun e w' => e = .returned (.bool true) ∧ w' = W := fun W => hnm ▸ mayName_any s W (by omega)
      have j1 := add_one46 s (by omega)
      have HE : Hid ((⟨#[46]⟩ : ByteArray) ++ s = u) := phide (by
        refine pext ?_
        rw [← hu]
        simp only [hnm, if_true]
        simp)
      unfold valS
      clear hu HU hnm hv hm h24
      go_enter Tryz.func27, Tryz.ntmps27
      go_wp2_with (first | (go_at_call 39; refine (CN _).mono ?_; rintro e w2 ⟨rfl, rfl⟩))
      go_ret
      exact ⟨by rw [← punhide HE]; rfl, hB0 _⟩
  · by_cases h2 : t.k = 2
    · obtain ⟨n0, n1, hs⟩ := mayB_at hm h2
      obtain ⟨k, s, n⟩ := t
      simp only [] at h2 n0 n1 hs
      subst h2 hs
      unfold prL at hu
      rw [if_neg h1, if_pos rfl] at hu
      obtain ⟨q, hq⟩ : ∃ q : ByteArray, Lib.itoa n = q.data.toList := ⟨⟨(Lib.itoa n).toArray⟩, by simp⟩
      have CI := fun W (hP : Pow W) => itoa_b n q (by omega) (by omega) W hP (by rw [hq])
      have hqs : q.size ≤ 1000000 := by
        have h7 := congrArg List.length hq
        have h9 : q.data.toList.length = q.size := Array.length_toList
        have := Lib.itoa_length_le n (by omega) (by omega)
        omega
      obtain ⟨j1, j2⟩ := add_one91 q hqs
      have HE : Hid ((⟨#[91]⟩ : ByteArray) ++ q ++ ⟨#[93]⟩ = u) := phide (by
        refine pext ?_
        rw [← hu, hq]
        simp)
      clear hq hqs
      unfold valS Pm.nul
      clear hu HU hm h1
      go_enter Tryz.func27, Tryz.ntmps27
      go_wp2_with (first | (go_at_call 41; refine (CI _ (hPa _)).mono ?_; rintro e w2 ⟨rfl, b9⟩))
      go_ret
      exact ⟨by rw [← punhide HE]; rfl, (hB0 _).trans (b9.mono (hsz _))⟩
    · obtain ⟨ho, he⟩ := mayB_other hm h1 h2
      obtain ⟨k, s, n⟩ := t
      simp only [Pm.St.mk.injEq, true_and] at he ho h1 h2
      obtain ⟨rfl, rfl⟩ := he
      unfold valS Pm.nul
      clear hm h1 h2
      rcases ho with rfl | rfl | rfl
      · obtain rfl : u = ⟨#[46, 42]⟩ := pext hu.symm
        clear hu HU
        go_enter Tryz.func27, Tryz.ntmps27
        go_wp2
        go_ret
        exact ⟨rfl, hB0 _⟩
      · obtain rfl : u = ⟨#[91, 42, 93]⟩ := pext hu.symm
        clear hu HU
        go_enter Tryz.func27, Tryz.ntmps27
        go_wp2
        go_ret
        exact ⟨rfl, hB0 _⟩
      · obtain rfl : u = ⟨#[42, 42]⟩ := pext hu.symm
        clear hu HU
        go_enter Tryz.func27, Tryz.ntmps27
        go_wp2
        go_ret
        exact ⟨rfl, hB0 _⟩
end Go.Proofs.YtomhgafpjpnmdaaGreatDoor
