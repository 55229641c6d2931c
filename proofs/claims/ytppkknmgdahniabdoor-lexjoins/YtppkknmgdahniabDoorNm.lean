/- What is proved here: LexNames, walked; conditions: the tables of unicode/utf8 and of signs lie. -/
import Derived.Test.YtppkknmgdahniabDoorNk
import Derived.Test.YtppkknmgdahniabDoorNl
import Derived.Lib.SmallJoins
namespace Go.Proofs.YtppkknmgdahniabDoor.Lex
set_option maxRecDepth 100000
open Go.RowKit Go.Joins Go.Proofs.YtppkknmgdahniabDoor.Nc Go.Proofs.YtppkknmgdahniabDoor.Nq
set_option maxRecDepth 100000
set_option linter.unusedVariables false
set_option linter.unusedSimpArgs false

theorem dapp (a b : ByteArray) : (a ++ b).data.toList = a.data.toList ++ b.data.toList := by rw [ByteArray.data_append, Array.toList_append]
theorem sneq (u : ByteArray) : (u.toList != u.toList) = false := bne_self_eq_false _
theorem err_some {l : Lx.Tx} {T : List (Lx.Tk × Nat)} (h : l.length ≤ 2000) (hT : Lx.lexO l = some T) (h6 : T.length ≤ 600) : Lx.errL l = 0 ∧ Lx.allL l = T := (err_of (by omega) hT).1 h6
set_option maxHeartbeats 8000000 in
theorem names10 (s t : ByteArray) (w : World) (hs9 : s.size ≤ maxLen) (ht9 : t.size ≤ maxLen) (hT : Tabs w) (hS : Sg w) :
    Calls Tryd.prog 6 #[.string s, .string t] w fun e w' => e = .returned (.bool true) ∧ Below w.heap.size w w' := by
  have HSH := lhide (shown10_any w hT hS)
  obtain ⟨q1, hq1⟩ : ∃ q, Cm.nameB s.data.toList = q := ⟨_, rfl⟩
  obtain ⟨q2, hq2⟩ : ∃ q, Cm.nameB t.data.toList = q := ⟨_, rfl⟩
  have C1 : ∀ W, Calls Tryd.prog 12 #[.string s] W fun e w' => e = .returned (.bool q1) ∧ w' = W := fun W => by
    have := rmayName_any s W (by unfold maxLen at hs9; omega)
    rw [hq1] at this; exact this
  have C2 : ∀ W, Calls Tryd.prog 12 #[.string t] W fun e w' => e = .returned (.bool q2) ∧ w' = W := fun W => by
    have := rmayName_any t W (by unfold maxLen at ht9; omega)
    rw [hq2] at this; exact this
  have HC1 := lhide C1
  have HC2 := lhide C2
  clear C1 C2 hs9 ht9
  by_cases hq : q1 = true ∧ q2 = true
  · obtain ⟨rfl, rfl⟩ := hq
    have n1 := Lx.name_len hq1
    have n2 := Lx.name_len hq2
    rw [lsize] at n1 n2
    have hxl : ((((s ++ ⟨#[32, 36]⟩) ++ s) ++ ⟨#[32, 46]⟩) ++ t : ByteArray).data.toList = (((s.data.toList ++ [32, 36]) ++ s.data.toList) ++ [32, 46]) ++ t.data.toList := by
      rw [dapp, dapp, dapp, dapp]
    have hxs : ((((s ++ ⟨#[32, 36]⟩) ++ s) ++ ⟨#[32, 46]⟩) ++ t : ByteArray).size = s.size + s.size + t.size + 4 := by
      rw [ByteArray.size_append, ByteArray.size_append, ByteArray.size_append, ByteArray.size_append]
      show s.size + 2 + s.size + 2 + t.size = _
      omega
    have k3 := Lx.lex_three hq1 hq2
    rw [← hxl] at k3
    simp only [lsize] at k3
    obtain ⟨e1, e2⟩ := err_some (by rw [lsize, hxs]; omega) k3 (by simp)
    have CA : Hid (∀ W, Below w.heap.size w W → Calls Tryd.prog 8 #[.string ((((s ++ ⟨#[32, 36]⟩) ++ s) ++ ⟨#[32, 46]⟩) ++ t)] W fun e w' => ∃ V, e = .returned (.tuple #[V, .int .i64 0]) ∧ TokIn w' V (s.size + s.size + t.size + 4) [(⟨1, s.data.toList, false, [], 0⟩, s.size + s.size + t.size + 4), (⟨2, s.data.toList, false, [], 0⟩, s.size + t.size + 3), (⟨3, t.data.toList, false, [], 0⟩, t.size + 1)] ∧ Below W.heap.size W w') := lhide (fun W hW => by
      have := all_any ((((s ++ ⟨#[32, 36]⟩) ++ s) ++ ⟨#[32, 46]⟩) ++ t) (by rw [hxs]; omega) W (Nq.Tabs.step hT hW) (Sg.below hS hW)
      rw [e1, e2, hxs] at this
      exact this)
    have a1 : ∀ W, (Op.stringOp .add s ⟨#[32, 36]⟩).run Tryd.prog W = .ok (.string (s ++ ⟨#[32, 36]⟩)) W := fun W => run_string_add_sum _ _ _ (by show s.size + 2 ≤ _; omega)
    have a2 : ∀ W, (Op.stringOp .add (s ++ ⟨#[32, 36]⟩) s).run Tryd.prog W = .ok (.string ((s ++ ⟨#[32, 36]⟩) ++ s)) W := fun W => run_string_add_sum _ _ _ (by rw [ByteArray.size_append]; show s.size + 2 + s.size ≤ _; omega)
    have a3 : ∀ W, (Op.stringOp .add ((s ++ ⟨#[32, 36]⟩) ++ s) ⟨#[32, 46]⟩).run Tryd.prog W = .ok (.string (((s ++ ⟨#[32, 36]⟩) ++ s) ++ ⟨#[32, 46]⟩)) W := fun W => run_string_add_sum _ _ _ (by rw [ByteArray.size_append, ByteArray.size_append]; show s.size + 2 + s.size + 2 ≤ _; omega)
    have a4 : ∀ W, (Op.stringOp .add (((s ++ ⟨#[32, 36]⟩) ++ s) ++ ⟨#[32, 46]⟩) t).run Tryd.prog W = .ok (.string ((((s ++ ⟨#[32, 36]⟩) ++ s) ++ ⟨#[32, 46]⟩) ++ t)) W := fun W => run_string_add_sum _ _ _ (by rw [ByteArray.size_append, ByteArray.size_append, ByteArray.size_append]; show s.size + 2 + s.size + 2 + t.size ≤ _; omega)
    have a5 : ∀ W, (Op.stringOp .add s t).run Tryd.prog W = .ok (.string (s ++ t)) W := fun W => run_string_add_sum _ _ _ (by omega)
    have hts : (s ++ t).size = s.size + t.size := ByteArray.size_append
    have htl := dapp s t
    have hw2 : IntKind.i64.wrap ((s.size : Int) + (t.size : Int)) = ((s.size + t.size : Nat) : Int) := by rw [IntKind.wrap_i64]; omega
    have f1 := sneq s
    have f2 := sneq t
    have f3 := sbeq (s ++ t)
    clear k3 hxl e1 e2 hxs
    by_cases hlong : 24 < s.size + t.size
    · have k2 := Lx.lex_long hq1 hq2 (by rw [lsize, lsize]; exact hlong)
      rw [← htl] at k2
      obtain ⟨e1, e2⟩ := err_wrong (l := (s ++ t).data.toList) (by rw [lsize, hts]; omega) k2
      have CB : Hid (∀ W, Below w.heap.size w W → Calls Tryd.prog 8 #[.string (s ++ t)] W fun e w' => ∃ V, e = .returned (.tuple #[V, .int .i64 30]) ∧ TokIn w' V (s.size + t.size) [] ∧ Below W.heap.size W w') := lhide (fun W hW => by
        have := all_any (s ++ t) (by rw [hts]; omega) W (Nq.Tabs.step hT hW) (Sg.below hS hW)
        rw [e1, e2, hts] at this
        exact this)
      have hlo : (24 : Int) < ((s.size + t.size : Nat) : Int) := by omega
      clear hT hS hq1 hq2 k2 e1 e2 htl hts n1 n2 hlong
      go_enter Tryd.func6, Tryd.ntmps6
      go_wp2_with fail
      refine (lunhide HSH).mono ?_
      rintro e w1 ⟨rfl, b1⟩
      have HB1 := lhide b1
      clear b1
      go_wp2_with fail
      refine (lunhide HC1 _).mono ?_
      rintro e w2 ⟨rfl, rfl⟩
      go_wp2_with fail
      refine (lunhide HC2 _).mono ?_
      rintro e w3 ⟨rfl, rfl⟩
      go_wp2_with fail
      refine (lunhide CA _ (lunhide HB1)).mono ?_
      rintro e w4 ⟨V, rfl, hV, b4⟩
      have HV := lhide hV
      have HB4 := lhide ((lunhide HB1).trans (b4.mono (lunhide HB1).size))
      clear hV b4
      obtain ⟨va, vc, rfl⟩ := (lunhide HV).shape
      go_wp2_with fail
      refine (lunhide CB _ (lunhide HB4)).mono ?_
      rintro e w5 ⟨V2, rfl, hV2, b5⟩
      obtain ⟨va2, vc2, rfl⟩ := hV2.shape
      have HV2 := lhide hV2
      have hV := (lunhide HV).below b5
      have HBF := lhide ((lunhide HB4).trans (b5.mono (lunhide HB4).size))
      obtain ⟨g, rfl, -, hg, c0, -, c2, -, -, -⟩ := tok_at hV 0 (by simp)
      obtain ⟨g2, e9, -, -, d0, -, d2, -, -, -⟩ := tok_at hV 1 (by simp)
      obtain rfl : g = g2 := (Addr.mk.inj (Option.some.inj e9)).1
      obtain ⟨g2, e9, -, -, k0, -, k2, -, -, -⟩ := tok_at hV 2 (by simp)
      obtain rfl : g = g2 := (Addr.mk.inj (Option.some.inj e9)).1
      simp only [List.getElem_cons_zero, List.getElem_cons_succ, Nat.zero_mul, Nat.zero_add, mk_of] at c0 c2 d0 d2 k0 k2
      simp only [List.length_cons, List.length_nil, Nat.zero_add] at *
      clear hV hV2 b5 e9 hg HV
      go_wp2_with fail
      go_ret
      exact ⟨rfl, lunhide HBF⟩
    · have k2 := Lx.lex_two hq1 hq2 (by rw [lsize, lsize]; omega)
      rw [← htl] at k2
      obtain ⟨e1, e2⟩ := err_some (l := (s ++ t).data.toList) (by rw [lsize, hts]; omega) k2 (by simp)
      simp only [lsize] at e2
      have CB : Hid (∀ W, Below w.heap.size w W → Calls Tryd.prog 8 #[.string (s ++ t)] W fun e w' => ∃ V, e = .returned (.tuple #[V, .int .i64 0]) ∧ TokIn w' V (s.size + t.size) [(⟨1, (s ++ t).data.toList, false, [], 0⟩, s.size + t.size)] ∧ Below W.heap.size W w') := lhide (fun W hW => by
        have := all_any (s ++ t) (by rw [hts]; omega) W (Nq.Tabs.step hT hW) (Sg.below hS hW)
        rw [e1, e2, hts] at this
        exact this)
      have hlo : ¬ (24 : Int) < ((s.size + t.size : Nat) : Int) := by omega
      clear hT hS hq1 hq2 k2 e1 e2 htl hts n1 n2 hlong
      go_enter Tryd.func6, Tryd.ntmps6
      go_wp2_with fail
      refine (lunhide HSH).mono ?_
      rintro e w1 ⟨rfl, b1⟩
      have HB1 := lhide b1
      clear b1
      go_wp2_with fail
      refine (lunhide HC1 _).mono ?_
      rintro e w2 ⟨rfl, rfl⟩
      go_wp2_with fail
      refine (lunhide HC2 _).mono ?_
      rintro e w3 ⟨rfl, rfl⟩
      go_wp2_with fail
      refine (lunhide CA _ (lunhide HB1)).mono ?_
      rintro e w4 ⟨V, rfl, hV, b4⟩
      have HV := lhide hV
      have HB4 := lhide ((lunhide HB1).trans (b4.mono (lunhide HB1).size))
      clear hV b4
      obtain ⟨va, vc, rfl⟩ := (lunhide HV).shape
      go_wp2_with fail
      refine (lunhide CB _ (lunhide HB4)).mono ?_
      rintro e w5 ⟨V2, rfl, hV2, b5⟩
      obtain ⟨va2, vc2, rfl⟩ := hV2.shape
      have HV2 := lhide hV2
      have hV := (lunhide HV).below b5
      have HBF := lhide ((lunhide HB4).trans (b5.mono (lunhide HB4).size))
      obtain ⟨g, rfl, -, hg, c0, -, c2, -, -, -⟩ := tok_at hV 0 (by simp)
      obtain ⟨g2, e9, -, -, d0, -, d2, -, -, -⟩ := tok_at hV 1 (by simp)
      obtain rfl : g = g2 := (Addr.mk.inj (Option.some.inj e9)).1
      obtain ⟨g2, e9, -, -, k0, -, k2, -, -, -⟩ := tok_at hV 2 (by simp)
      obtain rfl : g = g2 := (Addr.mk.inj (Option.some.inj e9)).1
      simp only [List.getElem_cons_zero, List.getElem_cons_succ, Nat.zero_mul, Nat.zero_add, mk_of] at c0 c2 d0 d2 k0 k2
      simp only [List.length_cons, List.length_nil, Nat.zero_add] at *
      clear hV hV2 b5 e9 hg HV
      obtain ⟨h1, e9, -, -, -, -, m2, -, -, -⟩ := tok_at (lunhide HV2) 0 (by simp)
      subst e9
      simp only [List.getElem_cons_zero, Nat.zero_mul, Nat.zero_add, mk_of] at m2
      go_wp2_with fail
      go_ret
      exact ⟨rfl, lunhide HBF⟩
  · clear hT hS
    cases q1 with
    | false =>
      clear hq hq1 hq2
      go_enter Tryd.func6, Tryd.ntmps6
      go_wp2_with fail
      refine (lunhide HSH).mono ?_
      rintro e w1 ⟨rfl, b1⟩
      have HB1 := lhide b1
      clear b1
      go_wp2_with fail
      refine (lunhide HC1 _).mono ?_
      rintro e w2 ⟨rfl, rfl⟩
      go_wp2_with fail
      refine (lunhide HC2 _).mono ?_
      rintro e w3 ⟨rfl, rfl⟩
      go_wp2_with fail
      go_ret
      exact ⟨rfl, lunhide HB1⟩
    | true =>
      obtain rfl : q2 = false := by
        cases q2
        · rfl
        · exact absurd ⟨rfl, rfl⟩ hq
      clear hq hq1 hq2
      go_enter Tryd.func6, Tryd.ntmps6
      go_wp2_with fail
      refine (lunhide HSH).mono ?_
      rintro e w1 ⟨rfl, b1⟩
      have HB1 := lhide b1
      clear b1
      go_wp2_with fail
      refine (lunhide HC1 _).mono ?_
      rintro e w2 ⟨rfl, rfl⟩
      go_wp2_with fail
      refine (lunhide HC2 _).mono ?_
      rintro e w3 ⟨rfl, rfl⟩
      go_wp2_with fail
      go_ret
      exact ⟨rfl, lunhide HB1⟩
end Go.Proofs.YtppkknmgdahniabDoor.Lex
