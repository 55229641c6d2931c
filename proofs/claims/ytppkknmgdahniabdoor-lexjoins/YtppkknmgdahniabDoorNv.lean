/- What is proved here: LexBack, walked; conditions: the tables of unicode/utf8 and of signs lie. -/
import Derived.Test.YtppkknmgdahniabDoorNu
import Derived.Lib.SmallJoins
namespace Go.Proofs.YtppkknmgdahniabDoor.Lex
set_option maxRecDepth 100000
open Go.RowKit Go.Joins Go.Proofs.YtppkknmgdahniabDoor.Nc Go.Proofs.YtppkknmgdahniabDoor.Nq
set_option maxRecDepth 100000
set_option linter.unusedVariables false
set_option linter.unusedSimpArgs false

theorem TokIn.nil_shape {w : World} {V : Value} {N : Nat} (h : TokIn w V N []) : ∃ a c, V = .slice a 0 c := own_shape h
theorem back_all (s : ByteArray) (h6 : s.size ≤ 600) (w : World) (hT : Tabs w) (hS : Sg w) :
    (Lx.lexO s.data.toList = none ∧ Hid (∀ W, Below w.heap.size w W → Calls Tryd.prog 8 #[.string s] W fun e w' => ∃ V, e = .returned (.tuple #[V, .int .i64 30]) ∧ TokIn w' V s.size [] ∧ Below W.heap.size W w')) ∨
    ∃ T, Lx.lexO s.data.toList = some T ∧ Hid (∀ W, Below w.heap.size w W → Calls Tryd.prog 8 #[.string s] W fun e w' => ∃ V, e = .returned (.tuple #[V, .int .i64 0]) ∧ TokIn w' V s.size T ∧ Below W.heap.size W w') := by
  rcases hlx : Lx.lexO s.data.toList with _ | T
  · refine .inl ⟨rfl, lhide (fun W hW => ?_)⟩
    obtain ⟨e1, e2⟩ := err_wrong (l := s.data.toList) (by rw [lsize]; omega) hlx
    have := all_any s (by omega) W (Nq.Tabs.step hT hW) (Sg.below hS hW)
    rw [e1, e2] at this
    exact this
  · refine .inr ⟨T, rfl, lhide (fun W hW => ?_)⟩
    have hc := Lx.lex_count _ s.data.toList (Nat.le_refl _) T hlx
    rw [lsize] at hc
    obtain ⟨e1, e2⟩ := err_some (l := s.data.toList) (by rw [lsize]; omega) hlx (by omega)
    have := all_any s (by omega) W (Nq.Tabs.step hT hW) (Sg.below hS hW)
    rw [e1, e2] at this
    exact this
set_option maxHeartbeats 16000000 in
theorem back10 (s0 : ByteArray) (w : World) (hs0 : s0.size ≤ maxLen) (hT : Tabs w) (hS : Sg w) :
    Calls Tryd.prog 3 #[.string s0] w fun e w' => e = .returned (.bool true) ∧ Below w.heap.size w w' := by
  have HSH := lhide (shown10_any w hT hS)
  by_cases h : 600 < s0.size
  · have hi : (600 : Int) < (s0.size : Int) := by omega
    have e9 : fewB 600 s0 = s0.extract 0 600 := if_pos h
    have h6 : (s0.extract 0 600).size ≤ 600 := by rw [← e9]; exact few_size 600 s0
    have hle : (600 : Int) ≤ (s0.size : Int) := by omega
    clear e9 h
    rcases back_all (s0.extract 0 600) h6 w hT hS with ⟨hlx, HCA⟩ | ⟨T, hlx, HCA⟩
    · clear hlx hs0
      clear hT hS
      go_enter Tryd.func3, Tryd.ntmps3
      go_wp2_with fail
      refine (lunhide HSH).mono ?_
      rintro e w1 ⟨rfl, b1⟩
      have HB1 := lhide b1
      clear b1
      go_wp2_with fail
      refine (lunhide HCA _ (lunhide HB1)).mono ?_
      rintro e w2 ⟨V, rfl, hV, b2⟩
      have HB2 := lhide ((lunhide HB1).trans (b2.mono (lunhide HB1).size))
      clear b2 HB1 HCA HSH
      obtain ⟨va, vc, rfl⟩ := hV.nil_shape
      clear hV
      go_wp2_with fail
      go_ret
      exact ⟨rfl, lunhide HB2⟩
    · obtain ⟨p, m, n, f, g, one, two, TM, TN, qsz, hpl, cp, ca, cb, c1, c2, q1, q2, q3⟩ := back_in (s0.extract 0 600) T h6 hlx w (Nat.le_trans h6 (by decide)) hT hS
      have a1 : ∀ W, (Op.stringOp .add ⟨#[32, 10]⟩ p).run Tryd.prog W = .ok (.string (⟨#[32, 10]⟩ ++ p)) W := fun W => run_string_add_sum _ _ _ (by show 2 + p.size ≤ _; omega)
      have a2 : ∀ W, (Op.stringOp .add (⟨#[32, 10]⟩ ++ p) ⟨#[9, 32]⟩).run Tryd.prog W = .ok (.string ((⟨#[32, 10]⟩ ++ p) ++ ⟨#[9, 32]⟩)) W := fun W => run_string_add_sum _ _ _ (by rw [ByteArray.size_append]; show 2 + p.size + 2 ≤ _; omega)
      have CP := lhide cp
      have CA := lhide ca
      have CB := lhide cb
      have C1 := lhide c1
      have C2 := lhide c2
      clear cp ca cb c1 c2 hlx hs0
      by_cases c1 : 2000 < p.size
      · obtain rfl := q1 c1
        have g1 : (2000 : Int) < (p.size : Int) := by omega
        clear q1 q2 q3 c1 hpl
        clear hT hS
        go_enter Tryd.func3, Tryd.ntmps3
        go_wp2_with fail
        refine (lunhide HSH).mono ?_
        rintro e w1 ⟨rfl, b1⟩
        have HB1 := lhide b1
        clear b1
        go_wp2_with fail
        refine (lunhide HCA _ (lunhide HB1)).mono ?_
        rintro e w2 ⟨V, rfl, hV, b2⟩
        have HB2 := lhide ((lunhide HB1).trans (b2.mono (lunhide HB1).size))
        clear b2 HB1 HCA HSH
        have HV := lhide hV
        clear hV
        go_wp2_with fail
        refine (lunhide CP _ V (lunhide HV)).mono ?_
        rintro e w3 ⟨rfl, b3⟩
        have HV3 := lhide ((lunhide HV).below b3)
        have HB3 := lhide ((lunhide HB2).trans (b3.mono (lunhide HB2).size))
        clear b3 HB2 HV CP
        go_wp2_with fail
        refine (lunhide CA _ (lunhide HB3)).mono ?_
        rintro e w4 ⟨V2, rfl, hM, b4⟩
        have HV4 := lhide ((lunhide HV3).below b4)
        have HM4 := lhide hM
        have HB4 := lhide ((lunhide HB3).trans (b4.mono (lunhide HB3).size))
        clear b4 HB3 HV3 hM CA
        go_wp2_with fail
        refine (lunhide CB _ (lunhide HB4)).mono ?_
        rintro e w5 ⟨V3, rfl, hN, b5⟩
        have HV5 := lhide ((lunhide HV4).below b5)
        have HM5 := lhide ((lunhide HM4).below b5)
        have HN5 := lhide hN
        have HB5 := lhide ((lunhide HB4).trans (b5.mono (lunhide HB4).size))
        clear b5 HB4 HV4 HM4 hN CB a1 a2
        go_wp2_with fail
        refine (lunhide C1 _ V V2 (lunhide HV5) (lunhide HM5)).mono ?_
        rintro e w6 ⟨rfl, b6⟩
        have HV6 := lhide ((lunhide HV5).below b6)
        have HN6 := lhide ((lunhide HN5).below b6)
        have HB6 := lhide ((lunhide HB5).trans (b6.mono (lunhide HB5).size))
        clear b6 HB5 HV5 HM5 HN5 C1
        go_wp2_with fail
        refine (lunhide C2 _ V V3 (lunhide HV6) (lunhide HN6)).mono ?_
        rintro e w7 ⟨rfl, b7⟩
        have HB7 := lhide ((lunhide HB6).trans (b7.mono (lunhide HB6).size))
        clear b7 HB6 HV6 HN6 C2
        go_wp2_with fail
        go_ret
        exact ⟨rfl, lunhide HB7⟩
      · by_cases c2 : 1996 < p.size
        · obtain ⟨rfl, rfl⟩ := q2 (by omega)
          have g1 : ¬ (2000 : Int) < (p.size : Int) := by omega
          have g2 : (1996 : Int) < (p.size : Int) := by omega
          clear q1 q2 q3 c1 c2 hpl
          clear hT hS
          go_enter Tryd.func3, Tryd.ntmps3
          go_wp2_with fail
          refine (lunhide HSH).mono ?_
          rintro e w1 ⟨rfl, b1⟩
          have HB1 := lhide b1
          clear b1
          go_wp2_with fail
          refine (lunhide HCA _ (lunhide HB1)).mono ?_
          rintro e w2 ⟨V, rfl, hV, b2⟩
          have HB2 := lhide ((lunhide HB1).trans (b2.mono (lunhide HB1).size))
          clear b2 HB1 HCA HSH
          have HV := lhide hV
          clear hV
          go_wp2_with fail
          refine (lunhide CP _ V (lunhide HV)).mono ?_
          rintro e w3 ⟨rfl, b3⟩
          have HV3 := lhide ((lunhide HV).below b3)
          have HB3 := lhide ((lunhide HB2).trans (b3.mono (lunhide HB2).size))
          clear b3 HB2 HV CP
          go_wp2_with fail
          refine (lunhide CA _ (lunhide HB3)).mono ?_
          rintro e w4 ⟨V2, rfl, hM, b4⟩
          have HV4 := lhide ((lunhide HV3).below b4)
          have HM4 := lhide hM
          have HB4 := lhide ((lunhide HB3).trans (b4.mono (lunhide HB3).size))
          clear b4 HB3 HV3 hM CA
          go_wp2_with fail
          refine (lunhide CB _ (lunhide HB4)).mono ?_
          rintro e w5 ⟨V3, rfl, hN, b5⟩
          have HV5 := lhide ((lunhide HV4).below b5)
          have HM5 := lhide ((lunhide HM4).below b5)
          have HN5 := lhide hN
          have HB5 := lhide ((lunhide HB4).trans (b5.mono (lunhide HB4).size))
          clear b5 HB4 HV4 HM4 hN CB a1 a2
          go_wp2_with fail
          refine (lunhide C1 _ V V2 (lunhide HV5) (lunhide HM5)).mono ?_
          rintro e w6 ⟨rfl, b6⟩
          have HV6 := lhide ((lunhide HV5).below b6)
          have HN6 := lhide ((lunhide HN5).below b6)
          have HB6 := lhide ((lunhide HB5).trans (b6.mono (lunhide HB5).size))
          clear b6 HB5 HV5 HM5 HN5 C1
          go_wp2_with fail
          refine (lunhide C2 _ V V3 (lunhide HV6) (lunhide HN6)).mono ?_
          rintro e w7 ⟨rfl, b7⟩
          have HB7 := lhide ((lunhide HB6).trans (b7.mono (lunhide HB6).size))
          clear b7 HB6 HV6 HN6 C2
          go_wp2_with fail
          go_ret
          exact ⟨rfl, lunhide HB7⟩
        · obtain ⟨rfl, rfl⟩ := q2 (by omega)
          obtain ⟨rfl, rfl⟩ := q3 (by omega)
          have g1 : ¬ (2000 : Int) < (p.size : Int) := by omega
          have g2 : ¬ (1996 : Int) < (p.size : Int) := by omega
          clear q1 q2 q3 c1 c2 hpl
          clear hT hS
          go_enter Tryd.func3, Tryd.ntmps3
          go_wp2_with fail
          refine (lunhide HSH).mono ?_
          rintro e w1 ⟨rfl, b1⟩
          have HB1 := lhide b1
          clear b1
          go_wp2_with fail
          refine (lunhide HCA _ (lunhide HB1)).mono ?_
          rintro e w2 ⟨V, rfl, hV, b2⟩
          have HB2 := lhide ((lunhide HB1).trans (b2.mono (lunhide HB1).size))
          clear b2 HB1 HCA HSH
          have HV := lhide hV
          clear hV
          go_wp2_with fail
          refine (lunhide CP _ V (lunhide HV)).mono ?_
          rintro e w3 ⟨rfl, b3⟩
          have HV3 := lhide ((lunhide HV).below b3)
          have HB3 := lhide ((lunhide HB2).trans (b3.mono (lunhide HB2).size))
          clear b3 HB2 HV CP
          go_wp2_with fail
          refine (lunhide CA _ (lunhide HB3)).mono ?_
          rintro e w4 ⟨V2, rfl, hM, b4⟩
          have HV4 := lhide ((lunhide HV3).below b4)
          have HM4 := lhide hM
          have HB4 := lhide ((lunhide HB3).trans (b4.mono (lunhide HB3).size))
          clear b4 HB3 HV3 hM CA
          go_wp2_with fail
          refine (lunhide CB _ (lunhide HB4)).mono ?_
          rintro e w5 ⟨V3, rfl, hN, b5⟩
          have HV5 := lhide ((lunhide HV4).below b5)
          have HM5 := lhide ((lunhide HM4).below b5)
          have HN5 := lhide hN
          have HB5 := lhide ((lunhide HB4).trans (b5.mono (lunhide HB4).size))
          clear b5 HB4 HV4 HM4 hN CB a1 a2
          go_wp2_with fail
          refine (lunhide C1 _ V V2 (lunhide HV5) (lunhide HM5)).mono ?_
          rintro e w6 ⟨rfl, b6⟩
          have HV6 := lhide ((lunhide HV5).below b6)
          have HN6 := lhide ((lunhide HN5).below b6)
          have HB6 := lhide ((lunhide HB5).trans (b6.mono (lunhide HB5).size))
          clear b6 HB5 HV5 HM5 HN5 C1
          go_wp2_with fail
          refine (lunhide C2 _ V V3 (lunhide HV6) (lunhide HN6)).mono ?_
          rintro e w7 ⟨rfl, b7⟩
          have HB7 := lhide ((lunhide HB6).trans (b7.mono (lunhide HB6).size))
          clear b7 HB6 HV6 HN6 C2
          go_wp2_with fail
          go_ret
          exact ⟨rfl, lunhide HB7⟩
  · have hi : ¬ (600 : Int) < (s0.size : Int) := by omega
    have h6 : s0.size ≤ 600 := by omega
    clear h
    rcases back_all s0 h6 w hT hS with ⟨hlx, HCA⟩ | ⟨T, hlx, HCA⟩
    · clear hlx hs0
      clear hT hS
      go_enter Tryd.func3, Tryd.ntmps3
      go_wp2_with fail
      refine (lunhide HSH).mono ?_
      rintro e w1 ⟨rfl, b1⟩
      have HB1 := lhide b1
      clear b1
      go_wp2_with fail
      refine (lunhide HCA _ (lunhide HB1)).mono ?_
      rintro e w2 ⟨V, rfl, hV, b2⟩
      have HB2 := lhide ((lunhide HB1).trans (b2.mono (lunhide HB1).size))
      clear b2 HB1 HCA HSH
      obtain ⟨va, vc, rfl⟩ := hV.nil_shape
      clear hV
      go_wp2_with fail
      go_ret
      exact ⟨rfl, lunhide HB2⟩
    · obtain ⟨p, m, n, f, g, one, two, TM, TN, qsz, hpl, cp, ca, cb, c1, c2, q1, q2, q3⟩ := back_in s0 T h6 hlx w (Nat.le_trans h6 (by decide)) hT hS
      have a1 : ∀ W, (Op.stringOp .add ⟨#[32, 10]⟩ p).run Tryd.prog W = .ok (.string (⟨#[32, 10]⟩ ++ p)) W := fun W => run_string_add_sum _ _ _ (by show 2 + p.size ≤ _; omega)
      have a2 : ∀ W, (Op.stringOp .add (⟨#[32, 10]⟩ ++ p) ⟨#[9, 32]⟩).run Tryd.prog W = .ok (.string ((⟨#[32, 10]⟩ ++ p) ++ ⟨#[9, 32]⟩)) W := fun W => run_string_add_sum _ _ _ (by rw [ByteArray.size_append]; show 2 + p.size + 2 ≤ _; omega)
      have CP := lhide cp
      have CA := lhide ca
      have CB := lhide cb
      have C1 := lhide c1
      have C2 := lhide c2
      clear cp ca cb c1 c2 hlx hs0
      by_cases c1 : 2000 < p.size
      · obtain rfl := q1 c1
        have g1 : (2000 : Int) < (p.size : Int) := by omega
        clear q1 q2 q3 c1 hpl
        clear hT hS
        go_enter Tryd.func3, Tryd.ntmps3
        go_wp2_with fail
        refine (lunhide HSH).mono ?_
        rintro e w1 ⟨rfl, b1⟩
        have HB1 := lhide b1
        clear b1
        go_wp2_with fail
        refine (lunhide HCA _ (lunhide HB1)).mono ?_
        rintro e w2 ⟨V, rfl, hV, b2⟩
        have HB2 := lhide ((lunhide HB1).trans (b2.mono (lunhide HB1).size))
        clear b2 HB1 HCA HSH
        have HV := lhide hV
        clear hV
        go_wp2_with fail
        refine (lunhide CP _ V (lunhide HV)).mono ?_
        rintro e w3 ⟨rfl, b3⟩
        have HV3 := lhide ((lunhide HV).below b3)
        have HB3 := lhide ((lunhide HB2).trans (b3.mono (lunhide HB2).size))
        clear b3 HB2 HV CP
        go_wp2_with fail
        refine (lunhide CA _ (lunhide HB3)).mono ?_
        rintro e w4 ⟨V2, rfl, hM, b4⟩
        have HV4 := lhide ((lunhide HV3).below b4)
        have HM4 := lhide hM
        have HB4 := lhide ((lunhide HB3).trans (b4.mono (lunhide HB3).size))
        clear b4 HB3 HV3 hM CA
        go_wp2_with fail
        refine (lunhide CB _ (lunhide HB4)).mono ?_
        rintro e w5 ⟨V3, rfl, hN, b5⟩
        have HV5 := lhide ((lunhide HV4).below b5)
        have HM5 := lhide ((lunhide HM4).below b5)
        have HN5 := lhide hN
        have HB5 := lhide ((lunhide HB4).trans (b5.mono (lunhide HB4).size))
        clear b5 HB4 HV4 HM4 hN CB a1 a2
        go_wp2_with fail
        refine (lunhide C1 _ V V2 (lunhide HV5) (lunhide HM5)).mono ?_
        rintro e w6 ⟨rfl, b6⟩
        have HV6 := lhide ((lunhide HV5).below b6)
        have HN6 := lhide ((lunhide HN5).below b6)
        have HB6 := lhide ((lunhide HB5).trans (b6.mono (lunhide HB5).size))
        clear b6 HB5 HV5 HM5 HN5 C1
        go_wp2_with fail
        refine (lunhide C2 _ V V3 (lunhide HV6) (lunhide HN6)).mono ?_
        rintro e w7 ⟨rfl, b7⟩
        have HB7 := lhide ((lunhide HB6).trans (b7.mono (lunhide HB6).size))
        clear b7 HB6 HV6 HN6 C2
        go_wp2_with fail
        go_ret
        exact ⟨rfl, lunhide HB7⟩
      · by_cases c2 : 1996 < p.size
        · obtain ⟨rfl, rfl⟩ := q2 (by omega)
          have g1 : ¬ (2000 : Int) < (p.size : Int) := by omega
          have g2 : (1996 : Int) < (p.size : Int) := by omega
          clear q1 q2 q3 c1 c2 hpl
          clear hT hS
          go_enter Tryd.func3, Tryd.ntmps3
          go_wp2_with fail
          refine (lunhide HSH).mono ?_
          rintro e w1 ⟨rfl, b1⟩
          have HB1 := lhide b1
          clear b1
          go_wp2_with fail
          refine (lunhide HCA _ (lunhide HB1)).mono ?_
          rintro e w2 ⟨V, rfl, hV, b2⟩
          have HB2 := lhide ((lunhide HB1).trans (b2.mono (lunhide HB1).size))
          clear b2 HB1 HCA HSH
          have HV := lhide hV
          clear hV
          go_wp2_with fail
          refine (lunhide CP _ V (lunhide HV)).mono ?_
          rintro e w3 ⟨rfl, b3⟩
          have HV3 := lhide ((lunhide HV).below b3)
          have HB3 := lhide ((lunhide HB2).trans (b3.mono (lunhide HB2).size))
          clear b3 HB2 HV CP
          go_wp2_with fail
          refine (lunhide CA _ (lunhide HB3)).mono ?_
          rintro e w4 ⟨V2, rfl, hM, b4⟩
          have HV4 := lhide ((lunhide HV3).below b4)
          have HM4 := lhide hM
          have HB4 := lhide ((lunhide HB3).trans (b4.mono (lunhide HB3).size))
          clear b4 HB3 HV3 hM CA
          go_wp2_with fail
          refine (lunhide CB _ (lunhide HB4)).mono ?_
          rintro e w5 ⟨V3, rfl, hN, b5⟩
          have HV5 := lhide ((lunhide HV4).below b5)
          have HM5 := lhide ((lunhide HM4).below b5)
          have HN5 := lhide hN
          have HB5 := lhide ((lunhide HB4).trans (b5.mono (lunhide HB4).size))
          clear b5 HB4 HV4 HM4 hN CB a1 a2
          go_wp2_with fail
          refine (lunhide C1 _ V V2 (lunhide HV5) (lunhide HM5)).mono ?_
          rintro e w6 ⟨rfl, b6⟩
          have HV6 := lhide ((lunhide HV5).below b6)
          have HN6 := lhide ((lunhide HN5).below b6)
          have HB6 := lhide ((lunhide HB5).trans (b6.mono (lunhide HB5).size))
          clear b6 HB5 HV5 HM5 HN5 C1
          go_wp2_with fail
          refine (lunhide C2 _ V V3 (lunhide HV6) (lunhide HN6)).mono ?_
          rintro e w7 ⟨rfl, b7⟩
          have HB7 := lhide ((lunhide HB6).trans (b7.mono (lunhide HB6).size))
          clear b7 HB6 HV6 HN6 C2
          go_wp2_with fail
          go_ret
          exact ⟨rfl, lunhide HB7⟩
        · obtain ⟨rfl, rfl⟩ := q2 (by omega)
          obtain ⟨rfl, rfl⟩ := q3 (by omega)
          have g1 : ¬ (2000 : Int) < (p.size : Int) := by omega
          have g2 : ¬ (1996 : Int) < (p.size : Int) := by omega
          clear q1 q2 q3 c1 c2 hpl
          clear hT hS
          go_enter Tryd.func3, Tryd.ntmps3
          go_wp2_with fail
          refine (lunhide HSH).mono ?_
          rintro e w1 ⟨rfl, b1⟩
          have HB1 := lhide b1
          clear b1
          go_wp2_with fail
          refine (lunhide HCA _ (lunhide HB1)).mono ?_
          rintro e w2 ⟨V, rfl, hV, b2⟩
          have HB2 := lhide ((lunhide HB1).trans (b2.mono (lunhide HB1).size))
          clear b2 HB1 HCA HSH
          have HV := lhide hV
          clear hV
          go_wp2_with fail
          refine (lunhide CP _ V (lunhide HV)).mono ?_
          rintro e w3 ⟨rfl, b3⟩
          have HV3 := lhide ((lunhide HV).below b3)
          have HB3 := lhide ((lunhide HB2).trans (b3.mono (lunhide HB2).size))
          clear b3 HB2 HV CP
          go_wp2_with fail
          refine (lunhide CA _ (lunhide HB3)).mono ?_
          rintro e w4 ⟨V2, rfl, hM, b4⟩
          have HV4 := lhide ((lunhide HV3).below b4)
          have HM4 := lhide hM
          have HB4 := lhide ((lunhide HB3).trans (b4.mono (lunhide HB3).size))
          clear b4 HB3 HV3 hM CA
          go_wp2_with fail
          refine (lunhide CB _ (lunhide HB4)).mono ?_
          rintro e w5 ⟨V3, rfl, hN, b5⟩
          have HV5 := lhide ((lunhide HV4).below b5)
          have HM5 := lhide ((lunhide HM4).below b5)
          have HN5 := lhide hN
          have HB5 := lhide ((lunhide HB4).trans (b5.mono (lunhide HB4).size))
          clear b5 HB4 HV4 HM4 hN CB a1 a2
          go_wp2_with fail
          refine (lunhide C1 _ V V2 (lunhide HV5) (lunhide HM5)).mono ?_
          rintro e w6 ⟨rfl, b6⟩
          have HV6 := lhide ((lunhide HV5).below b6)
          have HN6 := lhide ((lunhide HN5).below b6)
          have HB6 := lhide ((lunhide HB5).trans (b6.mono (lunhide HB5).size))
          clear b6 HB5 HV5 HM5 HN5 C1
          go_wp2_with fail
          refine (lunhide C2 _ V V3 (lunhide HV6) (lunhide HN6)).mono ?_
          rintro e w7 ⟨rfl, b7⟩
          have HB7 := lhide ((lunhide HB6).trans (b7.mono (lunhide HB6).size))
          clear b7 HB6 HV6 HN6 C2
          go_wp2_with fail
          go_ret
          exact ⟨rfl, lunhide HB7⟩
end Go.Proofs.YtppkknmgdahniabDoor.Lex
