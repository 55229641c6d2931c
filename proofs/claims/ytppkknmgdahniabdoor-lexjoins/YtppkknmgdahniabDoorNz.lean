/- What is proved here: LexJoins, walked; conditions: the tables of unicode/utf8 and of signs lie. -/
import Derived.Test.YtppkknmgdahniabDoorNy
import Derived.Test.YtppkknmgdahniabDoorNv
import Derived.BigQuiet
namespace Go.Proofs.YtppkknmgdahniabDoor.Lex
set_option maxRecDepth 100000
open Go.RowKit Go.Joins Go.Proofs.YtppkknmgdahniabDoor.Nc Go.Proofs.YtppkknmgdahniabDoor.Nq
set_option maxRecDepth 100000
set_option linter.unusedVariables false
set_option linter.unusedSimpArgs false

set_option maxHeartbeats 32000000 in
theorem joins10_0 (s t : ByteArray) (w : World) (hs0 : s.size ≤ maxLen) (ht0 : t.size ≤ maxLen) (hT : Tabs w) (hS : Sg w) (q1 : s.size ≤ 500) (q2 : t.size ≤ 500) :
    Calls Tryd.prog 4 #[.string s, .string t] w fun e w' => e = .returned (.bool true) ∧ Below w.heap.size w w' := by
  have HSH := lhide (shown10_any w hT hS)
  have his : ¬ (500 : Int) < (s.size : Int) := by omega
  have h5 : s.size ≤ 500 := by omega
  have hit : ¬ (500 : Int) < (t.size : Int) := by omega
  have h6 : t.size ≤ 500 := by omega
  clear q1 q2 hs0 ht0
  have a1 : ∀ W, (Op.stringOp .add s ⟨#[32]⟩).run Tryd.prog W = .ok (.string (s ++ ⟨#[32]⟩)) W := fun W => run_string_add_sum _ _ _ (by show s.size + 1 ≤ _; omega)
  have a2 : ∀ W, (Op.stringOp .add (s ++ ⟨#[32]⟩) t).run Tryd.prog W = .ok (.string ((s ++ ⟨#[32]⟩) ++ t)) W := fun W => run_string_add_sum _ _ _ (by rw [ByteArray.size_append]; show s.size + 1 + t.size ≤ _; omega)
  rcases back_all s (by omega) w hT hS with ⟨hlx, HA⟩ | ⟨T, hlx, HA⟩
  · obtain ⟨er, TC, HC⟩ := join_some s t h5 h6 w hT hS
    rcases back_all t (by omega) w hT hS with ⟨hlu, HB⟩ | ⟨U, hlu, HB⟩
    · clear hlx hlu hT hS
      go_enter Tryd.func4, Tryd.ntmps4
      go_wp2_with fail
      refine (lunhide HSH).mono ?_
      rintro e w1 ⟨rfl, b1⟩
      have HB1 := lhide b1
      clear b1
      go_wp2_with fail
      refine (lunhide HA _ (lunhide HB1)).mono ?_
      rintro e w2 ⟨Va, rfl, hVa, b2⟩
      have HVa := lhide hVa
      have HB2 := lhide ((lunhide HB1).trans (b2.mono (lunhide HB1).size))
      clear b2 HB1 hVa HA
      go_wp2_with fail
      refine (lunhide HB _ (lunhide HB2)).mono ?_
      rintro e w3 ⟨Vb, rfl, hVb, b3⟩
      have HVb := lhide hVb
      have HVax := lhide ((lunhide HVa).below b3)
      clear HVa
      have HVa := HVax
      clear HVax
      have HB3 := lhide ((lunhide HB2).trans (b3.mono (lunhide HB2).size))
      clear b3 HB2 hVb HB
      go_wp2_with fail
      refine (lunhide HC _ (lunhide HB3)).mono ?_
      rintro e w4 ⟨Vc, rfl, hVc, b4⟩
      have HVc := lhide hVc
      have HVax := lhide ((lunhide HVa).below b4)
      clear HVa
      have HVa := HVax
      clear HVax
      have HVbx := lhide ((lunhide HVb).below b4)
      clear HVb
      have HVb := HVbx
      clear HVbx
      have HB4 := lhide ((lunhide HB3).trans (b4.mono (lunhide HB3).size))
      clear b4 HB3 hVc HC
      go_wp2_with fail
      go_ret
      exact ⟨rfl, lunhide HB4⟩
    · clear hlx hlu hT hS
      go_enter Tryd.func4, Tryd.ntmps4
      go_wp2_with fail
      refine (lunhide HSH).mono ?_
      rintro e w1 ⟨rfl, b1⟩
      have HB1 := lhide b1
      clear b1
      go_wp2_with fail
      refine (lunhide HA _ (lunhide HB1)).mono ?_
      rintro e w2 ⟨Va, rfl, hVa, b2⟩
      have HVa := lhide hVa
      have HB2 := lhide ((lunhide HB1).trans (b2.mono (lunhide HB1).size))
      clear b2 HB1 hVa HA
      go_wp2_with fail
      refine (lunhide HB _ (lunhide HB2)).mono ?_
      rintro e w3 ⟨Vb, rfl, hVb, b3⟩
      have HVb := lhide hVb
      have HVax := lhide ((lunhide HVa).below b3)
      clear HVa
      have HVa := HVax
      clear HVax
      have HB3 := lhide ((lunhide HB2).trans (b3.mono (lunhide HB2).size))
      clear b3 HB2 hVb HB
      go_wp2_with fail
      refine (lunhide HC _ (lunhide HB3)).mono ?_
      rintro e w4 ⟨Vc, rfl, hVc, b4⟩
      have HVc := lhide hVc
      have HVax := lhide ((lunhide HVa).below b4)
      clear HVa
      have HVa := HVax
      clear HVax
      have HVbx := lhide ((lunhide HVb).below b4)
      clear HVb
      have HVb := HVbx
      clear HVbx
      have HB4 := lhide ((lunhide HB3).trans (b4.mono (lunhide HB3).size))
      clear b4 HB3 hVc HC
      go_wp2_with fail
      go_ret
      exact ⟨rfl, lunhide HB4⟩
  · rcases back_all t (by omega) w hT hS with ⟨hlu, HB⟩ | ⟨U, hlu, HB⟩
    · obtain ⟨er, TC, HC⟩ := join_some s t h5 h6 w hT hS
      clear hlx hlu hT hS
      go_enter Tryd.func4, Tryd.ntmps4
      go_wp2_with fail
      refine (lunhide HSH).mono ?_
      rintro e w1 ⟨rfl, b1⟩
      have HB1 := lhide b1
      clear b1
      go_wp2_with fail
      refine (lunhide HA _ (lunhide HB1)).mono ?_
      rintro e w2 ⟨Va, rfl, hVa, b2⟩
      have HVa := lhide hVa
      have HB2 := lhide ((lunhide HB1).trans (b2.mono (lunhide HB1).size))
      clear b2 HB1 hVa HA
      go_wp2_with fail
      refine (lunhide HB _ (lunhide HB2)).mono ?_
      rintro e w3 ⟨Vb, rfl, hVb, b3⟩
      have HVb := lhide hVb
      have HVax := lhide ((lunhide HVa).below b3)
      clear HVa
      have HVa := HVax
      clear HVax
      have HB3 := lhide ((lunhide HB2).trans (b3.mono (lunhide HB2).size))
      clear b3 HB2 hVb HB
      go_wp2_with fail
      refine (lunhide HC _ (lunhide HB3)).mono ?_
      rintro e w4 ⟨Vc, rfl, hVc, b4⟩
      have HVc := lhide hVc
      have HVax := lhide ((lunhide HVa).below b4)
      clear HVa
      have HVa := HVax
      clear HVax
      have HVbx := lhide ((lunhide HVb).below b4)
      clear HVb
      have HVb := HVbx
      clear HVbx
      have HB4 := lhide ((lunhide HB3).trans (b4.mono (lunhide HB3).size))
      clear b4 HB3 hVc HC
      go_wp2_with fail
      go_ret
      exact ⟨rfl, lunhide HB4⟩
    · obtain ⟨hl5, hl6, hcase⟩ := join_all s t h5 h6 T U hlx hlu w hT hS
      have HSP := lhide (Lx.lex_spec _ t.data.toList (Nat.le_refl _) U hlu)
      clear hlx hlu hT hS
      rcases hcase with ⟨h600, HC⟩ | ⟨h600, HC⟩
      · clear HSP
        go_enter Tryd.func4, Tryd.ntmps4
        go_wp2_with fail
        refine (lunhide HSH).mono ?_
        rintro e w1 ⟨rfl, b1⟩
        have HB1 := lhide b1
        clear b1
        go_wp2_with fail
        refine (lunhide HA _ (lunhide HB1)).mono ?_
        rintro e w2 ⟨Va, rfl, hVa, b2⟩
        have HVa := lhide hVa
        have HB2 := lhide ((lunhide HB1).trans (b2.mono (lunhide HB1).size))
        clear b2 HB1 hVa HA
        go_wp2_with fail
        refine (lunhide HB _ (lunhide HB2)).mono ?_
        rintro e w3 ⟨Vb, rfl, hVb, b3⟩
        have HVb := lhide hVb
        have HVax := lhide ((lunhide HVa).below b3)
        clear HVa
        have HVa := HVax
        clear HVax
        have HB3 := lhide ((lunhide HB2).trans (b3.mono (lunhide HB2).size))
        clear b3 HB2 hVb HB
        go_wp2_with fail
        refine (lunhide HC _ (lunhide HB3)).mono ?_
        rintro e w4 ⟨Vc, rfl, hVc, b4⟩
        have HVc := lhide hVc
        have HVax := lhide ((lunhide HVa).below b4)
        clear HVa
        have HVa := HVax
        clear HVax
        have HVbx := lhide ((lunhide HVb).below b4)
        clear HVb
        have HVb := HVbx
        clear HVbx
        have HB4 := lhide ((lunhide HB3).trans (b4.mono (lunhide HB3).size))
        clear b4 HB3 hVc HC
        obtain ⟨aa, ca, rfl⟩ := (lunhide HVa).shape
        obtain ⟨ab, cb, rfl⟩ := (lunhide HVb).shape
        obtain ⟨ac, cc, rfl⟩ := (lunhide HVc).shape
        have hadd : IntKind.i64.wrap ((T.length : Int) + (U.length : Int)) = ((T.length + U.length : Nat) : Int) := by rw [IntKind.wrap_i64]; omega
        have hyes : (600 : Int) < ((T.length + U.length : Nat) : Int) := by omega
        clear HVa HVb HVc h600 hl5 hl6
        go_wp2_with fail
        go_ret
        exact ⟨rfl, lunhide HB4⟩
      · skip
        go_enter Tryd.func4, Tryd.ntmps4
        go_wp2_with fail
        refine (lunhide HSH).mono ?_
        rintro e w1 ⟨rfl, b1⟩
        have HB1 := lhide b1
        clear b1
        go_wp2_with fail
        refine (lunhide HA _ (lunhide HB1)).mono ?_
        rintro e w2 ⟨Va, rfl, hVa, b2⟩
        have HVa := lhide hVa
        have HB2 := lhide ((lunhide HB1).trans (b2.mono (lunhide HB1).size))
        clear b2 HB1 hVa HA
        go_wp2_with fail
        refine (lunhide HB _ (lunhide HB2)).mono ?_
        rintro e w3 ⟨Vb, rfl, hVb, b3⟩
        have HVb := lhide hVb
        have HVax := lhide ((lunhide HVa).below b3)
        clear HVa
        have HVa := HVax
        clear HVax
        have HB3 := lhide ((lunhide HB2).trans (b3.mono (lunhide HB2).size))
        clear b3 HB2 hVb HB
        go_wp2_with fail
        refine (lunhide HC _ (lunhide HB3)).mono ?_
        rintro e w4 ⟨Vc, rfl, hVc, b4⟩
        have HVc := lhide hVc
        have HVax := lhide ((lunhide HVa).below b4)
        clear HVa
        have HVa := HVax
        clear HVax
        have HVbx := lhide ((lunhide HVb).below b4)
        clear HVb
        have HVb := HVbx
        clear HVbx
        have HB4 := lhide ((lunhide HB3).trans (b4.mono (lunhide HB3).size))
        clear b4 HB3 hVc HC
        obtain ⟨aa, ca, rfl⟩ := (lunhide HVa).shape
        obtain ⟨ab, cb, rfl⟩ := (lunhide HVb).shape
        obtain ⟨ac, cc, rfl⟩ := (lunhide HVc).shape
        obtain ⟨ti, hti, htz0, htz1, htz2⟩ := tk_info
        have hlen : (farther (t.size + 1) T ++ U).length = T.length + U.length := by rw [List.length_append, far_len]
        obtain ⟨n9, hn9⟩ : ∃ n, T.length + U.length = n := ⟨_, rfl⟩
        have hadd : IntKind.i64.wrap ((T.length : Int) + (U.length : Int)) = (n9 : Int) := by rw [IntKind.wrap_i64]; omega
        have hno : ¬ (600 : Int) < (n9 : Int) := by omega
        rw [hlen, hn9]
        have HB5 : Hid (Below w4.heap.size w4 (w4.alloc (.cells #[] 33))) := lhide ((Below.refl _ _).alloc (Nat.le_refl _) _)
        have HOW5 : Hid ((w4.alloc (.cells #[] 33)).ownsRow w4.heap.size 33 6 (.slice (some ⟨w4.heap.size, 0, none⟩) 0 0) 0 []) := lhide (World.ownsRow_made w4 #[] 0 (Nat.le_refl _) (by decide) rfl)
        have HVa5 := lhide ((lunhide HVa).below (lunhide HB5))
        have HBS5 := lhide (lunhide HB5).size
        clear hlen
        go_wp2_with (at_builtin; refine wpList_append_rows _ rfl (.tmp 62) (.tmp 63) 23 rfl w4.heap.size 33 ti (.agg #[.int .i64 0, .int .i64 0, .string ⟨#[]⟩, .bool false, .string ⟨#[]⟩, .int .i64 0]) 6 64 Tryd.underlying23 hti htz0 htz1 htz2 rfl (by decide) _ 0 [] rfl (lunhide HOW5) 0 T.length _ (rowC s.size T) rfl (lunhide HVa5) (one_row s.size T) (by unfold maxLen; omega) (by omega) (lunhide HBS5) ?_)
        intro v5 w6 hown6 hgr6
        have hB6 : Below w4.heap.size w4 w6 := (lunhide HB5).grown hgr6 (lunhide HBS5) (fun j hj => own_blk (lunhide HOW5) j hj)
        try simp only [Nat.zero_add, List.nil_append] at hown6
        have HOW6 := lhide hown6
        have HB6 := lhide hB6
        have HVb6 := lhide ((lunhide HVb).below hB6)
        have HBS6 := lhide hB6.size
        clear hown6 hgr6 hB6 HOW5 HBS5 HB5 HVa5
        go_wp2_with (at_builtin; refine wpList_append_rows _ rfl (.tmp 64) (.tmp 65) 23 rfl w4.heap.size 33 ti (.agg #[.int .i64 0, .int .i64 0, .string ⟨#[]⟩, .bool false, .string ⟨#[]⟩, .int .i64 0]) 6 64 Tryd.underlying23 hti htz0 htz1 htz2 rfl (by decide) _ T.length (rowC s.size T) rfl (lunhide HOW6) 0 U.length _ (rowC t.size U) rfl (lunhide HVb6) (one_row t.size U) (by unfold maxLen; omega) (by omega) (lunhide HBS6) ?_)
        intro v7 w7 hown7 hgr7
        have hB7 : Below w4.heap.size w4 w7 := (lunhide HB6).grown hgr7 (lunhide HBS6) (fun j hj => own_blk (lunhide HOW6) j hj)
        have hown7x : w7.ownsRow w4.heap.size 33 6 v7 (T.length + U.length) (rowC s.size T ++ rowC t.size U) := by rw [hn9]; exact hown7
        have HOW7 := lhide (both_in hown7x)
        have HB7 := lhide hB7
        have HVc7 := lhide ((lunhide HVc).below hB7)
        clear hown7 hown7x hgr7 hB7 HOW6 HBS6 HB6 HVb6
        go_wp2_with fail
        have hsame := same10_yes (farther (t.size + 1) T ++ U) (farther t.size T ++ farther s.size U) _ _ _ _ w7 (lunhide HVc7) (lunhide HOW7) (join_fst (t.size + 1) s.size t.size T U) (by rw [List.length_append, far_len]; omega)
        rw [List.length_append, far_len, hn9] at hsame
        refine hsame.mono ?_
        rintro e w8 ⟨rfl, b8⟩
        have HB8 := lhide ((lunhide HB7).trans (b8.mono (lunhide HB7).size))
        clear hsame b8 HB7 HOW7 HVc7
        have HVb8 := lhide ((lunhide HVb).below (lunhide HB8))
        have HVc8 := lhide ((lunhide HVc).below (lunhide HB8))
        have HBF := lhide ((lunhide HB4).trans ((lunhide HB8).mono (lunhide HB4).size))
        clear HVa HVb HVc HB4 HB8
        go_wp2_with fail
        go_loopw [12, 13] (fun I0 I wr => I0 = .bool true ∧ ∃ k : Nat, I = .int .i64 (k : Int) ∧ k ≤ U.length ∧ Below w8.heap.size w8 wr) (fun _ I _ => U.length - (intOf I).toNat)
        case atStart => exact ⟨rfl, 0, rfl, Nat.zero_le _, Below.refl _ _⟩
        case round =>
          obtain ⟨rfl, k, rfl, hk9, hBr⟩ := hrel
          by_cases hlt : k < U.length
          · obtain ⟨g, e9, -, hgl, -, b1, -⟩ := tok_at ((lunhide HVb8).below hBr) k hlt
            have hj2 : T.length + k < (farther (t.size + 1) T ++ U).length := by rw [List.length_append, far_len]; omega
            have hvc := (lunhide HVc8).below hBr
            skip
            obtain ⟨g2, e8, -, hgl2, -, d1, -⟩ := tok_at hvc (T.length + k) hj2
            rw [join_at _ T U k hlt hj2] at d1
            have hrm : (U[k]'hlt).2 ≤ t.size := by
              obtain ⟨-, p2, -, -⟩ := lunhide HSP k hlt
              rw [lsize] at p2
              exact p2
            obtain ⟨pos, hpos⟩ : ∃ p : Nat, t.size - (U[k]'hlt).2 = p := ⟨_, rfl⟩
            rw [show (t.size : Int) - ((U[k]'hlt).2 : Int) = (pos : Int) by omega] at b1
            rw [show ((s.size + 1 + t.size : Nat) : Int) - ((U[k]'hlt).2 : Int) = ((pos + s.size + 1 : Nat) : Int) by omega] at d1
            obtain ⟨z1, hz1⟩ : ∃ z, pos + s.size = z := ⟨_, rfl⟩
            obtain ⟨z2, hz2⟩ : ∃ z, z1 + 1 = z := ⟨_, rfl⟩
            obtain ⟨j, hj⟩ : ∃ z, T.length + k = z := ⟨_, rfl⟩
            rw [hz1, hz2] at d1
            rw [hj] at d1
            have hw1 : IntKind.i64.wrap ((pos : Int) + (s.size : Int)) = (z1 : Int) := by rw [IntKind.wrap_i64]; omega
            have hw2 : IntKind.i64.wrap ((z1 : Int) + 1) = (z2 : Int) := by rw [IntKind.wrap_i64]; omega
            have hw3 : IntKind.i64.wrap ((T.length : Int) + (k : Int)) = (j : Int) := by rw [IntKind.wrap_i64]; omega
            have hk1 : (k : Int) < (U.length : Int) := by omega
            have hk2 : (j : Int) < (n9 : Int) := by omega
            subst e9
            subst e8
            have HX : Hid (∀ W, Below wr.heap.size wr W → W.cell? ⟨g, k * 6 + 1, none⟩ = some (.int .i64 (pos : Int)) ∧ W.cell? ⟨g2, j * 6 + 1, none⟩ = some (.int .i64 (z2 : Int))) := lhide (fun W hW => ⟨(hW.cell (p := ⟨g, k * 6 + 1, none⟩) hgl).trans b1, (hW.cell (p := ⟨g2, j * 6 + 1, none⟩) hgl2).trans d1⟩)
            have HBR := lhide hBr
            have HNN := lhide (And.intro hk9 hlt)
            clear hvc hj2 hrm hpos hz1 hz2 hj b1 d1 hgl hgl2 hBr hk9
            go_upto_region 17 with fail
            have hS : Below wr.heap.size wr wr.drew := (Below.refl _ _).drew
            refine wp_region_held_drew (S := (fun W => W.cell? ⟨g, k * 6 + 1, none⟩ = some (.int .i64 (pos : Int)) ∧ W.cell? ⟨g2, j * 6 + 1, none⟩ = some (.int .i64 (z2 : Int)))) (by kernel_rfl) ?hS0q1x (fun hHeld => ?restq1x0)
            case hS0q1x => first | (dsimp only; (exact lunhide HX _ hS)) | (exact lunhide HX _ hS)
            case restq1x0 =>
            refine wpAnyH_take (i := 0) (v := ?vq1x0) rfl (by kernel_rfl) (by kernel_rfl) (by kernel_rfl) (fun _ _ _ h => h) (Or.inl ⟨by rfl, ?hyq1x0⟩) (by assumption) ?restq1x1
            case hyq1x0 => ((intro w hSw; (try dsimp only at hSw); go_simp) <;> with_reducible rfl)
            case restq1x1 =>
            try simp only [Act.put, List.getElem_toArray, List.getElem_cons_zero, List.getElem_cons_succ, List.setIfInBounds_toArray, List.set_cons_zero, List.set_cons_succ]
            refine wpAnyH_take (i := 1) (v := ?vq1x1) rfl (by kernel_rfl) (by kernel_rfl) (by kernel_rfl) (fun _ _ _ h => h) (Or.inl ⟨by rfl, ?hyq1x1⟩) (by assumption) ?restq1x2
            case hyq1x1 => ((intro w hSw; (try dsimp only at hSw); go_simp) <;> with_reducible rfl)
            case restq1x2 =>
            try simp only [Act.put, List.getElem_toArray, List.getElem_cons_zero, List.getElem_cons_succ, List.setIfInBounds_toArray, List.set_cons_zero, List.set_cons_succ]
            refine wpAnyH_take (i := 2) (v := ?vq1x2) rfl (by kernel_rfl) (by kernel_rfl) (by kernel_rfl) (fun _ _ _ h => h) (Or.inl ⟨by rfl, ?hyq1x2⟩) (by assumption) ?restq1x3
            case hyq1x2 => ((intro w hSw; (try dsimp only at hSw); go_simp) <;> with_reducible rfl)
            case restq1x3 =>
            try simp only [Act.put, List.getElem_toArray, List.getElem_cons_zero, List.getElem_cons_succ, List.setIfInBounds_toArray, List.set_cons_zero, List.set_cons_succ]
            refine wpAnyH_take (i := 3) (v := ?vq1x3) rfl (by kernel_rfl) (by kernel_rfl) (by kernel_rfl) (fun _ _ _ h => h) (Or.inl ⟨by rfl, ?hyq1x3⟩) (by assumption) ?restq1x4
            case hyq1x3 => ((intro w hSw; (try dsimp only at hSw); go_simp) <;> with_reducible rfl)
            case restq1x4 =>
            try simp only [Act.put, List.getElem_toArray, List.getElem_cons_zero, List.getElem_cons_succ, List.setIfInBounds_toArray, List.set_cons_zero, List.set_cons_succ]
            refine wpAnyH_take (i := 4) (v := ?vq1x4) rfl (by kernel_rfl) (by kernel_rfl) (by kernel_rfl) (fun _ _ _ h => h) (Or.inl ⟨by rfl, ?hyq1x4⟩) (by assumption) ?restq1x5
            case hyq1x4 => ((intro w hSw; (try dsimp only at hSw); go_simp) <;> with_reducible rfl)
            case restq1x5 =>
            try simp only [Act.put, List.getElem_toArray, List.getElem_cons_zero, List.getElem_cons_succ, List.setIfInBounds_toArray, List.set_cons_zero, List.set_cons_succ]
            refine wpAnyH_take (i := 5) (v := ?vq1x5) rfl (by kernel_rfl) (by kernel_rfl) (by kernel_rfl) (fun _ _ _ h => h) (Or.inl ⟨by rfl, ?hyq1x5⟩) (by assumption) ?restq1x6
            case hyq1x5 => ((intro w hSw; (try dsimp only at hSw); go_simp) <;> with_reducible rfl)
            case restq1x6 =>
            try simp only [Act.put, List.getElem_toArray, List.getElem_cons_zero, List.getElem_cons_succ, List.setIfInBounds_toArray, List.set_cons_zero, List.set_cons_succ]
            refine wpAnyH_take (i := 6) (v := ?vq1x6) rfl (by kernel_rfl) (by kernel_rfl) (by kernel_rfl) (fun _ _ _ h => h) (Or.inl ⟨by rfl, ?hyq1x6⟩) (by assumption) ?restq1x7
            case hyq1x6 => ((intro w hSw; (try dsimp only at hSw); go_simp) <;> with_reducible rfl)
            case restq1x7 =>
            try simp only [Act.put, List.getElem_toArray, List.getElem_cons_zero, List.getElem_cons_succ, List.setIfInBounds_toArray, List.set_cons_zero, List.set_cons_succ]
            refine wpAnyH_take (i := 7) (v := ?vq1x7) rfl (by kernel_rfl) (by kernel_rfl) (by kernel_rfl) (fun _ _ _ h => h) (Or.inl ⟨by rfl, ?hyq1x7⟩) (by assumption) ?restq1x8
            case hyq1x7 => ((intro w hSw; (try dsimp only at hSw); go_simp) <;> with_reducible rfl)
            case restq1x8 =>
            try simp only [Act.put, List.getElem_toArray, List.getElem_cons_zero, List.getElem_cons_succ, List.setIfInBounds_toArray, List.set_cons_zero, List.set_cons_succ]
            refine wpAnyH_take (i := 8) (v := ?vq1x8) rfl (by kernel_rfl) (by kernel_rfl) (by kernel_rfl) (fun _ _ _ h => h) (Or.inl ⟨by rfl, ?hyq1x8⟩) (by assumption) ?restq1x9
            case hyq1x8 => ((intro w hSw; (try dsimp only at hSw); go_simp) <;> with_reducible rfl)
            case restq1x9 =>
            try simp only [Act.put, List.getElem_toArray, List.getElem_cons_zero, List.getElem_cons_succ, List.setIfInBounds_toArray, List.set_cons_zero, List.set_cons_succ]
            refine wpAnyH_take (i := 9) (v := ?vq1x9) rfl (by kernel_rfl) (by kernel_rfl) (by kernel_rfl) (fun _ _ _ h => h) (Or.inl ⟨by rfl, ?hyq1x9⟩) (by assumption) ?restq1x10
            case hyq1x9 => ((intro w hSw; (try dsimp only at hSw); go_simp) <;> with_reducible rfl)
            case restq1x10 =>
            try simp only [Act.put, List.getElem_toArray, List.getElem_cons_zero, List.getElem_cons_succ, List.setIfInBounds_toArray, List.set_cons_zero, List.set_cons_succ]
            refine wpAnyH_take (i := 10) (v := ?vq1x10) rfl (by kernel_rfl) (by kernel_rfl) (by kernel_rfl) (fun _ _ _ h => h) (Or.inl ⟨by rfl, ?hyq1x10⟩) (by assumption) ?restq1x11
            case hyq1x10 => ((intro w hSw; (try dsimp only at hSw); go_simp) <;> with_reducible rfl)
            case restq1x11 =>
            try simp only [Act.put, List.getElem_toArray, List.getElem_cons_zero, List.getElem_cons_succ, List.setIfInBounds_toArray, List.set_cons_zero, List.set_cons_succ]
            refine wpAnyH_take (i := 11) (v := ?vq1x11) rfl (by kernel_rfl) (by kernel_rfl) (by kernel_rfl) (fun _ _ _ h => h) (Or.inl ⟨by rfl, ?hyq1x11⟩) (by assumption) ?restq1x12
            case hyq1x11 => ((intro w hSw; (try dsimp only at hSw); go_simp) <;> with_reducible rfl)
            case restq1x12 =>
            try simp only [Act.put, List.getElem_toArray, List.getElem_cons_zero, List.getElem_cons_succ, List.setIfInBounds_toArray, List.set_cons_zero, List.set_cons_succ]
            refine wpAnyH_take (i := 12) (v := ?vq1x12) rfl (by kernel_rfl) (by kernel_rfl) (by kernel_rfl) (fun _ _ _ h => h) (Or.inl ⟨by rfl, ?hyq1x12⟩) (by assumption) ?restq1x13
            case hyq1x12 => ((intro w hSw; (try dsimp only at hSw); go_simp) <;> with_reducible rfl)
            case restq1x13 =>
            try simp only [Act.put, List.getElem_toArray, List.getElem_cons_zero, List.getElem_cons_succ, List.setIfInBounds_toArray, List.set_cons_zero, List.set_cons_succ]
            refine wpAnyH_take (i := 13) (v := ?vq1x13) rfl (by kernel_rfl) (by kernel_rfl) (by kernel_rfl) (fun _ _ _ h => h) (Or.inl ⟨by rfl, ?hyq1x13⟩) (by assumption) ?restq1x14
            case hyq1x13 => ((intro w hSw; (try dsimp only at hSw); go_simp) <;> with_reducible rfl)
            case restq1x14 =>
            try simp only [Act.put, List.getElem_toArray, List.getElem_cons_zero, List.getElem_cons_succ, List.setIfInBounds_toArray, List.set_cons_zero, List.set_cons_succ]
            refine wpAnyH_take (i := 14) (v := ?vq1x14) rfl (by kernel_rfl) (by kernel_rfl) (by kernel_rfl) (fun _ _ _ h => h) (Or.inl ⟨by rfl, ?hyq1x14⟩) (by assumption) ?restq1x15
            case hyq1x14 => ((intro w hSw; (try dsimp only at hSw); go_simp) <;> with_reducible rfl)
            case restq1x15 =>
            try simp only [Act.put, List.getElem_toArray, List.getElem_cons_zero, List.getElem_cons_succ, List.setIfInBounds_toArray, List.set_cons_zero, List.set_cons_succ]
            refine wpAnyH_take (i := 15) (v := ?vq1x15) rfl (by kernel_rfl) (by kernel_rfl) (by kernel_rfl) (fun _ _ _ h => h) (Or.inl ⟨by rfl, ?hyq1x15⟩) (by assumption) ?restq1x16
            case hyq1x15 => ((intro w hSw; (try dsimp only at hSw); go_simp) <;> with_reducible rfl)
            case restq1x16 =>
            try simp only [Act.put, List.getElem_toArray, List.getElem_cons_zero, List.getElem_cons_succ, List.setIfInBounds_toArray, List.set_cons_zero, List.set_cons_succ]
            refine wpAnyH_take (i := 16) (v := ?vq1x16) rfl (by kernel_rfl) (by kernel_rfl) (by kernel_rfl) (fun _ _ _ h => h) (Or.inl ⟨by rfl, ?hyq1x16⟩) (by assumption) ?restq1x17
            case hyq1x16 => ((intro w hSw; (try dsimp only at hSw); go_simp) <;> with_reducible rfl)
            case restq1x17 =>
            try simp only [Act.put, List.getElem_toArray, List.getElem_cons_zero, List.getElem_cons_succ, List.setIfInBounds_toArray, List.set_cons_zero, List.set_cons_succ]
            refine wpAnyH_take (i := 17) (v := ?vq1x17) rfl (by kernel_rfl) (by kernel_rfl) (by kernel_rfl) (fun _ _ _ h => h) (Or.inl ⟨by rfl, ?hyq1x17⟩) (by assumption) ?restq1x18
            case hyq1x17 => ((intro w hSw; (try dsimp only at hSw); go_simp) <;> with_reducible rfl)
            case restq1x18 =>
            try simp only [Act.put, List.getElem_toArray, List.getElem_cons_zero, List.getElem_cons_succ, List.setIfInBounds_toArray, List.set_cons_zero, List.set_cons_succ]
            refine wpAnyH_take (i := 18) (v := ?vq1x18) rfl (by kernel_rfl) (by kernel_rfl) (by kernel_rfl) (fun _ _ _ h => h) (Or.inl ⟨by rfl, ?hyq1x18⟩) (by assumption) ?restq1x19
            case hyq1x18 => ((intro w hSw; (try dsimp only at hSw); go_simp) <;> with_reducible rfl)
            case restq1x19 =>
            try simp only [Act.put, List.getElem_toArray, List.getElem_cons_zero, List.getElem_cons_succ, List.setIfInBounds_toArray, List.set_cons_zero, List.set_cons_succ]
            refine wpAnyH_take (i := 19) (v := ?vq1x19) rfl (by kernel_rfl) (by kernel_rfl) (by kernel_rfl) (fun _ _ _ h => h) (Or.inl ⟨by rfl, ?hyq1x19⟩) (by assumption) ?restq1x20
            case hyq1x19 => ((intro w hSw; (try dsimp only at hSw); go_simp) <;> with_reducible rfl)
            case restq1x20 =>
            try simp only [Act.put, List.getElem_toArray, List.getElem_cons_zero, List.getElem_cons_succ, List.setIfInBounds_toArray, List.set_cons_zero, List.set_cons_succ]
            refine wpAnyH_take (i := 20) (v := ?vq1x20) rfl (by kernel_rfl) (by kernel_rfl) (by kernel_rfl) (fun _ _ _ h => h) (Or.inl ⟨by rfl, ?hyq1x20⟩) (by assumption) ?restq1x21
            case hyq1x20 => ((intro w hSw; (try dsimp only at hSw); go_simp) <;> with_reducible rfl)
            case restq1x21 =>
            try simp only [Act.put, List.getElem_toArray, List.getElem_cons_zero, List.getElem_cons_succ, List.setIfInBounds_toArray, List.set_cons_zero, List.set_cons_succ]
            refine wpAnyH_take (i := 21) (v := ?vq1x21) rfl (by kernel_rfl) (by kernel_rfl) (by kernel_rfl) (fun _ _ _ h => h) (Or.inl ⟨by rfl, ?hyq1x21⟩) (by assumption) ?restq1x22
            case hyq1x21 => ((intro w hSw; (try dsimp only at hSw); go_simp) <;> with_reducible rfl)
            case restq1x22 =>
            try simp only [Act.put, List.getElem_toArray, List.getElem_cons_zero, List.getElem_cons_succ, List.setIfInBounds_toArray, List.set_cons_zero, List.set_cons_succ]
            refine wpAnyH_done (by kernel_rfl) ?_ _
            have HBS : Hid (Below w8.heap.size w8 wr.drew) := lhide ((lunhide HBR).trans (hS.mono (lunhide HBR).size))
            clear hS HBR HX
            go_wp2_with fail
            go_roundw
            case rel => exact ⟨rfl, k + 1, by go_num, (lunhide HNN).2, lunhide HBS⟩
            case measure => have := (lunhide HNN).2; simp [intOf]; omega
          · have hki : ¬ (k : Int) < (U.length : Int) := by omega
            have HBE := lhide ((lunhide HBF).trans (hBr.mono (lunhide HBF).size))
            clear hBr
            go_wp2_with fail
            go_ret
            exact ⟨rfl, lunhide HBE⟩
set_option maxHeartbeats 32000000 in
theorem joins10_1 (s t : ByteArray) (w : World) (hs0 : s.size ≤ maxLen) (ht0 : t.size ≤ maxLen) (hT : Tabs w) (hS : Sg w) (q1 : 500 < s.size) (q2 : t.size ≤ 500) :
    Calls Tryd.prog 4 #[.string s, .string t] w fun e w' => e = .returned (.bool true) ∧ Below w.heap.size w w' := by
  have HSH := lhide (shown10_any w hT hS)
  have his : (500 : Int) < (s.size : Int) := by omega
  have h5 : (s.extract 0 500).size ≤ 500 := by
    have e9 : fewB 500 s = s.extract 0 500 := if_pos (by omega)
    rw [← e9]; exact few_size 500 s
  obtain ⟨x, hx⟩ : ∃ z, s.extract 0 500 = z := ⟨_, rfl⟩
  rw [hx] at h5
  have hles : (500 : Int) ≤ (s.size : Int) := by omega
  have hit : ¬ (500 : Int) < (t.size : Int) := by omega
  have h6 : t.size ≤ 500 := by omega
  clear q1 q2 hs0 ht0
  have a1 : ∀ W, (Op.stringOp .add x ⟨#[32]⟩).run Tryd.prog W = .ok (.string (x ++ ⟨#[32]⟩)) W := fun W => run_string_add_sum _ _ _ (by show x.size + 1 ≤ _; omega)
  have a2 : ∀ W, (Op.stringOp .add (x ++ ⟨#[32]⟩) t).run Tryd.prog W = .ok (.string ((x ++ ⟨#[32]⟩) ++ t)) W := fun W => run_string_add_sum _ _ _ (by rw [ByteArray.size_append]; show x.size + 1 + t.size ≤ _; omega)
  rcases back_all x (by omega) w hT hS with ⟨hlx, HA⟩ | ⟨T, hlx, HA⟩
  · obtain ⟨er, TC, HC⟩ := join_some x t h5 h6 w hT hS
    rcases back_all t (by omega) w hT hS with ⟨hlu, HB⟩ | ⟨U, hlu, HB⟩
    · clear hlx hlu hT hS
      go_enter Tryd.func4, Tryd.ntmps4
      go_wp2_with fail
      refine (lunhide HSH).mono ?_
      rintro e w1 ⟨rfl, b1⟩
      have HB1 := lhide b1
      clear b1
      go_wp2_with fail
      refine (lunhide HA _ (lunhide HB1)).mono ?_
      rintro e w2 ⟨Va, rfl, hVa, b2⟩
      have HVa := lhide hVa
      have HB2 := lhide ((lunhide HB1).trans (b2.mono (lunhide HB1).size))
      clear b2 HB1 hVa HA
      go_wp2_with fail
      refine (lunhide HB _ (lunhide HB2)).mono ?_
      rintro e w3 ⟨Vb, rfl, hVb, b3⟩
      have HVb := lhide hVb
      have HVax := lhide ((lunhide HVa).below b3)
      clear HVa
      have HVa := HVax
      clear HVax
      have HB3 := lhide ((lunhide HB2).trans (b3.mono (lunhide HB2).size))
      clear b3 HB2 hVb HB
      go_wp2_with fail
      refine (lunhide HC _ (lunhide HB3)).mono ?_
      rintro e w4 ⟨Vc, rfl, hVc, b4⟩
      have HVc := lhide hVc
      have HVax := lhide ((lunhide HVa).below b4)
      clear HVa
      have HVa := HVax
      clear HVax
      have HVbx := lhide ((lunhide HVb).below b4)
      clear HVb
      have HVb := HVbx
      clear HVbx
      have HB4 := lhide ((lunhide HB3).trans (b4.mono (lunhide HB3).size))
      clear b4 HB3 hVc HC
      go_wp2_with fail
      go_ret
      exact ⟨rfl, lunhide HB4⟩
    · clear hlx hlu hT hS
      go_enter Tryd.func4, Tryd.ntmps4
      go_wp2_with fail
      refine (lunhide HSH).mono ?_
      rintro e w1 ⟨rfl, b1⟩
      have HB1 := lhide b1
      clear b1
      go_wp2_with fail
      refine (lunhide HA _ (lunhide HB1)).mono ?_
      rintro e w2 ⟨Va, rfl, hVa, b2⟩
      have HVa := lhide hVa
      have HB2 := lhide ((lunhide HB1).trans (b2.mono (lunhide HB1).size))
      clear b2 HB1 hVa HA
      go_wp2_with fail
      refine (lunhide HB _ (lunhide HB2)).mono ?_
      rintro e w3 ⟨Vb, rfl, hVb, b3⟩
      have HVb := lhide hVb
      have HVax := lhide ((lunhide HVa).below b3)
      clear HVa
      have HVa := HVax
      clear HVax
      have HB3 := lhide ((lunhide HB2).trans (b3.mono (lunhide HB2).size))
      clear b3 HB2 hVb HB
      go_wp2_with fail
      refine (lunhide HC _ (lunhide HB3)).mono ?_
      rintro e w4 ⟨Vc, rfl, hVc, b4⟩
      have HVc := lhide hVc
      have HVax := lhide ((lunhide HVa).below b4)
      clear HVa
      have HVa := HVax
      clear HVax
      have HVbx := lhide ((lunhide HVb).below b4)
      clear HVb
      have HVb := HVbx
      clear HVbx
      have HB4 := lhide ((lunhide HB3).trans (b4.mono (lunhide HB3).size))
      clear b4 HB3 hVc HC
      go_wp2_with fail
      go_ret
      exact ⟨rfl, lunhide HB4⟩
  · rcases back_all t (by omega) w hT hS with ⟨hlu, HB⟩ | ⟨U, hlu, HB⟩
    · obtain ⟨er, TC, HC⟩ := join_some x t h5 h6 w hT hS
      clear hlx hlu hT hS
      go_enter Tryd.func4, Tryd.ntmps4
      go_wp2_with fail
      refine (lunhide HSH).mono ?_
      rintro e w1 ⟨rfl, b1⟩
      have HB1 := lhide b1
      clear b1
      go_wp2_with fail
      refine (lunhide HA _ (lunhide HB1)).mono ?_
      rintro e w2 ⟨Va, rfl, hVa, b2⟩
      have HVa := lhide hVa
      have HB2 := lhide ((lunhide HB1).trans (b2.mono (lunhide HB1).size))
      clear b2 HB1 hVa HA
      go_wp2_with fail
      refine (lunhide HB _ (lunhide HB2)).mono ?_
      rintro e w3 ⟨Vb, rfl, hVb, b3⟩
      have HVb := lhide hVb
      have HVax := lhide ((lunhide HVa).below b3)
      clear HVa
      have HVa := HVax
      clear HVax
      have HB3 := lhide ((lunhide HB2).trans (b3.mono (lunhide HB2).size))
      clear b3 HB2 hVb HB
      go_wp2_with fail
      refine (lunhide HC _ (lunhide HB3)).mono ?_
      rintro e w4 ⟨Vc, rfl, hVc, b4⟩
      have HVc := lhide hVc
      have HVax := lhide ((lunhide HVa).below b4)
      clear HVa
      have HVa := HVax
      clear HVax
      have HVbx := lhide ((lunhide HVb).below b4)
      clear HVb
      have HVb := HVbx
      clear HVbx
      have HB4 := lhide ((lunhide HB3).trans (b4.mono (lunhide HB3).size))
      clear b4 HB3 hVc HC
      go_wp2_with fail
      go_ret
      exact ⟨rfl, lunhide HB4⟩
    · obtain ⟨hl5, hl6, hcase⟩ := join_all x t h5 h6 T U hlx hlu w hT hS
      have HSP := lhide (Lx.lex_spec _ t.data.toList (Nat.le_refl _) U hlu)
      clear hlx hlu hT hS
      rcases hcase with ⟨h600, HC⟩ | ⟨h600, HC⟩
      · clear HSP
        go_enter Tryd.func4, Tryd.ntmps4
        go_wp2_with fail
        refine (lunhide HSH).mono ?_
        rintro e w1 ⟨rfl, b1⟩
        have HB1 := lhide b1
        clear b1
        go_wp2_with fail
        refine (lunhide HA _ (lunhide HB1)).mono ?_
        rintro e w2 ⟨Va, rfl, hVa, b2⟩
        have HVa := lhide hVa
        have HB2 := lhide ((lunhide HB1).trans (b2.mono (lunhide HB1).size))
        clear b2 HB1 hVa HA
        go_wp2_with fail
        refine (lunhide HB _ (lunhide HB2)).mono ?_
        rintro e w3 ⟨Vb, rfl, hVb, b3⟩
        have HVb := lhide hVb
        have HVax := lhide ((lunhide HVa).below b3)
        clear HVa
        have HVa := HVax
        clear HVax
        have HB3 := lhide ((lunhide HB2).trans (b3.mono (lunhide HB2).size))
        clear b3 HB2 hVb HB
        go_wp2_with fail
        refine (lunhide HC _ (lunhide HB3)).mono ?_
        rintro e w4 ⟨Vc, rfl, hVc, b4⟩
        have HVc := lhide hVc
        have HVax := lhide ((lunhide HVa).below b4)
        clear HVa
        have HVa := HVax
        clear HVax
        have HVbx := lhide ((lunhide HVb).below b4)
        clear HVb
        have HVb := HVbx
        clear HVbx
        have HB4 := lhide ((lunhide HB3).trans (b4.mono (lunhide HB3).size))
        clear b4 HB3 hVc HC
        obtain ⟨aa, ca, rfl⟩ := (lunhide HVa).shape
        obtain ⟨ab, cb, rfl⟩ := (lunhide HVb).shape
        obtain ⟨ac, cc, rfl⟩ := (lunhide HVc).shape
        have hadd : IntKind.i64.wrap ((T.length : Int) + (U.length : Int)) = ((T.length + U.length : Nat) : Int) := by rw [IntKind.wrap_i64]; omega
        have hyes : (600 : Int) < ((T.length + U.length : Nat) : Int) := by omega
        clear HVa HVb HVc h600 hl5 hl6
        go_wp2_with fail
        go_ret
        exact ⟨rfl, lunhide HB4⟩
      · skip
        go_enter Tryd.func4, Tryd.ntmps4
        go_wp2_with fail
        refine (lunhide HSH).mono ?_
        rintro e w1 ⟨rfl, b1⟩
        have HB1 := lhide b1
        clear b1
        go_wp2_with fail
        refine (lunhide HA _ (lunhide HB1)).mono ?_
        rintro e w2 ⟨Va, rfl, hVa, b2⟩
        have HVa := lhide hVa
        have HB2 := lhide ((lunhide HB1).trans (b2.mono (lunhide HB1).size))
        clear b2 HB1 hVa HA
        go_wp2_with fail
        refine (lunhide HB _ (lunhide HB2)).mono ?_
        rintro e w3 ⟨Vb, rfl, hVb, b3⟩
        have HVb := lhide hVb
        have HVax := lhide ((lunhide HVa).below b3)
        clear HVa
        have HVa := HVax
        clear HVax
        have HB3 := lhide ((lunhide HB2).trans (b3.mono (lunhide HB2).size))
        clear b3 HB2 hVb HB
        go_wp2_with fail
        refine (lunhide HC _ (lunhide HB3)).mono ?_
        rintro e w4 ⟨Vc, rfl, hVc, b4⟩
        have HVc := lhide hVc
        have HVax := lhide ((lunhide HVa).below b4)
        clear HVa
        have HVa := HVax
        clear HVax
        have HVbx := lhide ((lunhide HVb).below b4)
        clear HVb
        have HVb := HVbx
        clear HVbx
        have HB4 := lhide ((lunhide HB3).trans (b4.mono (lunhide HB3).size))
        clear b4 HB3 hVc HC
        obtain ⟨aa, ca, rfl⟩ := (lunhide HVa).shape
        obtain ⟨ab, cb, rfl⟩ := (lunhide HVb).shape
        obtain ⟨ac, cc, rfl⟩ := (lunhide HVc).shape
        obtain ⟨ti, hti, htz0, htz1, htz2⟩ := tk_info
        have hlen : (farther (t.size + 1) T ++ U).length = T.length + U.length := by rw [List.length_append, far_len]
        obtain ⟨n9, hn9⟩ : ∃ n, T.length + U.length = n := ⟨_, rfl⟩
        have hadd : IntKind.i64.wrap ((T.length : Int) + (U.length : Int)) = (n9 : Int) := by rw [IntKind.wrap_i64]; omega
        have hno : ¬ (600 : Int) < (n9 : Int) := by omega
        rw [hlen, hn9]
        have HB5 : Hid (Below w4.heap.size w4 (w4.alloc (.cells #[] 33))) := lhide ((Below.refl _ _).alloc (Nat.le_refl _) _)
        have HOW5 : Hid ((w4.alloc (.cells #[] 33)).ownsRow w4.heap.size 33 6 (.slice (some ⟨w4.heap.size, 0, none⟩) 0 0) 0 []) := lhide (World.ownsRow_made w4 #[] 0 (Nat.le_refl _) (by decide) rfl)
        have HVa5 := lhide ((lunhide HVa).below (lunhide HB5))
        have HBS5 := lhide (lunhide HB5).size
        clear hlen
        go_wp2_with (at_builtin; refine wpList_append_rows _ rfl (.tmp 62) (.tmp 63) 23 rfl w4.heap.size 33 ti (.agg #[.int .i64 0, .int .i64 0, .string ⟨#[]⟩, .bool false, .string ⟨#[]⟩, .int .i64 0]) 6 64 Tryd.underlying23 hti htz0 htz1 htz2 rfl (by decide) _ 0 [] rfl (lunhide HOW5) 0 T.length _ (rowC x.size T) rfl (lunhide HVa5) (one_row x.size T) (by unfold maxLen; omega) (by omega) (lunhide HBS5) ?_)
        intro v5 w6 hown6 hgr6
        have hB6 : Below w4.heap.size w4 w6 := (lunhide HB5).grown hgr6 (lunhide HBS5) (fun j hj => own_blk (lunhide HOW5) j hj)
        try simp only [Nat.zero_add, List.nil_append] at hown6
        have HOW6 := lhide hown6
        have HB6 := lhide hB6
        have HVb6 := lhide ((lunhide HVb).below hB6)
        have HBS6 := lhide hB6.size
        clear hown6 hgr6 hB6 HOW5 HBS5 HB5 HVa5
        go_wp2_with (at_builtin; refine wpList_append_rows _ rfl (.tmp 64) (.tmp 65) 23 rfl w4.heap.size 33 ti (.agg #[.int .i64 0, .int .i64 0, .string ⟨#[]⟩, .bool false, .string ⟨#[]⟩, .int .i64 0]) 6 64 Tryd.underlying23 hti htz0 htz1 htz2 rfl (by decide) _ T.length (rowC x.size T) rfl (lunhide HOW6) 0 U.length _ (rowC t.size U) rfl (lunhide HVb6) (one_row t.size U) (by unfold maxLen; omega) (by omega) (lunhide HBS6) ?_)
        intro v7 w7 hown7 hgr7
        have hB7 : Below w4.heap.size w4 w7 := (lunhide HB6).grown hgr7 (lunhide HBS6) (fun j hj => own_blk (lunhide HOW6) j hj)
        have hown7x : w7.ownsRow w4.heap.size 33 6 v7 (T.length + U.length) (rowC x.size T ++ rowC t.size U) := by rw [hn9]; exact hown7
        have HOW7 := lhide (both_in hown7x)
        have HB7 := lhide hB7
        have HVc7 := lhide ((lunhide HVc).below hB7)
        clear hown7 hown7x hgr7 hB7 HOW6 HBS6 HB6 HVb6
        go_wp2_with fail
        have hsame := same10_yes (farther (t.size + 1) T ++ U) (farther t.size T ++ farther x.size U) _ _ _ _ w7 (lunhide HVc7) (lunhide HOW7) (join_fst (t.size + 1) x.size t.size T U) (by rw [List.length_append, far_len]; omega)
        rw [List.length_append, far_len, hn9] at hsame
        refine hsame.mono ?_
        rintro e w8 ⟨rfl, b8⟩
        have HB8 := lhide ((lunhide HB7).trans (b8.mono (lunhide HB7).size))
        clear hsame b8 HB7 HOW7 HVc7
        have HVb8 := lhide ((lunhide HVb).below (lunhide HB8))
        have HVc8 := lhide ((lunhide HVc).below (lunhide HB8))
        have HBF := lhide ((lunhide HB4).trans ((lunhide HB8).mono (lunhide HB4).size))
        clear HVa HVb HVc HB4 HB8
        go_wp2_with fail
        go_loopw [12, 13] (fun I0 I wr => I0 = .bool true ∧ ∃ k : Nat, I = .int .i64 (k : Int) ∧ k ≤ U.length ∧ Below w8.heap.size w8 wr) (fun _ I _ => U.length - (intOf I).toNat)
        case atStart => exact ⟨rfl, 0, rfl, Nat.zero_le _, Below.refl _ _⟩
        case round =>
          obtain ⟨rfl, k, rfl, hk9, hBr⟩ := hrel
          by_cases hlt : k < U.length
          · obtain ⟨g, e9, -, hgl, -, b1, -⟩ := tok_at ((lunhide HVb8).below hBr) k hlt
            have hj2 : T.length + k < (farther (t.size + 1) T ++ U).length := by rw [List.length_append, far_len]; omega
            have hvc := (lunhide HVc8).below hBr
            skip
            obtain ⟨g2, e8, -, hgl2, -, d1, -⟩ := tok_at hvc (T.length + k) hj2
            rw [join_at _ T U k hlt hj2] at d1
            have hrm : (U[k]'hlt).2 ≤ t.size := by
              obtain ⟨-, p2, -, -⟩ := lunhide HSP k hlt
              rw [lsize] at p2
              exact p2
            obtain ⟨pos, hpos⟩ : ∃ p : Nat, t.size - (U[k]'hlt).2 = p := ⟨_, rfl⟩
            rw [show (t.size : Int) - ((U[k]'hlt).2 : Int) = (pos : Int) by omega] at b1
            rw [show ((x.size + 1 + t.size : Nat) : Int) - ((U[k]'hlt).2 : Int) = ((pos + x.size + 1 : Nat) : Int) by omega] at d1
            obtain ⟨z1, hz1⟩ : ∃ z, pos + x.size = z := ⟨_, rfl⟩
            obtain ⟨z2, hz2⟩ : ∃ z, z1 + 1 = z := ⟨_, rfl⟩
            obtain ⟨j, hj⟩ : ∃ z, T.length + k = z := ⟨_, rfl⟩
            rw [hz1, hz2] at d1
            rw [hj] at d1
            have hw1 : IntKind.i64.wrap ((pos : Int) + (x.size : Int)) = (z1 : Int) := by rw [IntKind.wrap_i64]; omega
            have hw2 : IntKind.i64.wrap ((z1 : Int) + 1) = (z2 : Int) := by rw [IntKind.wrap_i64]; omega
            have hw3 : IntKind.i64.wrap ((T.length : Int) + (k : Int)) = (j : Int) := by rw [IntKind.wrap_i64]; omega
            have hk1 : (k : Int) < (U.length : Int) := by omega
            have hk2 : (j : Int) < (n9 : Int) := by omega
            subst e9
            subst e8
            have HX : Hid (∀ W, Below wr.heap.size wr W → W.cell? ⟨g, k * 6 + 1, none⟩ = some (.int .i64 (pos : Int)) ∧ W.cell? ⟨g2, j * 6 + 1, none⟩ = some (.int .i64 (z2 : Int))) := lhide (fun W hW => ⟨(hW.cell (p := ⟨g, k * 6 + 1, none⟩) hgl).trans b1, (hW.cell (p := ⟨g2, j * 6 + 1, none⟩) hgl2).trans d1⟩)
            have HBR := lhide hBr
            have HNN := lhide (And.intro hk9 hlt)
            clear hvc hj2 hrm hpos hz1 hz2 hj b1 d1 hgl hgl2 hBr hk9
            go_upto_region 17 with fail
            have hS : Below wr.heap.size wr wr.drew := (Below.refl _ _).drew
            refine wp_region_held_drew (S := (fun W => W.cell? ⟨g, k * 6 + 1, none⟩ = some (.int .i64 (pos : Int)) ∧ W.cell? ⟨g2, j * 6 + 1, none⟩ = some (.int .i64 (z2 : Int)))) (by kernel_rfl) ?hS0q2x (fun hHeld => ?restq2x0)
            case hS0q2x => first | (dsimp only; (exact lunhide HX _ hS)) | (exact lunhide HX _ hS)
            case restq2x0 =>
            refine wpAnyH_take (i := 0) (v := ?vq2x0) rfl (by kernel_rfl) (by kernel_rfl) (by kernel_rfl) (fun _ _ _ h => h) (Or.inl ⟨by rfl, ?hyq2x0⟩) (by assumption) ?restq2x1
            case hyq2x0 => ((intro w hSw; (try dsimp only at hSw); go_simp) <;> with_reducible rfl)
            case restq2x1 =>
            try simp only [Act.put, List.getElem_toArray, List.getElem_cons_zero, List.getElem_cons_succ, List.setIfInBounds_toArray, List.set_cons_zero, List.set_cons_succ]
            refine wpAnyH_take (i := 1) (v := ?vq2x1) rfl (by kernel_rfl) (by kernel_rfl) (by kernel_rfl) (fun _ _ _ h => h) (Or.inl ⟨by rfl, ?hyq2x1⟩) (by assumption) ?restq2x2
            case hyq2x1 => ((intro w hSw; (try dsimp only at hSw); go_simp) <;> with_reducible rfl)
            case restq2x2 =>
            try simp only [Act.put, List.getElem_toArray, List.getElem_cons_zero, List.getElem_cons_succ, List.setIfInBounds_toArray, List.set_cons_zero, List.set_cons_succ]
            refine wpAnyH_take (i := 2) (v := ?vq2x2) rfl (by kernel_rfl) (by kernel_rfl) (by kernel_rfl) (fun _ _ _ h => h) (Or.inl ⟨by rfl, ?hyq2x2⟩) (by assumption) ?restq2x3
            case hyq2x2 => ((intro w hSw; (try dsimp only at hSw); go_simp) <;> with_reducible rfl)
            case restq2x3 =>
            try simp only [Act.put, List.getElem_toArray, List.getElem_cons_zero, List.getElem_cons_succ, List.setIfInBounds_toArray, List.set_cons_zero, List.set_cons_succ]
            refine wpAnyH_take (i := 3) (v := ?vq2x3) rfl (by kernel_rfl) (by kernel_rfl) (by kernel_rfl) (fun _ _ _ h => h) (Or.inl ⟨by rfl, ?hyq2x3⟩) (by assumption) ?restq2x4
            case hyq2x3 => ((intro w hSw; (try dsimp only at hSw); go_simp) <;> with_reducible rfl)
            case restq2x4 =>
            try simp only [Act.put, List.getElem_toArray, List.getElem_cons_zero, List.getElem_cons_succ, List.setIfInBounds_toArray, List.set_cons_zero, List.set_cons_succ]
            refine wpAnyH_take (i := 4) (v := ?vq2x4) rfl (by kernel_rfl) (by kernel_rfl) (by kernel_rfl) (fun _ _ _ h => h) (Or.inl ⟨by rfl, ?hyq2x4⟩) (by assumption) ?restq2x5
            case hyq2x4 => ((intro w hSw; (try dsimp only at hSw); go_simp) <;> with_reducible rfl)
            case restq2x5 =>
            try simp only [Act.put, List.getElem_toArray, List.getElem_cons_zero, List.getElem_cons_succ, List.setIfInBounds_toArray, List.set_cons_zero, List.set_cons_succ]
            refine wpAnyH_take (i := 5) (v := ?vq2x5) rfl (by kernel_rfl) (by kernel_rfl) (by kernel_rfl) (fun _ _ _ h => h) (Or.inl ⟨by rfl, ?hyq2x5⟩) (by assumption) ?restq2x6
            case hyq2x5 => ((intro w hSw; (try dsimp only at hSw); go_simp) <;> with_reducible rfl)
            case restq2x6 =>
            try simp only [Act.put, List.getElem_toArray, List.getElem_cons_zero, List.getElem_cons_succ, List.setIfInBounds_toArray, List.set_cons_zero, List.set_cons_succ]
            refine wpAnyH_take (i := 6) (v := ?vq2x6) rfl (by kernel_rfl) (by kernel_rfl) (by kernel_rfl) (fun _ _ _ h => h) (Or.inl ⟨by rfl, ?hyq2x6⟩) (by assumption) ?restq2x7
            case hyq2x6 => ((intro w hSw; (try dsimp only at hSw); go_simp) <;> with_reducible rfl)
            case restq2x7 =>
            try simp only [Act.put, List.getElem_toArray, List.getElem_cons_zero, List.getElem_cons_succ, List.setIfInBounds_toArray, List.set_cons_zero, List.set_cons_succ]
            refine wpAnyH_take (i := 7) (v := ?vq2x7) rfl (by kernel_rfl) (by kernel_rfl) (by kernel_rfl) (fun _ _ _ h => h) (Or.inl ⟨by rfl, ?hyq2x7⟩) (by assumption) ?restq2x8
            case hyq2x7 => ((intro w hSw; (try dsimp only at hSw); go_simp) <;> with_reducible rfl)
            case restq2x8 =>
            try simp only [Act.put, List.getElem_toArray, List.getElem_cons_zero, List.getElem_cons_succ, List.setIfInBounds_toArray, List.set_cons_zero, List.set_cons_succ]
            refine wpAnyH_take (i := 8) (v := ?vq2x8) rfl (by kernel_rfl) (by kernel_rfl) (by kernel_rfl) (fun _ _ _ h => h) (Or.inl ⟨by rfl, ?hyq2x8⟩) (by assumption) ?restq2x9
            case hyq2x8 => ((intro w hSw; (try dsimp only at hSw); go_simp) <;> with_reducible rfl)
            case restq2x9 =>
            try simp only [Act.put, List.getElem_toArray, List.getElem_cons_zero, List.getElem_cons_succ, List.setIfInBounds_toArray, List.set_cons_zero, List.set_cons_succ]
            refine wpAnyH_take (i := 9) (v := ?vq2x9) rfl (by kernel_rfl) (by kernel_rfl) (by kernel_rfl) (fun _ _ _ h => h) (Or.inl ⟨by rfl, ?hyq2x9⟩) (by assumption) ?restq2x10
            case hyq2x9 => ((intro w hSw; (try dsimp only at hSw); go_simp) <;> with_reducible rfl)
            case restq2x10 =>
            try simp only [Act.put, List.getElem_toArray, List.getElem_cons_zero, List.getElem_cons_succ, List.setIfInBounds_toArray, List.set_cons_zero, List.set_cons_succ]
            refine wpAnyH_take (i := 10) (v := ?vq2x10) rfl (by kernel_rfl) (by kernel_rfl) (by kernel_rfl) (fun _ _ _ h => h) (Or.inl ⟨by rfl, ?hyq2x10⟩) (by assumption) ?restq2x11
            case hyq2x10 => ((intro w hSw; (try dsimp only at hSw); go_simp) <;> with_reducible rfl)
            case restq2x11 =>
            try simp only [Act.put, List.getElem_toArray, List.getElem_cons_zero, List.getElem_cons_succ, List.setIfInBounds_toArray, List.set_cons_zero, List.set_cons_succ]
            refine wpAnyH_take (i := 11) (v := ?vq2x11) rfl (by kernel_rfl) (by kernel_rfl) (by kernel_rfl) (fun _ _ _ h => h) (Or.inl ⟨by rfl, ?hyq2x11⟩) (by assumption) ?restq2x12
            case hyq2x11 => ((intro w hSw; (try dsimp only at hSw); go_simp) <;> with_reducible rfl)
            case restq2x12 =>
            try simp only [Act.put, List.getElem_toArray, List.getElem_cons_zero, List.getElem_cons_succ, List.setIfInBounds_toArray, List.set_cons_zero, List.set_cons_succ]
            refine wpAnyH_take (i := 12) (v := ?vq2x12) rfl (by kernel_rfl) (by kernel_rfl) (by kernel_rfl) (fun _ _ _ h => h) (Or.inl ⟨by rfl, ?hyq2x12⟩) (by assumption) ?restq2x13
            case hyq2x12 => ((intro w hSw; (try dsimp only at hSw); go_simp) <;> with_reducible rfl)
            case restq2x13 =>
            try simp only [Act.put, List.getElem_toArray, List.getElem_cons_zero, List.getElem_cons_succ, List.setIfInBounds_toArray, List.set_cons_zero, List.set_cons_succ]
            refine wpAnyH_take (i := 13) (v := ?vq2x13) rfl (by kernel_rfl) (by kernel_rfl) (by kernel_rfl) (fun _ _ _ h => h) (Or.inl ⟨by rfl, ?hyq2x13⟩) (by assumption) ?restq2x14
            case hyq2x13 => ((intro w hSw; (try dsimp only at hSw); go_simp) <;> with_reducible rfl)
            case restq2x14 =>
            try simp only [Act.put, List.getElem_toArray, List.getElem_cons_zero, List.getElem_cons_succ, List.setIfInBounds_toArray, List.set_cons_zero, List.set_cons_succ]
            refine wpAnyH_take (i := 14) (v := ?vq2x14) rfl (by kernel_rfl) (by kernel_rfl) (by kernel_rfl) (fun _ _ _ h => h) (Or.inl ⟨by rfl, ?hyq2x14⟩) (by assumption) ?restq2x15
            case hyq2x14 => ((intro w hSw; (try dsimp only at hSw); go_simp) <;> with_reducible rfl)
            case restq2x15 =>
            try simp only [Act.put, List.getElem_toArray, List.getElem_cons_zero, List.getElem_cons_succ, List.setIfInBounds_toArray, List.set_cons_zero, List.set_cons_succ]
            refine wpAnyH_take (i := 15) (v := ?vq2x15) rfl (by kernel_rfl) (by kernel_rfl) (by kernel_rfl) (fun _ _ _ h => h) (Or.inl ⟨by rfl, ?hyq2x15⟩) (by assumption) ?restq2x16
            case hyq2x15 => ((intro w hSw; (try dsimp only at hSw); go_simp) <;> with_reducible rfl)
            case restq2x16 =>
            try simp only [Act.put, List.getElem_toArray, List.getElem_cons_zero, List.getElem_cons_succ, List.setIfInBounds_toArray, List.set_cons_zero, List.set_cons_succ]
            refine wpAnyH_take (i := 16) (v := ?vq2x16) rfl (by kernel_rfl) (by kernel_rfl) (by kernel_rfl) (fun _ _ _ h => h) (Or.inl ⟨by rfl, ?hyq2x16⟩) (by assumption) ?restq2x17
            case hyq2x16 => ((intro w hSw; (try dsimp only at hSw); go_simp) <;> with_reducible rfl)
            case restq2x17 =>
            try simp only [Act.put, List.getElem_toArray, List.getElem_cons_zero, List.getElem_cons_succ, List.setIfInBounds_toArray, List.set_cons_zero, List.set_cons_succ]
            refine wpAnyH_take (i := 17) (v := ?vq2x17) rfl (by kernel_rfl) (by kernel_rfl) (by kernel_rfl) (fun _ _ _ h => h) (Or.inl ⟨by rfl, ?hyq2x17⟩) (by assumption) ?restq2x18
            case hyq2x17 => ((intro w hSw; (try dsimp only at hSw); go_simp) <;> with_reducible rfl)
            case restq2x18 =>
            try simp only [Act.put, List.getElem_toArray, List.getElem_cons_zero, List.getElem_cons_succ, List.setIfInBounds_toArray, List.set_cons_zero, List.set_cons_succ]
            refine wpAnyH_take (i := 18) (v := ?vq2x18) rfl (by kernel_rfl) (by kernel_rfl) (by kernel_rfl) (fun _ _ _ h => h) (Or.inl ⟨by rfl, ?hyq2x18⟩) (by assumption) ?restq2x19
            case hyq2x18 => ((intro w hSw; (try dsimp only at hSw); go_simp) <;> with_reducible rfl)
            case restq2x19 =>
            try simp only [Act.put, List.getElem_toArray, List.getElem_cons_zero, List.getElem_cons_succ, List.setIfInBounds_toArray, List.set_cons_zero, List.set_cons_succ]
            refine wpAnyH_take (i := 19) (v := ?vq2x19) rfl (by kernel_rfl) (by kernel_rfl) (by kernel_rfl) (fun _ _ _ h => h) (Or.inl ⟨by rfl, ?hyq2x19⟩) (by assumption) ?restq2x20
            case hyq2x19 => ((intro w hSw; (try dsimp only at hSw); go_simp) <;> with_reducible rfl)
            case restq2x20 =>
            try simp only [Act.put, List.getElem_toArray, List.getElem_cons_zero, List.getElem_cons_succ, List.setIfInBounds_toArray, List.set_cons_zero, List.set_cons_succ]
            refine wpAnyH_take (i := 20) (v := ?vq2x20) rfl (by kernel_rfl) (by kernel_rfl) (by kernel_rfl) (fun _ _ _ h => h) (Or.inl ⟨by rfl, ?hyq2x20⟩) (by assumption) ?restq2x21
            case hyq2x20 => ((intro w hSw; (try dsimp only at hSw); go_simp) <;> with_reducible rfl)
            case restq2x21 =>
            try simp only [Act.put, List.getElem_toArray, List.getElem_cons_zero, List.getElem_cons_succ, List.setIfInBounds_toArray, List.set_cons_zero, List.set_cons_succ]
            refine wpAnyH_take (i := 21) (v := ?vq2x21) rfl (by kernel_rfl) (by kernel_rfl) (by kernel_rfl) (fun _ _ _ h => h) (Or.inl ⟨by rfl, ?hyq2x21⟩) (by assumption) ?restq2x22
            case hyq2x21 => ((intro w hSw; (try dsimp only at hSw); go_simp) <;> with_reducible rfl)
            case restq2x22 =>
            try simp only [Act.put, List.getElem_toArray, List.getElem_cons_zero, List.getElem_cons_succ, List.setIfInBounds_toArray, List.set_cons_zero, List.set_cons_succ]
            refine wpAnyH_done (by kernel_rfl) ?_ _
            have HBS : Hid (Below w8.heap.size w8 wr.drew) := lhide ((lunhide HBR).trans (hS.mono (lunhide HBR).size))
            clear hS HBR HX
            go_wp2_with fail
            go_roundw
            case rel => exact ⟨rfl, k + 1, by go_num, (lunhide HNN).2, lunhide HBS⟩
            case measure => have := (lunhide HNN).2; simp [intOf]; omega
          · have hki : ¬ (k : Int) < (U.length : Int) := by omega
            have HBE := lhide ((lunhide HBF).trans (hBr.mono (lunhide HBF).size))
            clear hBr
            go_wp2_with fail
            go_ret
            exact ⟨rfl, lunhide HBE⟩
set_option maxHeartbeats 32000000 in
theorem joins10_2 (s t : ByteArray) (w : World) (hs0 : s.size ≤ maxLen) (ht0 : t.size ≤ maxLen) (hT : Tabs w) (hS : Sg w) (q1 : s.size ≤ 500) (q2 : 500 < t.size) :
    Calls Tryd.prog 4 #[.string s, .string t] w fun e w' => e = .returned (.bool true) ∧ Below w.heap.size w w' := by
  have HSH := lhide (shown10_any w hT hS)
  have his : ¬ (500 : Int) < (s.size : Int) := by omega
  have h5 : s.size ≤ 500 := by omega
  have hit : (500 : Int) < (t.size : Int) := by omega
  have h6 : (t.extract 0 500).size ≤ 500 := by
    have e9 : fewB 500 t = t.extract 0 500 := if_pos (by omega)
    rw [← e9]; exact few_size 500 t
  obtain ⟨y, hy⟩ : ∃ z, t.extract 0 500 = z := ⟨_, rfl⟩
  rw [hy] at h6
  have hlet : (500 : Int) ≤ (t.size : Int) := by omega
  clear q1 q2 hs0 ht0
  have a1 : ∀ W, (Op.stringOp .add s ⟨#[32]⟩).run Tryd.prog W = .ok (.string (s ++ ⟨#[32]⟩)) W := fun W => run_string_add_sum _ _ _ (by show s.size + 1 ≤ _; omega)
  have a2 : ∀ W, (Op.stringOp .add (s ++ ⟨#[32]⟩) y).run Tryd.prog W = .ok (.string ((s ++ ⟨#[32]⟩) ++ y)) W := fun W => run_string_add_sum _ _ _ (by rw [ByteArray.size_append]; show s.size + 1 + y.size ≤ _; omega)
  rcases back_all s (by omega) w hT hS with ⟨hlx, HA⟩ | ⟨T, hlx, HA⟩
  · obtain ⟨er, TC, HC⟩ := join_some s y h5 h6 w hT hS
    rcases back_all y (by omega) w hT hS with ⟨hlu, HB⟩ | ⟨U, hlu, HB⟩
    · clear hlx hlu hT hS
      go_enter Tryd.func4, Tryd.ntmps4
      go_wp2_with fail
      refine (lunhide HSH).mono ?_
      rintro e w1 ⟨rfl, b1⟩
      have HB1 := lhide b1
      clear b1
      go_wp2_with fail
      refine (lunhide HA _ (lunhide HB1)).mono ?_
      rintro e w2 ⟨Va, rfl, hVa, b2⟩
      have HVa := lhide hVa
      have HB2 := lhide ((lunhide HB1).trans (b2.mono (lunhide HB1).size))
      clear b2 HB1 hVa HA
      go_wp2_with fail
      refine (lunhide HB _ (lunhide HB2)).mono ?_
      rintro e w3 ⟨Vb, rfl, hVb, b3⟩
      have HVb := lhide hVb
      have HVax := lhide ((lunhide HVa).below b3)
      clear HVa
      have HVa := HVax
      clear HVax
      have HB3 := lhide ((lunhide HB2).trans (b3.mono (lunhide HB2).size))
      clear b3 HB2 hVb HB
      go_wp2_with fail
      refine (lunhide HC _ (lunhide HB3)).mono ?_
      rintro e w4 ⟨Vc, rfl, hVc, b4⟩
      have HVc := lhide hVc
      have HVax := lhide ((lunhide HVa).below b4)
      clear HVa
      have HVa := HVax
      clear HVax
      have HVbx := lhide ((lunhide HVb).below b4)
      clear HVb
      have HVb := HVbx
      clear HVbx
      have HB4 := lhide ((lunhide HB3).trans (b4.mono (lunhide HB3).size))
      clear b4 HB3 hVc HC
      go_wp2_with fail
      go_ret
      exact ⟨rfl, lunhide HB4⟩
    · clear hlx hlu hT hS
      go_enter Tryd.func4, Tryd.ntmps4
      go_wp2_with fail
      refine (lunhide HSH).mono ?_
      rintro e w1 ⟨rfl, b1⟩
      have HB1 := lhide b1
      clear b1
      go_wp2_with fail
      refine (lunhide HA _ (lunhide HB1)).mono ?_
      rintro e w2 ⟨Va, rfl, hVa, b2⟩
      have HVa := lhide hVa
      have HB2 := lhide ((lunhide HB1).trans (b2.mono (lunhide HB1).size))
      clear b2 HB1 hVa HA
      go_wp2_with fail
      refine (lunhide HB _ (lunhide HB2)).mono ?_
      rintro e w3 ⟨Vb, rfl, hVb, b3⟩
      have HVb := lhide hVb
      have HVax := lhide ((lunhide HVa).below b3)
      clear HVa
      have HVa := HVax
      clear HVax
      have HB3 := lhide ((lunhide HB2).trans (b3.mono (lunhide HB2).size))
      clear b3 HB2 hVb HB
      go_wp2_with fail
      refine (lunhide HC _ (lunhide HB3)).mono ?_
      rintro e w4 ⟨Vc, rfl, hVc, b4⟩
      have HVc := lhide hVc
      have HVax := lhide ((lunhide HVa).below b4)
      clear HVa
      have HVa := HVax
      clear HVax
      have HVbx := lhide ((lunhide HVb).below b4)
      clear HVb
      have HVb := HVbx
      clear HVbx
      have HB4 := lhide ((lunhide HB3).trans (b4.mono (lunhide HB3).size))
      clear b4 HB3 hVc HC
      go_wp2_with fail
      go_ret
      exact ⟨rfl, lunhide HB4⟩
  · rcases back_all y (by omega) w hT hS with ⟨hlu, HB⟩ | ⟨U, hlu, HB⟩
    · obtain ⟨er, TC, HC⟩ := join_some s y h5 h6 w hT hS
      clear hlx hlu hT hS
      go_enter Tryd.func4, Tryd.ntmps4
      go_wp2_with fail
      refine (lunhide HSH).mono ?_
      rintro e w1 ⟨rfl, b1⟩
      have HB1 := lhide b1
      clear b1
      go_wp2_with fail
      refine (lunhide HA _ (lunhide HB1)).mono ?_
      rintro e w2 ⟨Va, rfl, hVa, b2⟩
      have HVa := lhide hVa
      have HB2 := lhide ((lunhide HB1).trans (b2.mono (lunhide HB1).size))
      clear b2 HB1 hVa HA
      go_wp2_with fail
      refine (lunhide HB _ (lunhide HB2)).mono ?_
      rintro e w3 ⟨Vb, rfl, hVb, b3⟩
      have HVb := lhide hVb
      have HVax := lhide ((lunhide HVa).below b3)
      clear HVa
      have HVa := HVax
      clear HVax
      have HB3 := lhide ((lunhide HB2).trans (b3.mono (lunhide HB2).size))
      clear b3 HB2 hVb HB
      go_wp2_with fail
      refine (lunhide HC _ (lunhide HB3)).mono ?_
      rintro e w4 ⟨Vc, rfl, hVc, b4⟩
      have HVc := lhide hVc
      have HVax := lhide ((lunhide HVa).below b4)
      clear HVa
      have HVa := HVax
      clear HVax
      have HVbx := lhide ((lunhide HVb).below b4)
      clear HVb
      have HVb := HVbx
      clear HVbx
      have HB4 := lhide ((lunhide HB3).trans (b4.mono (lunhide HB3).size))
      clear b4 HB3 hVc HC
      go_wp2_with fail
      go_ret
      exact ⟨rfl, lunhide HB4⟩
    · obtain ⟨hl5, hl6, hcase⟩ := join_all s y h5 h6 T U hlx hlu w hT hS
      have HSP := lhide (Lx.lex_spec _ y.data.toList (Nat.le_refl _) U hlu)
      clear hlx hlu hT hS
      rcases hcase with ⟨h600, HC⟩ | ⟨h600, HC⟩
      · clear HSP
        go_enter Tryd.func4, Tryd.ntmps4
        go_wp2_with fail
        refine (lunhide HSH).mono ?_
        rintro e w1 ⟨rfl, b1⟩
        have HB1 := lhide b1
        clear b1
        go_wp2_with fail
        refine (lunhide HA _ (lunhide HB1)).mono ?_
        rintro e w2 ⟨Va, rfl, hVa, b2⟩
        have HVa := lhide hVa
        have HB2 := lhide ((lunhide HB1).trans (b2.mono (lunhide HB1).size))
        clear b2 HB1 hVa HA
        go_wp2_with fail
        refine (lunhide HB _ (lunhide HB2)).mono ?_
        rintro e w3 ⟨Vb, rfl, hVb, b3⟩
        have HVb := lhide hVb
        have HVax := lhide ((lunhide HVa).below b3)
        clear HVa
        have HVa := HVax
        clear HVax
        have HB3 := lhide ((lunhide HB2).trans (b3.mono (lunhide HB2).size))
        clear b3 HB2 hVb HB
        go_wp2_with fail
        refine (lunhide HC _ (lunhide HB3)).mono ?_
        rintro e w4 ⟨Vc, rfl, hVc, b4⟩
        have HVc := lhide hVc
        have HVax := lhide ((lunhide HVa).below b4)
        clear HVa
        have HVa := HVax
        clear HVax
        have HVbx := lhide ((lunhide HVb).below b4)
        clear HVb
        have HVb := HVbx
        clear HVbx
        have HB4 := lhide ((lunhide HB3).trans (b4.mono (lunhide HB3).size))
        clear b4 HB3 hVc HC
        obtain ⟨aa, ca, rfl⟩ := (lunhide HVa).shape
        obtain ⟨ab, cb, rfl⟩ := (lunhide HVb).shape
        obtain ⟨ac, cc, rfl⟩ := (lunhide HVc).shape
        have hadd : IntKind.i64.wrap ((T.length : Int) + (U.length : Int)) = ((T.length + U.length : Nat) : Int) := by rw [IntKind.wrap_i64]; omega
        have hyes : (600 : Int) < ((T.length + U.length : Nat) : Int) := by omega
        clear HVa HVb HVc h600 hl5 hl6
        go_wp2_with fail
        go_ret
        exact ⟨rfl, lunhide HB4⟩
      · skip
        go_enter Tryd.func4, Tryd.ntmps4
        go_wp2_with fail
        refine (lunhide HSH).mono ?_
        rintro e w1 ⟨rfl, b1⟩
        have HB1 := lhide b1
        clear b1
        go_wp2_with fail
        refine (lunhide HA _ (lunhide HB1)).mono ?_
        rintro e w2 ⟨Va, rfl, hVa, b2⟩
        have HVa := lhide hVa
        have HB2 := lhide ((lunhide HB1).trans (b2.mono (lunhide HB1).size))
        clear b2 HB1 hVa HA
        go_wp2_with fail
        refine (lunhide HB _ (lunhide HB2)).mono ?_
        rintro e w3 ⟨Vb, rfl, hVb, b3⟩
        have HVb := lhide hVb
        have HVax := lhide ((lunhide HVa).below b3)
        clear HVa
        have HVa := HVax
        clear HVax
        have HB3 := lhide ((lunhide HB2).trans (b3.mono (lunhide HB2).size))
        clear b3 HB2 hVb HB
        go_wp2_with fail
        refine (lunhide HC _ (lunhide HB3)).mono ?_
        rintro e w4 ⟨Vc, rfl, hVc, b4⟩
        have HVc := lhide hVc
        have HVax := lhide ((lunhide HVa).below b4)
        clear HVa
        have HVa := HVax
        clear HVax
        have HVbx := lhide ((lunhide HVb).below b4)
        clear HVb
        have HVb := HVbx
        clear HVbx
        have HB4 := lhide ((lunhide HB3).trans (b4.mono (lunhide HB3).size))
        clear b4 HB3 hVc HC
        obtain ⟨aa, ca, rfl⟩ := (lunhide HVa).shape
        obtain ⟨ab, cb, rfl⟩ := (lunhide HVb).shape
        obtain ⟨ac, cc, rfl⟩ := (lunhide HVc).shape
        obtain ⟨ti, hti, htz0, htz1, htz2⟩ := tk_info
        have hlen : (farther (y.size + 1) T ++ U).length = T.length + U.length := by rw [List.length_append, far_len]
        obtain ⟨n9, hn9⟩ : ∃ n, T.length + U.length = n := ⟨_, rfl⟩
        have hadd : IntKind.i64.wrap ((T.length : Int) + (U.length : Int)) = (n9 : Int) := by rw [IntKind.wrap_i64]; omega
        have hno : ¬ (600 : Int) < (n9 : Int) := by omega
        rw [hlen, hn9]
        have HB5 : Hid (Below w4.heap.size w4 (w4.alloc (.cells #[] 33))) := lhide ((Below.refl _ _).alloc (Nat.le_refl _) _)
        have HOW5 : Hid ((w4.alloc (.cells #[] 33)).ownsRow w4.heap.size 33 6 (.slice (some ⟨w4.heap.size, 0, none⟩) 0 0) 0 []) := lhide (World.ownsRow_made w4 #[] 0 (Nat.le_refl _) (by decide) rfl)
        have HVa5 := lhide ((lunhide HVa).below (lunhide HB5))
        have HBS5 := lhide (lunhide HB5).size
        clear hlen
        go_wp2_with (at_builtin; refine wpList_append_rows _ rfl (.tmp 62) (.tmp 63) 23 rfl w4.heap.size 33 ti (.agg #[.int .i64 0, .int .i64 0, .string ⟨#[]⟩, .bool false, .string ⟨#[]⟩, .int .i64 0]) 6 64 Tryd.underlying23 hti htz0 htz1 htz2 rfl (by decide) _ 0 [] rfl (lunhide HOW5) 0 T.length _ (rowC s.size T) rfl (lunhide HVa5) (one_row s.size T) (by unfold maxLen; omega) (by omega) (lunhide HBS5) ?_)
        intro v5 w6 hown6 hgr6
        have hB6 : Below w4.heap.size w4 w6 := (lunhide HB5).grown hgr6 (lunhide HBS5) (fun j hj => own_blk (lunhide HOW5) j hj)
        try simp only [Nat.zero_add, List.nil_append] at hown6
        have HOW6 := lhide hown6
        have HB6 := lhide hB6
        have HVb6 := lhide ((lunhide HVb).below hB6)
        have HBS6 := lhide hB6.size
        clear hown6 hgr6 hB6 HOW5 HBS5 HB5 HVa5
        go_wp2_with (at_builtin; refine wpList_append_rows _ rfl (.tmp 64) (.tmp 65) 23 rfl w4.heap.size 33 ti (.agg #[.int .i64 0, .int .i64 0, .string ⟨#[]⟩, .bool false, .string ⟨#[]⟩, .int .i64 0]) 6 64 Tryd.underlying23 hti htz0 htz1 htz2 rfl (by decide) _ T.length (rowC s.size T) rfl (lunhide HOW6) 0 U.length _ (rowC y.size U) rfl (lunhide HVb6) (one_row y.size U) (by unfold maxLen; omega) (by omega) (lunhide HBS6) ?_)
        intro v7 w7 hown7 hgr7
        have hB7 : Below w4.heap.size w4 w7 := (lunhide HB6).grown hgr7 (lunhide HBS6) (fun j hj => own_blk (lunhide HOW6) j hj)
        have hown7x : w7.ownsRow w4.heap.size 33 6 v7 (T.length + U.length) (rowC s.size T ++ rowC y.size U) := by rw [hn9]; exact hown7
        have HOW7 := lhide (both_in hown7x)
        have HB7 := lhide hB7
        have HVc7 := lhide ((lunhide HVc).below hB7)
        clear hown7 hown7x hgr7 hB7 HOW6 HBS6 HB6 HVb6
        go_wp2_with fail
        have hsame := same10_yes (farther (y.size + 1) T ++ U) (farther y.size T ++ farther s.size U) _ _ _ _ w7 (lunhide HVc7) (lunhide HOW7) (join_fst (y.size + 1) s.size y.size T U) (by rw [List.length_append, far_len]; omega)
        rw [List.length_append, far_len, hn9] at hsame
        refine hsame.mono ?_
        rintro e w8 ⟨rfl, b8⟩
        have HB8 := lhide ((lunhide HB7).trans (b8.mono (lunhide HB7).size))
        clear hsame b8 HB7 HOW7 HVc7
        have HVb8 := lhide ((lunhide HVb).below (lunhide HB8))
        have HVc8 := lhide ((lunhide HVc).below (lunhide HB8))
        have HBF := lhide ((lunhide HB4).trans ((lunhide HB8).mono (lunhide HB4).size))
        clear HVa HVb HVc HB4 HB8
        go_wp2_with fail
        go_loopw [12, 13] (fun I0 I wr => I0 = .bool true ∧ ∃ k : Nat, I = .int .i64 (k : Int) ∧ k ≤ U.length ∧ Below w8.heap.size w8 wr) (fun _ I _ => U.length - (intOf I).toNat)
        case atStart => exact ⟨rfl, 0, rfl, Nat.zero_le _, Below.refl _ _⟩
        case round =>
          obtain ⟨rfl, k, rfl, hk9, hBr⟩ := hrel
          by_cases hlt : k < U.length
          · obtain ⟨g, e9, -, hgl, -, b1, -⟩ := tok_at ((lunhide HVb8).below hBr) k hlt
            have hj2 : T.length + k < (farther (y.size + 1) T ++ U).length := by rw [List.length_append, far_len]; omega
            have hvc := (lunhide HVc8).below hBr
            skip
            obtain ⟨g2, e8, -, hgl2, -, d1, -⟩ := tok_at hvc (T.length + k) hj2
            rw [join_at _ T U k hlt hj2] at d1
            have hrm : (U[k]'hlt).2 ≤ y.size := by
              obtain ⟨-, p2, -, -⟩ := lunhide HSP k hlt
              rw [lsize] at p2
              exact p2
            obtain ⟨pos, hpos⟩ : ∃ p : Nat, y.size - (U[k]'hlt).2 = p := ⟨_, rfl⟩
            rw [show (y.size : Int) - ((U[k]'hlt).2 : Int) = (pos : Int) by omega] at b1
            rw [show ((s.size + 1 + y.size : Nat) : Int) - ((U[k]'hlt).2 : Int) = ((pos + s.size + 1 : Nat) : Int) by omega] at d1
            obtain ⟨z1, hz1⟩ : ∃ z, pos + s.size = z := ⟨_, rfl⟩
            obtain ⟨z2, hz2⟩ : ∃ z, z1 + 1 = z := ⟨_, rfl⟩
            obtain ⟨j, hj⟩ : ∃ z, T.length + k = z := ⟨_, rfl⟩
            rw [hz1, hz2] at d1
            rw [hj] at d1
            have hw1 : IntKind.i64.wrap ((pos : Int) + (s.size : Int)) = (z1 : Int) := by rw [IntKind.wrap_i64]; omega
            have hw2 : IntKind.i64.wrap ((z1 : Int) + 1) = (z2 : Int) := by rw [IntKind.wrap_i64]; omega
            have hw3 : IntKind.i64.wrap ((T.length : Int) + (k : Int)) = (j : Int) := by rw [IntKind.wrap_i64]; omega
            have hk1 : (k : Int) < (U.length : Int) := by omega
            have hk2 : (j : Int) < (n9 : Int) := by omega
            subst e9
            subst e8
            have HX : Hid (∀ W, Below wr.heap.size wr W → W.cell? ⟨g, k * 6 + 1, none⟩ = some (.int .i64 (pos : Int)) ∧ W.cell? ⟨g2, j * 6 + 1, none⟩ = some (.int .i64 (z2 : Int))) := lhide (fun W hW => ⟨(hW.cell (p := ⟨g, k * 6 + 1, none⟩) hgl).trans b1, (hW.cell (p := ⟨g2, j * 6 + 1, none⟩) hgl2).trans d1⟩)
            have HBR := lhide hBr
            have HNN := lhide (And.intro hk9 hlt)
            clear hvc hj2 hrm hpos hz1 hz2 hj b1 d1 hgl hgl2 hBr hk9
            go_upto_region 17 with fail
            have hS : Below wr.heap.size wr wr.drew := (Below.refl _ _).drew
            refine wp_region_held_drew (S := (fun W => W.cell? ⟨g, k * 6 + 1, none⟩ = some (.int .i64 (pos : Int)) ∧ W.cell? ⟨g2, j * 6 + 1, none⟩ = some (.int .i64 (z2 : Int)))) (by kernel_rfl) ?hS0q3x (fun hHeld => ?restq3x0)
            case hS0q3x => first | (dsimp only; (exact lunhide HX _ hS)) | (exact lunhide HX _ hS)
            case restq3x0 =>
            refine wpAnyH_take (i := 0) (v := ?vq3x0) rfl (by kernel_rfl) (by kernel_rfl) (by kernel_rfl) (fun _ _ _ h => h) (Or.inl ⟨by rfl, ?hyq3x0⟩) (by assumption) ?restq3x1
            case hyq3x0 => ((intro w hSw; (try dsimp only at hSw); go_simp) <;> with_reducible rfl)
            case restq3x1 =>
            try simp only [Act.put, List.getElem_toArray, List.getElem_cons_zero, List.getElem_cons_succ, List.setIfInBounds_toArray, List.set_cons_zero, List.set_cons_succ]
            refine wpAnyH_take (i := 1) (v := ?vq3x1) rfl (by kernel_rfl) (by kernel_rfl) (by kernel_rfl) (fun _ _ _ h => h) (Or.inl ⟨by rfl, ?hyq3x1⟩) (by assumption) ?restq3x2
            case hyq3x1 => ((intro w hSw; (try dsimp only at hSw); go_simp) <;> with_reducible rfl)
            case restq3x2 =>
            try simp only [Act.put, List.getElem_toArray, List.getElem_cons_zero, List.getElem_cons_succ, List.setIfInBounds_toArray, List.set_cons_zero, List.set_cons_succ]
            refine wpAnyH_take (i := 2) (v := ?vq3x2) rfl (by kernel_rfl) (by kernel_rfl) (by kernel_rfl) (fun _ _ _ h => h) (Or.inl ⟨by rfl, ?hyq3x2⟩) (by assumption) ?restq3x3
            case hyq3x2 => ((intro w hSw; (try dsimp only at hSw); go_simp) <;> with_reducible rfl)
            case restq3x3 =>
            try simp only [Act.put, List.getElem_toArray, List.getElem_cons_zero, List.getElem_cons_succ, List.setIfInBounds_toArray, List.set_cons_zero, List.set_cons_succ]
            refine wpAnyH_take (i := 3) (v := ?vq3x3) rfl (by kernel_rfl) (by kernel_rfl) (by kernel_rfl) (fun _ _ _ h => h) (Or.inl ⟨by rfl, ?hyq3x3⟩) (by assumption) ?restq3x4
            case hyq3x3 => ((intro w hSw; (try dsimp only at hSw); go_simp) <;> with_reducible rfl)
            case restq3x4 =>
            try simp only [Act.put, List.getElem_toArray, List.getElem_cons_zero, List.getElem_cons_succ, List.setIfInBounds_toArray, List.set_cons_zero, List.set_cons_succ]
            refine wpAnyH_take (i := 4) (v := ?vq3x4) rfl (by kernel_rfl) (by kernel_rfl) (by kernel_rfl) (fun _ _ _ h => h) (Or.inl ⟨by rfl, ?hyq3x4⟩) (by assumption) ?restq3x5
            case hyq3x4 => ((intro w hSw; (try dsimp only at hSw); go_simp) <;> with_reducible rfl)
            case restq3x5 =>
            try simp only [Act.put, List.getElem_toArray, List.getElem_cons_zero, List.getElem_cons_succ, List.setIfInBounds_toArray, List.set_cons_zero, List.set_cons_succ]
            refine wpAnyH_take (i := 5) (v := ?vq3x5) rfl (by kernel_rfl) (by kernel_rfl) (by kernel_rfl) (fun _ _ _ h => h) (Or.inl ⟨by rfl, ?hyq3x5⟩) (by assumption) ?restq3x6
            case hyq3x5 => ((intro w hSw; (try dsimp only at hSw); go_simp) <;> with_reducible rfl)
            case restq3x6 =>
            try simp only [Act.put, List.getElem_toArray, List.getElem_cons_zero, List.getElem_cons_succ, List.setIfInBounds_toArray, List.set_cons_zero, List.set_cons_succ]
            refine wpAnyH_take (i := 6) (v := ?vq3x6) rfl (by kernel_rfl) (by kernel_rfl) (by kernel_rfl) (fun _ _ _ h => h) (Or.inl ⟨by rfl, ?hyq3x6⟩) (by assumption) ?restq3x7
            case hyq3x6 => ((intro w hSw; (try dsimp only at hSw); go_simp) <;> with_reducible rfl)
            case restq3x7 =>
            try simp only [Act.put, List.getElem_toArray, List.getElem_cons_zero, List.getElem_cons_succ, List.setIfInBounds_toArray, List.set_cons_zero, List.set_cons_succ]
            refine wpAnyH_take (i := 7) (v := ?vq3x7) rfl (by kernel_rfl) (by kernel_rfl) (by kernel_rfl) (fun _ _ _ h => h) (Or.inl ⟨by rfl, ?hyq3x7⟩) (by assumption) ?restq3x8
            case hyq3x7 => ((intro w hSw; (try dsimp only at hSw); go_simp) <;> with_reducible rfl)
            case restq3x8 =>
            try simp only [Act.put, List.getElem_toArray, List.getElem_cons_zero, List.getElem_cons_succ, List.setIfInBounds_toArray, List.set_cons_zero, List.set_cons_succ]
            refine wpAnyH_take (i := 8) (v := ?vq3x8) rfl (by kernel_rfl) (by kernel_rfl) (by kernel_rfl) (fun _ _ _ h => h) (Or.inl ⟨by rfl, ?hyq3x8⟩) (by assumption) ?restq3x9
            case hyq3x8 => ((intro w hSw; (try dsimp only at hSw); go_simp) <;> with_reducible rfl)
            case restq3x9 =>
            try simp only [Act.put, List.getElem_toArray, List.getElem_cons_zero, List.getElem_cons_succ, List.setIfInBounds_toArray, List.set_cons_zero, List.set_cons_succ]
            refine wpAnyH_take (i := 9) (v := ?vq3x9) rfl (by kernel_rfl) (by kernel_rfl) (by kernel_rfl) (fun _ _ _ h => h) (Or.inl ⟨by rfl, ?hyq3x9⟩) (by assumption) ?restq3x10
            case hyq3x9 => ((intro w hSw; (try dsimp only at hSw); go_simp) <;> with_reducible rfl)
            case restq3x10 =>
            try simp only [Act.put, List.getElem_toArray, List.getElem_cons_zero, List.getElem_cons_succ, List.setIfInBounds_toArray, List.set_cons_zero, List.set_cons_succ]
            refine wpAnyH_take (i := 10) (v := ?vq3x10) rfl (by kernel_rfl) (by kernel_rfl) (by kernel_rfl) (fun _ _ _ h => h) (Or.inl ⟨by rfl, ?hyq3x10⟩) (by assumption) ?restq3x11
            case hyq3x10 => ((intro w hSw; (try dsimp only at hSw); go_simp) <;> with_reducible rfl)
            case restq3x11 =>
            try simp only [Act.put, List.getElem_toArray, List.getElem_cons_zero, List.getElem_cons_succ, List.setIfInBounds_toArray, List.set_cons_zero, List.set_cons_succ]
            refine wpAnyH_take (i := 11) (v := ?vq3x11) rfl (by kernel_rfl) (by kernel_rfl) (by kernel_rfl) (fun _ _ _ h => h) (Or.inl ⟨by rfl, ?hyq3x11⟩) (by assumption) ?restq3x12
            case hyq3x11 => ((intro w hSw; (try dsimp only at hSw); go_simp) <;> with_reducible rfl)
            case restq3x12 =>
            try simp only [Act.put, List.getElem_toArray, List.getElem_cons_zero, List.getElem_cons_succ, List.setIfInBounds_toArray, List.set_cons_zero, List.set_cons_succ]
            refine wpAnyH_take (i := 12) (v := ?vq3x12) rfl (by kernel_rfl) (by kernel_rfl) (by kernel_rfl) (fun _ _ _ h => h) (Or.inl ⟨by rfl, ?hyq3x12⟩) (by assumption) ?restq3x13
            case hyq3x12 => ((intro w hSw; (try dsimp only at hSw); go_simp) <;> with_reducible rfl)
            case restq3x13 =>
            try simp only [Act.put, List.getElem_toArray, List.getElem_cons_zero, List.getElem_cons_succ, List.setIfInBounds_toArray, List.set_cons_zero, List.set_cons_succ]
            refine wpAnyH_take (i := 13) (v := ?vq3x13) rfl (by kernel_rfl) (by kernel_rfl) (by kernel_rfl) (fun _ _ _ h => h) (Or.inl ⟨by rfl, ?hyq3x13⟩) (by assumption) ?restq3x14
            case hyq3x13 => ((intro w hSw; (try dsimp only at hSw); go_simp) <;> with_reducible rfl)
            case restq3x14 =>
            try simp only [Act.put, List.getElem_toArray, List.getElem_cons_zero, List.getElem_cons_succ, List.setIfInBounds_toArray, List.set_cons_zero, List.set_cons_succ]
            refine wpAnyH_take (i := 14) (v := ?vq3x14) rfl (by kernel_rfl) (by kernel_rfl) (by kernel_rfl) (fun _ _ _ h => h) (Or.inl ⟨by rfl, ?hyq3x14⟩) (by assumption) ?restq3x15
            case hyq3x14 => ((intro w hSw; (try dsimp only at hSw); go_simp) <;> with_reducible rfl)
            case restq3x15 =>
            try simp only [Act.put, List.getElem_toArray, List.getElem_cons_zero, List.getElem_cons_succ, List.setIfInBounds_toArray, List.set_cons_zero, List.set_cons_succ]
            refine wpAnyH_take (i := 15) (v := ?vq3x15) rfl (by kernel_rfl) (by kernel_rfl) (by kernel_rfl) (fun _ _ _ h => h) (Or.inl ⟨by rfl, ?hyq3x15⟩) (by assumption) ?restq3x16
            case hyq3x15 => ((intro w hSw; (try dsimp only at hSw); go_simp) <;> with_reducible rfl)
            case restq3x16 =>
            try simp only [Act.put, List.getElem_toArray, List.getElem_cons_zero, List.getElem_cons_succ, List.setIfInBounds_toArray, List.set_cons_zero, List.set_cons_succ]
            refine wpAnyH_take (i := 16) (v := ?vq3x16) rfl (by kernel_rfl) (by kernel_rfl) (by kernel_rfl) (fun _ _ _ h => h) (Or.inl ⟨by rfl, ?hyq3x16⟩) (by assumption) ?restq3x17
            case hyq3x16 => ((intro w hSw; (try dsimp only at hSw); go_simp) <;> with_reducible rfl)
            case restq3x17 =>
            try simp only [Act.put, List.getElem_toArray, List.getElem_cons_zero, List.getElem_cons_succ, List.setIfInBounds_toArray, List.set_cons_zero, List.set_cons_succ]
            refine wpAnyH_take (i := 17) (v := ?vq3x17) rfl (by kernel_rfl) (by kernel_rfl) (by kernel_rfl) (fun _ _ _ h => h) (Or.inl ⟨by rfl, ?hyq3x17⟩) (by assumption) ?restq3x18
            case hyq3x17 => ((intro w hSw; (try dsimp only at hSw); go_simp) <;> with_reducible rfl)
            case restq3x18 =>
            try simp only [Act.put, List.getElem_toArray, List.getElem_cons_zero, List.getElem_cons_succ, List.setIfInBounds_toArray, List.set_cons_zero, List.set_cons_succ]
            refine wpAnyH_take (i := 18) (v := ?vq3x18) rfl (by kernel_rfl) (by kernel_rfl) (by kernel_rfl) (fun _ _ _ h => h) (Or.inl ⟨by rfl, ?hyq3x18⟩) (by assumption) ?restq3x19
            case hyq3x18 => ((intro w hSw; (try dsimp only at hSw); go_simp) <;> with_reducible rfl)
            case restq3x19 =>
            try simp only [Act.put, List.getElem_toArray, List.getElem_cons_zero, List.getElem_cons_succ, List.setIfInBounds_toArray, List.set_cons_zero, List.set_cons_succ]
            refine wpAnyH_take (i := 19) (v := ?vq3x19) rfl (by kernel_rfl) (by kernel_rfl) (by kernel_rfl) (fun _ _ _ h => h) (Or.inl ⟨by rfl, ?hyq3x19⟩) (by assumption) ?restq3x20
            case hyq3x19 => ((intro w hSw; (try dsimp only at hSw); go_simp) <;> with_reducible rfl)
            case restq3x20 =>
            try simp only [Act.put, List.getElem_toArray, List.getElem_cons_zero, List.getElem_cons_succ, List.setIfInBounds_toArray, List.set_cons_zero, List.set_cons_succ]
            refine wpAnyH_take (i := 20) (v := ?vq3x20) rfl (by kernel_rfl) (by kernel_rfl) (by kernel_rfl) (fun _ _ _ h => h) (Or.inl ⟨by rfl, ?hyq3x20⟩) (by assumption) ?restq3x21
            case hyq3x20 => ((intro w hSw; (try dsimp only at hSw); go_simp) <;> with_reducible rfl)
            case restq3x21 =>
            try simp only [Act.put, List.getElem_toArray, List.getElem_cons_zero, List.getElem_cons_succ, List.setIfInBounds_toArray, List.set_cons_zero, List.set_cons_succ]
            refine wpAnyH_take (i := 21) (v := ?vq3x21) rfl (by kernel_rfl) (by kernel_rfl) (by kernel_rfl) (fun _ _ _ h => h) (Or.inl ⟨by rfl, ?hyq3x21⟩) (by assumption) ?restq3x22
            case hyq3x21 => ((intro w hSw; (try dsimp only at hSw); go_simp) <;> with_reducible rfl)
            case restq3x22 =>
            try simp only [Act.put, List.getElem_toArray, List.getElem_cons_zero, List.getElem_cons_succ, List.setIfInBounds_toArray, List.set_cons_zero, List.set_cons_succ]
            refine wpAnyH_done (by kernel_rfl) ?_ _
            have HBS : Hid (Below w8.heap.size w8 wr.drew) := lhide ((lunhide HBR).trans (hS.mono (lunhide HBR).size))
            clear hS HBR HX
            go_wp2_with fail
            go_roundw
            case rel => exact ⟨rfl, k + 1, by go_num, (lunhide HNN).2, lunhide HBS⟩
            case measure => have := (lunhide HNN).2; simp [intOf]; omega
          · have hki : ¬ (k : Int) < (U.length : Int) := by omega
            have HBE := lhide ((lunhide HBF).trans (hBr.mono (lunhide HBF).size))
            clear hBr
            go_wp2_with fail
            go_ret
            exact ⟨rfl, lunhide HBE⟩
set_option maxHeartbeats 32000000 in
theorem joins10_3 (s t : ByteArray) (w : World) (hs0 : s.size ≤ maxLen) (ht0 : t.size ≤ maxLen) (hT : Tabs w) (hS : Sg w) (q1 : 500 < s.size) (q2 : 500 < t.size) :
    Calls Tryd.prog 4 #[.string s, .string t] w fun e w' => e = .returned (.bool true) ∧ Below w.heap.size w w' := by
  have HSH := lhide (shown10_any w hT hS)
  have his : (500 : Int) < (s.size : Int) := by omega
  have h5 : (s.extract 0 500).size ≤ 500 := by
    have e9 : fewB 500 s = s.extract 0 500 := if_pos (by omega)
    rw [← e9]; exact few_size 500 s
  obtain ⟨x, hx⟩ : ∃ z, s.extract 0 500 = z := ⟨_, rfl⟩
  rw [hx] at h5
  have hles : (500 : Int) ≤ (s.size : Int) := by omega
  have hit : (500 : Int) < (t.size : Int) := by omega
  have h6 : (t.extract 0 500).size ≤ 500 := by
    have e9 : fewB 500 t = t.extract 0 500 := if_pos (by omega)
    rw [← e9]; exact few_size 500 t
  obtain ⟨y, hy⟩ : ∃ z, t.extract 0 500 = z := ⟨_, rfl⟩
  rw [hy] at h6
  have hlet : (500 : Int) ≤ (t.size : Int) := by omega
  clear q1 q2 hs0 ht0
  have a1 : ∀ W, (Op.stringOp .add x ⟨#[32]⟩).run Tryd.prog W = .ok (.string (x ++ ⟨#[32]⟩)) W := fun W => run_string_add_sum _ _ _ (by show x.size + 1 ≤ _; omega)
  have a2 : ∀ W, (Op.stringOp .add (x ++ ⟨#[32]⟩) y).run Tryd.prog W = .ok (.string ((x ++ ⟨#[32]⟩) ++ y)) W := fun W => run_string_add_sum _ _ _ (by rw [ByteArray.size_append]; show x.size + 1 + y.size ≤ _; omega)
  rcases back_all x (by omega) w hT hS with ⟨hlx, HA⟩ | ⟨T, hlx, HA⟩
  · obtain ⟨er, TC, HC⟩ := join_some x y h5 h6 w hT hS
    rcases back_all y (by omega) w hT hS with ⟨hlu, HB⟩ | ⟨U, hlu, HB⟩
    · clear hlx hlu hT hS
      go_enter Tryd.func4, Tryd.ntmps4
      go_wp2_with fail
      refine (lunhide HSH).mono ?_
      rintro e w1 ⟨rfl, b1⟩
      have HB1 := lhide b1
      clear b1
      go_wp2_with fail
      refine (lunhide HA _ (lunhide HB1)).mono ?_
      rintro e w2 ⟨Va, rfl, hVa, b2⟩
      have HVa := lhide hVa
      have HB2 := lhide ((lunhide HB1).trans (b2.mono (lunhide HB1).size))
      clear b2 HB1 hVa HA
      go_wp2_with fail
      refine (lunhide HB _ (lunhide HB2)).mono ?_
      rintro e w3 ⟨Vb, rfl, hVb, b3⟩
      have HVb := lhide hVb
      have HVax := lhide ((lunhide HVa).below b3)
      clear HVa
      have HVa := HVax
      clear HVax
      have HB3 := lhide ((lunhide HB2).trans (b3.mono (lunhide HB2).size))
      clear b3 HB2 hVb HB
      go_wp2_with fail
      refine (lunhide HC _ (lunhide HB3)).mono ?_
      rintro e w4 ⟨Vc, rfl, hVc, b4⟩
      have HVc := lhide hVc
      have HVax := lhide ((lunhide HVa).below b4)
      clear HVa
      have HVa := HVax
      clear HVax
      have HVbx := lhide ((lunhide HVb).below b4)
      clear HVb
      have HVb := HVbx
      clear HVbx
      have HB4 := lhide ((lunhide HB3).trans (b4.mono (lunhide HB3).size))
      clear b4 HB3 hVc HC
      go_wp2_with fail
      go_ret
      exact ⟨rfl, lunhide HB4⟩
    · clear hlx hlu hT hS
      go_enter Tryd.func4, Tryd.ntmps4
      go_wp2_with fail
      refine (lunhide HSH).mono ?_
      rintro e w1 ⟨rfl, b1⟩
      have HB1 := lhide b1
      clear b1
      go_wp2_with fail
      refine (lunhide HA _ (lunhide HB1)).mono ?_
      rintro e w2 ⟨Va, rfl, hVa, b2⟩
      have HVa := lhide hVa
      have HB2 := lhide ((lunhide HB1).trans (b2.mono (lunhide HB1).size))
      clear b2 HB1 hVa HA
      go_wp2_with fail
      refine (lunhide HB _ (lunhide HB2)).mono ?_
      rintro e w3 ⟨Vb, rfl, hVb, b3⟩
      have HVb := lhide hVb
      have HVax := lhide ((lunhide HVa).below b3)
      clear HVa
      have HVa := HVax
      clear HVax
      have HB3 := lhide ((lunhide HB2).trans (b3.mono (lunhide HB2).size))
      clear b3 HB2 hVb HB
      go_wp2_with fail
      refine (lunhide HC _ (lunhide HB3)).mono ?_
      rintro e w4 ⟨Vc, rfl, hVc, b4⟩
      have HVc := lhide hVc
      have HVax := lhide ((lunhide HVa).below b4)
      clear HVa
      have HVa := HVax
      clear HVax
      have HVbx := lhide ((lunhide HVb).below b4)
      clear HVb
      have HVb := HVbx
      clear HVbx
      have HB4 := lhide ((lunhide HB3).trans (b4.mono (lunhide HB3).size))
      clear b4 HB3 hVc HC
      go_wp2_with fail
      go_ret
      exact ⟨rfl, lunhide HB4⟩
  · rcases back_all y (by omega) w hT hS with ⟨hlu, HB⟩ | ⟨U, hlu, HB⟩
    · obtain ⟨er, TC, HC⟩ := join_some x y h5 h6 w hT hS
      clear hlx hlu hT hS
      go_enter Tryd.func4, Tryd.ntmps4
      go_wp2_with fail
      refine (lunhide HSH).mono ?_
      rintro e w1 ⟨rfl, b1⟩
      have HB1 := lhide b1
      clear b1
      go_wp2_with fail
      refine (lunhide HA _ (lunhide HB1)).mono ?_
      rintro e w2 ⟨Va, rfl, hVa, b2⟩
      have HVa := lhide hVa
      have HB2 := lhide ((lunhide HB1).trans (b2.mono (lunhide HB1).size))
      clear b2 HB1 hVa HA
      go_wp2_with fail
      refine (lunhide HB _ (lunhide HB2)).mono ?_
      rintro e w3 ⟨Vb, rfl, hVb, b3⟩
      have HVb := lhide hVb
      have HVax := lhide ((lunhide HVa).below b3)
      clear HVa
      have HVa := HVax
      clear HVax
      have HB3 := lhide ((lunhide HB2).trans (b3.mono (lunhide HB2).size))
      clear b3 HB2 hVb HB
      go_wp2_with fail
      refine (lunhide HC _ (lunhide HB3)).mono ?_
      rintro e w4 ⟨Vc, rfl, hVc, b4⟩
      have HVc := lhide hVc
      have HVax := lhide ((lunhide HVa).below b4)
      clear HVa
      have HVa := HVax
      clear HVax
      have HVbx := lhide ((lunhide HVb).below b4)
      clear HVb
      have HVb := HVbx
      clear HVbx
      have HB4 := lhide ((lunhide HB3).trans (b4.mono (lunhide HB3).size))
      clear b4 HB3 hVc HC
      go_wp2_with fail
      go_ret
      exact ⟨rfl, lunhide HB4⟩
    · obtain ⟨hl5, hl6, hcase⟩ := join_all x y h5 h6 T U hlx hlu w hT hS
      have HSP := lhide (Lx.lex_spec _ y.data.toList (Nat.le_refl _) U hlu)
      clear hlx hlu hT hS
      rcases hcase with ⟨h600, HC⟩ | ⟨h600, HC⟩
      · clear HSP
        go_enter Tryd.func4, Tryd.ntmps4
        go_wp2_with fail
        refine (lunhide HSH).mono ?_
        rintro e w1 ⟨rfl, b1⟩
        have HB1 := lhide b1
        clear b1
        go_wp2_with fail
        refine (lunhide HA _ (lunhide HB1)).mono ?_
        rintro e w2 ⟨Va, rfl, hVa, b2⟩
        have HVa := lhide hVa
        have HB2 := lhide ((lunhide HB1).trans (b2.mono (lunhide HB1).size))
        clear b2 HB1 hVa HA
        go_wp2_with fail
        refine (lunhide HB _ (lunhide HB2)).mono ?_
        rintro e w3 ⟨Vb, rfl, hVb, b3⟩
        have HVb := lhide hVb
        have HVax := lhide ((lunhide HVa).below b3)
        clear HVa
        have HVa := HVax
        clear HVax
        have HB3 := lhide ((lunhide HB2).trans (b3.mono (lunhide HB2).size))
        clear b3 HB2 hVb HB
        go_wp2_with fail
        refine (lunhide HC _ (lunhide HB3)).mono ?_
        rintro e w4 ⟨Vc, rfl, hVc, b4⟩
        have HVc := lhide hVc
        have HVax := lhide ((lunhide HVa).below b4)
        clear HVa
        have HVa := HVax
        clear HVax
        have HVbx := lhide ((lunhide HVb).below b4)
        clear HVb
        have HVb := HVbx
        clear HVbx
        have HB4 := lhide ((lunhide HB3).trans (b4.mono (lunhide HB3).size))
        clear b4 HB3 hVc HC
        obtain ⟨aa, ca, rfl⟩ := (lunhide HVa).shape
        obtain ⟨ab, cb, rfl⟩ := (lunhide HVb).shape
        obtain ⟨ac, cc, rfl⟩ := (lunhide HVc).shape
        have hadd : IntKind.i64.wrap ((T.length : Int) + (U.length : Int)) = ((T.length + U.length : Nat) : Int) := by rw [IntKind.wrap_i64]; omega
        have hyes : (600 : Int) < ((T.length + U.length : Nat) : Int) := by omega
        clear HVa HVb HVc h600 hl5 hl6
        go_wp2_with fail
        go_ret
        exact ⟨rfl, lunhide HB4⟩
      · skip
        go_enter Tryd.func4, Tryd.ntmps4
        go_wp2_with fail
        refine (lunhide HSH).mono ?_
        rintro e w1 ⟨rfl, b1⟩
        have HB1 := lhide b1
        clear b1
        go_wp2_with fail
        refine (lunhide HA _ (lunhide HB1)).mono ?_
        rintro e w2 ⟨Va, rfl, hVa, b2⟩
        have HVa := lhide hVa
        have HB2 := lhide ((lunhide HB1).trans (b2.mono (lunhide HB1).size))
        clear b2 HB1 hVa HA
        go_wp2_with fail
        refine (lunhide HB _ (lunhide HB2)).mono ?_
        rintro e w3 ⟨Vb, rfl, hVb, b3⟩
        have HVb := lhide hVb
        have HVax := lhide ((lunhide HVa).below b3)
        clear HVa
        have HVa := HVax
        clear HVax
        have HB3 := lhide ((lunhide HB2).trans (b3.mono (lunhide HB2).size))
        clear b3 HB2 hVb HB
        go_wp2_with fail
        refine (lunhide HC _ (lunhide HB3)).mono ?_
        rintro e w4 ⟨Vc, rfl, hVc, b4⟩
        have HVc := lhide hVc
        have HVax := lhide ((lunhide HVa).below b4)
        clear HVa
        have HVa := HVax
        clear HVax
        have HVbx := lhide ((lunhide HVb).below b4)
        clear HVb
        have HVb := HVbx
        clear HVbx
        have HB4 := lhide ((lunhide HB3).trans (b4.mono (lunhide HB3).size))
        clear b4 HB3 hVc HC
        obtain ⟨aa, ca, rfl⟩ := (lunhide HVa).shape
        obtain ⟨ab, cb, rfl⟩ := (lunhide HVb).shape
        obtain ⟨ac, cc, rfl⟩ := (lunhide HVc).shape
        obtain ⟨ti, hti, htz0, htz1, htz2⟩ := tk_info
        have hlen : (farther (y.size + 1) T ++ U).length = T.length + U.length := by rw [List.length_append, far_len]
        obtain ⟨n9, hn9⟩ : ∃ n, T.length + U.length = n := ⟨_, rfl⟩
        have hadd : IntKind.i64.wrap ((T.length : Int) + (U.length : Int)) = (n9 : Int) := by rw [IntKind.wrap_i64]; omega
        have hno : ¬ (600 : Int) < (n9 : Int) := by omega
        rw [hlen, hn9]
        have HB5 : Hid (Below w4.heap.size w4 (w4.alloc (.cells #[] 33))) := lhide ((Below.refl _ _).alloc (Nat.le_refl _) _)
        have HOW5 : Hid ((w4.alloc (.cells #[] 33)).ownsRow w4.heap.size 33 6 (.slice (some ⟨w4.heap.size, 0, none⟩) 0 0) 0 []) := lhide (World.ownsRow_made w4 #[] 0 (Nat.le_refl _) (by decide) rfl)
        have HVa5 := lhide ((lunhide HVa).below (lunhide HB5))
        have HBS5 := lhide (lunhide HB5).size
        clear hlen
        go_wp2_with (at_builtin; refine wpList_append_rows _ rfl (.tmp 62) (.tmp 63) 23 rfl w4.heap.size 33 ti (.agg #[.int .i64 0, .int .i64 0, .string ⟨#[]⟩, .bool false, .string ⟨#[]⟩, .int .i64 0]) 6 64 Tryd.underlying23 hti htz0 htz1 htz2 rfl (by decide) _ 0 [] rfl (lunhide HOW5) 0 T.length _ (rowC x.size T) rfl (lunhide HVa5) (one_row x.size T) (by unfold maxLen; omega) (by omega) (lunhide HBS5) ?_)
        intro v5 w6 hown6 hgr6
        have hB6 : Below w4.heap.size w4 w6 := (lunhide HB5).grown hgr6 (lunhide HBS5) (fun j hj => own_blk (lunhide HOW5) j hj)
        try simp only [Nat.zero_add, List.nil_append] at hown6
        have HOW6 := lhide hown6
        have HB6 := lhide hB6
        have HVb6 := lhide ((lunhide HVb).below hB6)
        have HBS6 := lhide hB6.size
        clear hown6 hgr6 hB6 HOW5 HBS5 HB5 HVa5
        go_wp2_with (at_builtin; refine wpList_append_rows _ rfl (.tmp 64) (.tmp 65) 23 rfl w4.heap.size 33 ti (.agg #[.int .i64 0, .int .i64 0, .string ⟨#[]⟩, .bool false, .string ⟨#[]⟩, .int .i64 0]) 6 64 Tryd.underlying23 hti htz0 htz1 htz2 rfl (by decide) _ T.length (rowC x.size T) rfl (lunhide HOW6) 0 U.length _ (rowC y.size U) rfl (lunhide HVb6) (one_row y.size U) (by unfold maxLen; omega) (by omega) (lunhide HBS6) ?_)
        intro v7 w7 hown7 hgr7
        have hB7 : Below w4.heap.size w4 w7 := (lunhide HB6).grown hgr7 (lunhide HBS6) (fun j hj => own_blk (lunhide HOW6) j hj)
        have hown7x : w7.ownsRow w4.heap.size 33 6 v7 (T.length + U.length) (rowC x.size T ++ rowC y.size U) := by rw [hn9]; exact hown7
        have HOW7 := lhide (both_in hown7x)
        have HB7 := lhide hB7
        have HVc7 := lhide ((lunhide HVc).below hB7)
        clear hown7 hown7x hgr7 hB7 HOW6 HBS6 HB6 HVb6
        go_wp2_with fail
        have hsame := same10_yes (farther (y.size + 1) T ++ U) (farther y.size T ++ farther x.size U) _ _ _ _ w7 (lunhide HVc7) (lunhide HOW7) (join_fst (y.size + 1) x.size y.size T U) (by rw [List.length_append, far_len]; omega)
        rw [List.length_append, far_len, hn9] at hsame
        refine hsame.mono ?_
        rintro e w8 ⟨rfl, b8⟩
        have HB8 := lhide ((lunhide HB7).trans (b8.mono (lunhide HB7).size))
        clear hsame b8 HB7 HOW7 HVc7
        have HVb8 := lhide ((lunhide HVb).below (lunhide HB8))
        have HVc8 := lhide ((lunhide HVc).below (lunhide HB8))
        have HBF := lhide ((lunhide HB4).trans ((lunhide HB8).mono (lunhide HB4).size))
        clear HVa HVb HVc HB4 HB8
        go_wp2_with fail
        go_loopw [12, 13] (fun I0 I wr => I0 = .bool true ∧ ∃ k : Nat, I = .int .i64 (k : Int) ∧ k ≤ U.length ∧ Below w8.heap.size w8 wr) (fun _ I _ => U.length - (intOf I).toNat)
        case atStart => exact ⟨rfl, 0, rfl, Nat.zero_le _, Below.refl _ _⟩
        case round =>
          obtain ⟨rfl, k, rfl, hk9, hBr⟩ := hrel
          by_cases hlt : k < U.length
          · obtain ⟨g, e9, -, hgl, -, b1, -⟩ := tok_at ((lunhide HVb8).below hBr) k hlt
            have hj2 : T.length + k < (farther (y.size + 1) T ++ U).length := by rw [List.length_append, far_len]; omega
            have hvc := (lunhide HVc8).below hBr
            skip
            obtain ⟨g2, e8, -, hgl2, -, d1, -⟩ := tok_at hvc (T.length + k) hj2
            rw [join_at _ T U k hlt hj2] at d1
            have hrm : (U[k]'hlt).2 ≤ y.size := by
              obtain ⟨-, p2, -, -⟩ := lunhide HSP k hlt
              rw [lsize] at p2
              exact p2
            obtain ⟨pos, hpos⟩ : ∃ p : Nat, y.size - (U[k]'hlt).2 = p := ⟨_, rfl⟩
            rw [show (y.size : Int) - ((U[k]'hlt).2 : Int) = (pos : Int) by omega] at b1
            rw [show ((x.size + 1 + y.size : Nat) : Int) - ((U[k]'hlt).2 : Int) = ((pos + x.size + 1 : Nat) : Int) by omega] at d1
            obtain ⟨z1, hz1⟩ : ∃ z, pos + x.size = z := ⟨_, rfl⟩
            obtain ⟨z2, hz2⟩ : ∃ z, z1 + 1 = z := ⟨_, rfl⟩
            obtain ⟨j, hj⟩ : ∃ z, T.length + k = z := ⟨_, rfl⟩
            rw [hz1, hz2] at d1
            rw [hj] at d1
            have hw1 : IntKind.i64.wrap ((pos : Int) + (x.size : Int)) = (z1 : Int) := by rw [IntKind.wrap_i64]; omega
            have hw2 : IntKind.i64.wrap ((z1 : Int) + 1) = (z2 : Int) := by rw [IntKind.wrap_i64]; omega
            have hw3 : IntKind.i64.wrap ((T.length : Int) + (k : Int)) = (j : Int) := by rw [IntKind.wrap_i64]; omega
            have hk1 : (k : Int) < (U.length : Int) := by omega
            have hk2 : (j : Int) < (n9 : Int) := by omega
            subst e9
            subst e8
            have HX : Hid (∀ W, Below wr.heap.size wr W → W.cell? ⟨g, k * 6 + 1, none⟩ = some (.int .i64 (pos : Int)) ∧ W.cell? ⟨g2, j * 6 + 1, none⟩ = some (.int .i64 (z2 : Int))) := lhide (fun W hW => ⟨(hW.cell (p := ⟨g, k * 6 + 1, none⟩) hgl).trans b1, (hW.cell (p := ⟨g2, j * 6 + 1, none⟩) hgl2).trans d1⟩)
            have HBR := lhide hBr
            have HNN := lhide (And.intro hk9 hlt)
            clear hvc hj2 hrm hpos hz1 hz2 hj b1 d1 hgl hgl2 hBr hk9
            go_upto_region 17 with fail
            have hS : Below wr.heap.size wr wr.drew := (Below.refl _ _).drew
            refine wp_region_held_drew (S := (fun W => W.cell? ⟨g, k * 6 + 1, none⟩ = some (.int .i64 (pos : Int)) ∧ W.cell? ⟨g2, j * 6 + 1, none⟩ = some (.int .i64 (z2 : Int)))) (by kernel_rfl) ?hS0q4x (fun hHeld => ?restq4x0)
            case hS0q4x => first | (dsimp only; (exact lunhide HX _ hS)) | (exact lunhide HX _ hS)
            case restq4x0 =>
            refine wpAnyH_take (i := 0) (v := ?vq4x0) rfl (by kernel_rfl) (by kernel_rfl) (by kernel_rfl) (fun _ _ _ h => h) (Or.inl ⟨by rfl, ?hyq4x0⟩) (by assumption) ?restq4x1
            case hyq4x0 => ((intro w hSw; (try dsimp only at hSw); go_simp) <;> with_reducible rfl)
            case restq4x1 =>
            try simp only [Act.put, List.getElem_toArray, List.getElem_cons_zero, List.getElem_cons_succ, List.setIfInBounds_toArray, List.set_cons_zero, List.set_cons_succ]
            refine wpAnyH_take (i := 1) (v := ?vq4x1) rfl (by kernel_rfl) (by kernel_rfl) (by kernel_rfl) (fun _ _ _ h => h) (Or.inl ⟨by rfl, ?hyq4x1⟩) (by assumption) ?restq4x2
            case hyq4x1 => ((intro w hSw; (try dsimp only at hSw); go_simp) <;> with_reducible rfl)
            case restq4x2 =>
            try simp only [Act.put, List.getElem_toArray, List.getElem_cons_zero, List.getElem_cons_succ, List.setIfInBounds_toArray, List.set_cons_zero, List.set_cons_succ]
            refine wpAnyH_take (i := 2) (v := ?vq4x2) rfl (by kernel_rfl) (by kernel_rfl) (by kernel_rfl) (fun _ _ _ h => h) (Or.inl ⟨by rfl, ?hyq4x2⟩) (by assumption) ?restq4x3
            case hyq4x2 => ((intro w hSw; (try dsimp only at hSw); go_simp) <;> with_reducible rfl)
            case restq4x3 =>
            try simp only [Act.put, List.getElem_toArray, List.getElem_cons_zero, List.getElem_cons_succ, List.setIfInBounds_toArray, List.set_cons_zero, List.set_cons_succ]
            refine wpAnyH_take (i := 3) (v := ?vq4x3) rfl (by kernel_rfl) (by kernel_rfl) (by kernel_rfl) (fun _ _ _ h => h) (Or.inl ⟨by rfl, ?hyq4x3⟩) (by assumption) ?restq4x4
            case hyq4x3 => ((intro w hSw; (try dsimp only at hSw); go_simp) <;> with_reducible rfl)
            case restq4x4 =>
            try simp only [Act.put, List.getElem_toArray, List.getElem_cons_zero, List.getElem_cons_succ, List.setIfInBounds_toArray, List.set_cons_zero, List.set_cons_succ]
            refine wpAnyH_take (i := 4) (v := ?vq4x4) rfl (by kernel_rfl) (by kernel_rfl) (by kernel_rfl) (fun _ _ _ h => h) (Or.inl ⟨by rfl, ?hyq4x4⟩) (by assumption) ?restq4x5
            case hyq4x4 => ((intro w hSw; (try dsimp only at hSw); go_simp) <;> with_reducible rfl)
            case restq4x5 =>
            try simp only [Act.put, List.getElem_toArray, List.getElem_cons_zero, List.getElem_cons_succ, List.setIfInBounds_toArray, List.set_cons_zero, List.set_cons_succ]
            refine wpAnyH_take (i := 5) (v := ?vq4x5) rfl (by kernel_rfl) (by kernel_rfl) (by kernel_rfl) (fun _ _ _ h => h) (Or.inl ⟨by rfl, ?hyq4x5⟩) (by assumption) ?restq4x6
            case hyq4x5 => ((intro w hSw; (try dsimp only at hSw); go_simp) <;> with_reducible rfl)
            case restq4x6 =>
            try simp only [Act.put, List.getElem_toArray, List.getElem_cons_zero, List.getElem_cons_succ, List.setIfInBounds_toArray, List.set_cons_zero, List.set_cons_succ]
            refine wpAnyH_take (i := 6) (v := ?vq4x6) rfl (by kernel_rfl) (by kernel_rfl) (by kernel_rfl) (fun _ _ _ h => h) (Or.inl ⟨by rfl, ?hyq4x6⟩) (by assumption) ?restq4x7
            case hyq4x6 => ((intro w hSw; (try dsimp only at hSw); go_simp) <;> with_reducible rfl)
            case restq4x7 =>
            try simp only [Act.put, List.getElem_toArray, List.getElem_cons_zero, List.getElem_cons_succ, List.setIfInBounds_toArray, List.set_cons_zero, List.set_cons_succ]
            refine wpAnyH_take (i := 7) (v := ?vq4x7) rfl (by kernel_rfl) (by kernel_rfl) (by kernel_rfl) (fun _ _ _ h => h) (Or.inl ⟨by rfl, ?hyq4x7⟩) (by assumption) ?restq4x8
            case hyq4x7 => ((intro w hSw; (try dsimp only at hSw); go_simp) <;> with_reducible rfl)
            case restq4x8 =>
            try simp only [Act.put, List.getElem_toArray, List.getElem_cons_zero, List.getElem_cons_succ, List.setIfInBounds_toArray, List.set_cons_zero, List.set_cons_succ]
            refine wpAnyH_take (i := 8) (v := ?vq4x8) rfl (by kernel_rfl) (by kernel_rfl) (by kernel_rfl) (fun _ _ _ h => h) (Or.inl ⟨by rfl, ?hyq4x8⟩) (by assumption) ?restq4x9
            case hyq4x8 => ((intro w hSw; (try dsimp only at hSw); go_simp) <;> with_reducible rfl)
            case restq4x9 =>
            try simp only [Act.put, List.getElem_toArray, List.getElem_cons_zero, List.getElem_cons_succ, List.setIfInBounds_toArray, List.set_cons_zero, List.set_cons_succ]
            refine wpAnyH_take (i := 9) (v := ?vq4x9) rfl (by kernel_rfl) (by kernel_rfl) (by kernel_rfl) (fun _ _ _ h => h) (Or.inl ⟨by rfl, ?hyq4x9⟩) (by assumption) ?restq4x10
            case hyq4x9 => ((intro w hSw; (try dsimp only at hSw); go_simp) <;> with_reducible rfl)
            case restq4x10 =>
            try simp only [Act.put, List.getElem_toArray, List.getElem_cons_zero, List.getElem_cons_succ, List.setIfInBounds_toArray, List.set_cons_zero, List.set_cons_succ]
            refine wpAnyH_take (i := 10) (v := ?vq4x10) rfl (by kernel_rfl) (by kernel_rfl) (by kernel_rfl) (fun _ _ _ h => h) (Or.inl ⟨by rfl, ?hyq4x10⟩) (by assumption) ?restq4x11
            case hyq4x10 => ((intro w hSw; (try dsimp only at hSw); go_simp) <;> with_reducible rfl)
            case restq4x11 =>
            try simp only [Act.put, List.getElem_toArray, List.getElem_cons_zero, List.getElem_cons_succ, List.setIfInBounds_toArray, List.set_cons_zero, List.set_cons_succ]
            refine wpAnyH_take (i := 11) (v := ?vq4x11) rfl (by kernel_rfl) (by kernel_rfl) (by kernel_rfl) (fun _ _ _ h => h) (Or.inl ⟨by rfl, ?hyq4x11⟩) (by assumption) ?restq4x12
            case hyq4x11 => ((intro w hSw; (try dsimp only at hSw); go_simp) <;> with_reducible rfl)
            case restq4x12 =>
            try simp only [Act.put, List.getElem_toArray, List.getElem_cons_zero, List.getElem_cons_succ, List.setIfInBounds_toArray, List.set_cons_zero, List.set_cons_succ]
            refine wpAnyH_take (i := 12) (v := ?vq4x12) rfl (by kernel_rfl) (by kernel_rfl) (by kernel_rfl) (fun _ _ _ h => h) (Or.inl ⟨by rfl, ?hyq4x12⟩) (by assumption) ?restq4x13
            case hyq4x12 => ((intro w hSw; (try dsimp only at hSw); go_simp) <;> with_reducible rfl)
            case restq4x13 =>
            try simp only [Act.put, List.getElem_toArray, List.getElem_cons_zero, List.getElem_cons_succ, List.setIfInBounds_toArray, List.set_cons_zero, List.set_cons_succ]
            refine wpAnyH_take (i := 13) (v := ?vq4x13) rfl (by kernel_rfl) (by kernel_rfl) (by kernel_rfl) (fun _ _ _ h => h) (Or.inl ⟨by rfl, ?hyq4x13⟩) (by assumption) ?restq4x14
            case hyq4x13 => ((intro w hSw; (try dsimp only at hSw); go_simp) <;> with_reducible rfl)
            case restq4x14 =>
            try simp only [Act.put, List.getElem_toArray, List.getElem_cons_zero, List.getElem_cons_succ, List.setIfInBounds_toArray, List.set_cons_zero, List.set_cons_succ]
            refine wpAnyH_take (i := 14) (v := ?vq4x14) rfl (by kernel_rfl) (by kernel_rfl) (by kernel_rfl) (fun _ _ _ h => h) (Or.inl ⟨by rfl, ?hyq4x14⟩) (by assumption) ?restq4x15
            case hyq4x14 => ((intro w hSw; (try dsimp only at hSw); go_simp) <;> with_reducible rfl)
            case restq4x15 =>
            try simp only [Act.put, List.getElem_toArray, List.getElem_cons_zero, List.getElem_cons_succ, List.setIfInBounds_toArray, List.set_cons_zero, List.set_cons_succ]
            refine wpAnyH_take (i := 15) (v := ?vq4x15) rfl (by kernel_rfl) (by kernel_rfl) (by kernel_rfl) (fun _ _ _ h => h) (Or.inl ⟨by rfl, ?hyq4x15⟩) (by assumption) ?restq4x16
            case hyq4x15 => ((intro w hSw; (try dsimp only at hSw); go_simp) <;> with_reducible rfl)
            case restq4x16 =>
            try simp only [Act.put, List.getElem_toArray, List.getElem_cons_zero, List.getElem_cons_succ, List.setIfInBounds_toArray, List.set_cons_zero, List.set_cons_succ]
            refine wpAnyH_take (i := 16) (v := ?vq4x16) rfl (by kernel_rfl) (by kernel_rfl) (by kernel_rfl) (fun _ _ _ h => h) (Or.inl ⟨by rfl, ?hyq4x16⟩) (by assumption) ?restq4x17
            case hyq4x16 => ((intro w hSw; (try dsimp only at hSw); go_simp) <;> with_reducible rfl)
            case restq4x17 =>
            try simp only [Act.put, List.getElem_toArray, List.getElem_cons_zero, List.getElem_cons_succ, List.setIfInBounds_toArray, List.set_cons_zero, List.set_cons_succ]
            refine wpAnyH_take (i := 17) (v := ?vq4x17) rfl (by kernel_rfl) (by kernel_rfl) (by kernel_rfl) (fun _ _ _ h => h) (Or.inl ⟨by rfl, ?hyq4x17⟩) (by assumption) ?restq4x18
            case hyq4x17 => ((intro w hSw; (try dsimp only at hSw); go_simp) <;> with_reducible rfl)
            case restq4x18 =>
            try simp only [Act.put, List.getElem_toArray, List.getElem_cons_zero, List.getElem_cons_succ, List.setIfInBounds_toArray, List.set_cons_zero, List.set_cons_succ]
            refine wpAnyH_take (i := 18) (v := ?vq4x18) rfl (by kernel_rfl) (by kernel_rfl) (by kernel_rfl) (fun _ _ _ h => h) (Or.inl ⟨by rfl, ?hyq4x18⟩) (by assumption) ?restq4x19
            case hyq4x18 => ((intro w hSw; (try dsimp only at hSw); go_simp) <;> with_reducible rfl)
            case restq4x19 =>
            try simp only [Act.put, List.getElem_toArray, List.getElem_cons_zero, List.getElem_cons_succ, List.setIfInBounds_toArray, List.set_cons_zero, List.set_cons_succ]
            refine wpAnyH_take (i := 19) (v := ?vq4x19) rfl (by kernel_rfl) (by kernel_rfl) (by kernel_rfl) (fun _ _ _ h => h) (Or.inl ⟨by rfl, ?hyq4x19⟩) (by assumption) ?restq4x20
            case hyq4x19 => ((intro w hSw; (try dsimp only at hSw); go_simp) <;> with_reducible rfl)
            case restq4x20 =>
            try simp only [Act.put, List.getElem_toArray, List.getElem_cons_zero, List.getElem_cons_succ, List.setIfInBounds_toArray, List.set_cons_zero, List.set_cons_succ]
            refine wpAnyH_take (i := 20) (v := ?vq4x20) rfl (by kernel_rfl) (by kernel_rfl) (by kernel_rfl) (fun _ _ _ h => h) (Or.inl ⟨by rfl, ?hyq4x20⟩) (by assumption) ?restq4x21
            case hyq4x20 => ((intro w hSw; (try dsimp only at hSw); go_simp) <;> with_reducible rfl)
            case restq4x21 =>
            try simp only [Act.put, List.getElem_toArray, List.getElem_cons_zero, List.getElem_cons_succ, List.setIfInBounds_toArray, List.set_cons_zero, List.set_cons_succ]
            refine wpAnyH_take (i := 21) (v := ?vq4x21) rfl (by kernel_rfl) (by kernel_rfl) (by kernel_rfl) (fun _ _ _ h => h) (Or.inl ⟨by rfl, ?hyq4x21⟩) (by assumption) ?restq4x22
            case hyq4x21 => ((intro w hSw; (try dsimp only at hSw); go_simp) <;> with_reducible rfl)
            case restq4x22 =>
            try simp only [Act.put, List.getElem_toArray, List.getElem_cons_zero, List.getElem_cons_succ, List.setIfInBounds_toArray, List.set_cons_zero, List.set_cons_succ]
            refine wpAnyH_done (by kernel_rfl) ?_ _
            have HBS : Hid (Below w8.heap.size w8 wr.drew) := lhide ((lunhide HBR).trans (hS.mono (lunhide HBR).size))
            clear hS HBR HX
            go_wp2_with fail
            go_roundw
            case rel => exact ⟨rfl, k + 1, by go_num, (lunhide HNN).2, lunhide HBS⟩
            case measure => have := (lunhide HNN).2; simp [intOf]; omega
          · have hki : ¬ (k : Int) < (U.length : Int) := by omega
            have HBE := lhide ((lunhide HBF).trans (hBr.mono (lunhide HBF).size))
            clear hBr
            go_wp2_with fail
            go_ret
            exact ⟨rfl, lunhide HBE⟩
theorem joins10 (s t : ByteArray) (w : World) (hs0 : s.size ≤ maxLen) (ht0 : t.size ≤ maxLen) (hT : Tabs w) (hS : Sg w) :
    Calls Tryd.prog 4 #[.string s, .string t] w fun e w' => e = .returned (.bool true) ∧ Below w.heap.size w w' := by
  by_cases h1 : 500 < s.size
  · by_cases h2 : 500 < t.size
    · exact joins10_3 s t w hs0 ht0 hT hS h1 h2
    · exact joins10_1 s t w hs0 ht0 hT hS h1 (by omega)
  · by_cases h2 : 500 < t.size
    · exact joins10_2 s t w hs0 ht0 hT hS (by omega) h2
    · exact joins10_0 s t w hs0 ht0 hT hS (by omega) (by omega)
end Go.Proofs.YtppkknmgdahniabDoor.Lex
