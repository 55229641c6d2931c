/- What is proved here: what the law QuoteJoins does with any two texts, walked; condition: the two tables of unicode/utf8 lie in the world. -/
import Derived.Test.YtdggbmhejiekaaaDoorQi
namespace Go.Proofs.YtdggbmhejiekaaaDoor
open Go.RowKit
set_option linter.unusedVariables false
set_option linter.unusedSimpArgs false

theorem mk_text (l : List UInt8) : ∃ a : ByteArray, l = a.data.toList := ⟨⟨l.toArray⟩, by simp⟩
theorem app_list (a b : ByteArray) : (a ++ b).data.toList = a.data.toList ++ b.data.toList := by rw [ByteArray.data_append, Array.toList_append]
theorem ext_take (a : ByteArray) (k : Nat) : (a.extract 0 k).data.toList = a.data.toList.take k := by
  rw [Lib.extract_data, List.drop_zero, Nat.sub_zero]

theorem below_step {w W w' : World} (h : Below w.heap.size w W) (hb : Below W.heap.size W w') : Below w.heap.size w w' := h.trans (hb.mono h.size)
theorem below_drew {w W : World} (h : Below w.heap.size w W) : Below w.heap.size w W.drew := below_step h (Below.refl _ _).drew

set_option maxHeartbeats 4000000 in
set_option maxRecDepth 1000000 in
theorem joins_walk (s0 t0 : ByteArray) (w : World) (hs : s0.size ≤ maxLen) (ht : t0.size ≤ maxLen) (hT : Tabs w) :
    Calls Tryd.prog 7 #[.string s0, .string t0] w fun e w' => e = .returned (.bool true) ∧ Below w.heap.size w w' := by
  obtain ⟨x, hx, hcx⟩ := few_case 500 500 rfl s0
  obtain ⟨y, hy, hcy⟩ := few_case 500 500 rfl t0
  obtain ⟨v, hv⟩ : ∃ v, Lib.validD x.data.toList = v := ⟨_, rfl⟩
  obtain ⟨u, hu⟩ : ∃ u, Lib.validD y.data.toList = u := ⟨_, rfl⟩
  have CV : ∀ W, Tabs W → Calls Tryd.prog 14 #[.string x] W fun e w' => e = .returned (.bool v) ∧ Below W.heap.size W w' := fun W h => valid_c x v W (by omega) hv h
  have CU : ∀ W, Tabs W → Calls Tryd.prog 14 #[.string y] W fun e w' => e = .returned (.bool u) ∧ Below W.heap.size W w' := fun W h => valid_c y u W (by omega) hu h
  cases v with
  | false =>
    clear hs ht hx hy hv hu
    rcases hcx with ⟨h1, h2, h3⟩ | ⟨h1, g2⟩ <;> rcases hcy with ⟨h4, h5, h6⟩ | ⟨h4, g5⟩
    all_goals (try subst g2); (try subst g5)
    all_goals
      go_enter Tryd.func7, Tryd.ntmps7
      go_wp2_with fail
      refine (shown_any _ hT).mono ?_
      rintro e W1 ⟨rfl, hB⟩
      go_wp2_with fail
      refine (CV _ (Tabs.step hT hB)).mono ?_
      rintro e W2 ⟨rfl, b2⟩
      replace hB := below_step hB b2; clear b2
      go_wp2
      go_ret
      exact ⟨rfl, hB⟩
  | true =>
    cases u with
    | false =>
      clear hs ht hx hy hv hu
      rcases hcx with ⟨h1, h2, h3⟩ | ⟨h1, g2⟩ <;> rcases hcy with ⟨h4, h5, h6⟩ | ⟨h4, g5⟩
      all_goals (try subst g2); (try subst g5)
      all_goals
        go_enter Tryd.func7, Tryd.ntmps7
        go_wp2_with fail
        refine (shown_any _ hT).mono ?_
        rintro e W1 ⟨rfl, hB⟩
        go_wp2_with fail
        refine (CV _ (Tabs.step hT hB)).mono ?_
        rintro e W2 ⟨rfl, b2⟩
        replace hB := below_step hB b2; clear b2
        go_wp2_with fail
        refine (CU _ (Tabs.step hT hB)).mono ?_
        rintro e W2 ⟨rfl, b2⟩
        replace hB := below_step hB b2; clear b2
        go_wp2
        go_ret
        exact ⟨rfl, hB⟩
    | true =>
      obtain ⟨a, ha⟩ := mk_text (Qm.quoteL x.data.toList)
      obtain ⟨b, hb⟩ := mk_text (Qm.quoteL y.data.toList)
      obtain ⟨c, hc⟩ : ∃ c, a ++ b = c := ⟨_, rfl⟩
      obtain ⟨z, hz⟩ : ∃ z, x ++ y = z := ⟨_, rfl⟩
      obtain ⟨q, hq⟩ := mk_text (Qm.quoteL z.data.toList)
      obtain ⟨n, hn⟩ : ∃ n, a.size = n := ⟨_, rfl⟩
      obtain ⟨m, hm⟩ : ∃ m, b.size = m := ⟨_, rfl⟩
      have ln := Qm.quote_len _ hv
      have lm := Qm.quote_len _ hu
      rw [ha, ← Lib.size_eq, ← Lib.size_eq, hn] at ln
      rw [hb, ← Lib.size_eq, ← Lib.size_eq, hm] at lm
      have hcl : c.data.toList = Qm.quoteL x.data.toList ++ Qm.quoteL y.data.toList := by rw [← hc, app_list, ha, hb]
      have hzl : z.data.toList = x.data.toList ++ y.data.toList := by rw [← hz, app_list]
      have hcs : c.size = n + m := by rw [← hc, ByteArray.size_append, hn, hm]
      have hzs : z.size = x.size + y.size := by rw [← hz, ByteArray.size_append]
      obtain ⟨a1, ha1⟩ : ∃ a1, a.extract 0 (n - 1) = a1 := ⟨_, rfl⟩
      obtain ⟨b1, hb1⟩ : ∃ b1, b.extract 1 m = b1 := ⟨_, rfl⟩
      have hb2 : c.extract n c.size = b := by
        apply bytes_eq
        rw [ext_drop, hcl, ← hb, show n = (Qm.quoteL x.data.toList).length by rw [ha, ← Lib.size_eq, hn], Qm.drop_join]
      have hq2 : a1 ++ b1 = q := by
        apply bytes_eq
        rw [app_list, ← hq, hzl, Qm.quote_join _ _ hv, ← ha1, ← hb1, ext_take, ← hm, ext_drop, ← ha, ← hb]
        rw [show n = (Qm.quoteL x.data.toList).length by rw [ha, ← Lib.size_eq, hn]]
      have u1 : Qm.unquoteL c.data.toList = (x.data.toList, n, 0) := by
        rw [hcl, Qm.unquote_quote _ _ hv (by rw [← Lib.size_eq]; omega), show n = (Qm.quoteL x.data.toList).length by rw [ha, ← Lib.size_eq, hn]]
      have u2 : Qm.unquoteL b.data.toList = (y.data.toList, m, 0) := by
        have := Qm.unquote_quote y.data.toList [] hu (by rw [← Lib.size_eq]; omega)
        rw [List.append_nil, hb, ← Lib.size_eq, hm] at this
        exact this
      obtain ⟨p, hp⟩ : ∃ p, (Qm.pc x.data.toList).length = p := ⟨_, rfl⟩
      obtain ⟨r, hr⟩ : ∃ r, (Qm.pc y.data.toList).length = r := ⟨_, rfl⟩
      have hpr : (Qm.pc z.data.toList).length = p + r := by rw [hzl, Qm.pc_join2 _ _ hv, hp, hr]
      have lp := (Qm.pc_le x.data.toList).1
      have lr := (Qm.pc_le y.data.toList).1
      rw [hp, ← Lib.size_eq] at lp
      rw [hr, ← Lib.size_eq] at lr
      have CA : ∀ W, Calls Tryd.prog 19 #[.string x] W fun e w' => e = .returned (.string a) ∧ Below W.heap.size W w' := fun W => quote_c x a W (by omega) ha
      have CB : ∀ W, Calls Tryd.prog 19 #[.string y] W fun e w' => e = .returned (.string b) ∧ Below W.heap.size W w' := fun W => quote_c y b W (by omega) hb
      have CQ : ∀ W, Calls Tryd.prog 19 #[.string z] W fun e w' => e = .returned (.string q) ∧ Below W.heap.size W w' := fun W => quote_c z q W (by omega) hq
      have D1 : ∀ W, Tabs W → Calls Tryd.prog 10 #[.string c] W fun e w' => e = .returned (.tuple #[.string x, .int .i64 (n : Int), .int .i64 0]) ∧ Below W.heap.size W w' := fun W h => unquote_c c x n 0 W (by omega) u1 h
      have D2 : ∀ W, Tabs W → Calls Tryd.prog 10 #[.string b] W fun e w' => e = .returned (.tuple #[.string y, .int .i64 (m : Int), .int .i64 0]) ∧ Below W.heap.size W w' := fun W h => unquote_c b y m 0 W (by omega) u2 h
      have R1 : ∀ W, Calls Tryd.prog 15 #[.string x] W fun e w' => e = .returned (.int .i64 (p : Int)) ∧ Below W.heap.size W w' := fun W => runes_c x p W (by omega) hp
      have R2 : ∀ W, Calls Tryd.prog 15 #[.string y] W fun e w' => e = .returned (.int .i64 (r : Int)) ∧ Below W.heap.size W w' := fun W => runes_c y r W (by omega) hr
      have R3 : ∀ W, Calls Tryd.prog 15 #[.string z] W fun e w' => e = .returned (.int .i64 ((p + r : Nat) : Int)) ∧ Below W.heap.size W w' := fun W => runes_c z _ W (by omega) hpr
      have j1 : ¬ (9223372036854775807 < n + m) := by omega
      have j2 : ¬ (9223372036854775807 < x.size + y.size) := by omega
      have j3 : ¬ (9223372036854775807 < a1.size + b1.size) := by rw [← ha1, ← hb1, ByteArray.size_extract, ByteArray.size_extract]; omega
      have w1 : IntKind.i64.wrap ((n : Int) - 1) = ((n - 1 : Nat) : Int) := by rw [IntKind.wrap_i64]; omega
      have w2 : IntKind.i64.wrap ((p : Int) + (r : Int)) = ((p + r : Nat) : Int) := by rw [IntKind.wrap_i64]; omega
      have l1 : n ≤ c.size := by omega
      have l2 : n - 1 ≤ n := by omega
      have l3 : 1 ≤ m := by omega
      have l4 : (1 : Int) ≤ (m : Int) := by omega
      clear hs ht hx hy hv hu ha hb hq ln lm hcl hzl hcs hzs u1 u2 hp hr hpr lp lr
      generalize p + r = pr at w2 R3
      generalize n - 1 = n1 at ha1 w1 l2
      rcases hcx with ⟨h1, h2, h3⟩ | ⟨h1, g2⟩ <;> rcases hcy with ⟨h4, h5, h6⟩ | ⟨h4, g5⟩
      all_goals (try subst g2); (try subst g5)
      all_goals
        go_enter Tryd.func7, Tryd.ntmps7
        go_wp2_with fail
        refine (shown_any _ hT).mono ?_
        rintro e W1 ⟨rfl, hB⟩
        go_wp2_with fail
        refine (CV _ (Tabs.step hT hB)).mono ?_
        rintro e W2 ⟨rfl, b2⟩
        replace hB := below_step hB b2; clear b2
        go_wp2_with fail
        refine (CU _ (Tabs.step hT hB)).mono ?_
        rintro e W2 ⟨rfl, b2⟩
        replace hB := below_step hB b2; clear b2
        go_wp2_with fail
        refine (CA _).mono ?_
        rintro e W2 ⟨rfl, b2⟩
        replace hB := below_step hB b2; clear b2
        go_wp2_with fail
        refine (CB _).mono ?_
        rintro e W2 ⟨rfl, b2⟩
        replace hB := below_step hB b2; clear b2
        go_wp2_with fail
        refine (D1 _ (Tabs.step hT hB)).mono ?_
        rintro e W2 ⟨rfl, b2⟩
        replace hB := below_step hB b2; clear b2
        go_wp2_with fail
        refine (D2 _ (Tabs.step hT hB)).mono ?_
        rintro e W2 ⟨rfl, b2⟩
        replace hB := below_step hB b2; clear b2
        go_wp2_with fail
        clear CV CU CA CB D1 D2
        go_region_held3 (fun w' => Below w.heap.size w w') (first | exact hB | exact below_drew hB) (first
          | (go_at_call 19; refine (CQ _).mono ?_; rintro e w' ⟨rfl, hbw⟩; replace hB := below_step (by first | exact hB | exact below_drew hB) hbw; clear hbw CQ)
          | (go_at_call 15; refine (R3 _).mono ?_; rintro e w' ⟨rfl, hbw⟩; replace hB := below_step (by first | exact hB | exact below_drew hB) hbw; clear hbw R3)
          | (go_at_call 15; refine (R1 _).mono ?_; rintro e w' ⟨rfl, hbw⟩; replace hB := below_step (by first | exact hB | exact below_drew hB) hbw; clear hbw R1)
          | (go_at_call 15; refine (R2 _).mono ?_; rintro e w' ⟨rfl, hbw⟩; replace hB := below_step (by first | exact hB | exact below_drew hB) hbw; clear hbw R2))
        all_goals
          go_wp2
          go_ret
          first | exact ⟨rfl, hB⟩ | exact ⟨rfl, below_drew hB⟩
end Go.Proofs.YtdggbmhejiekaaaDoor
