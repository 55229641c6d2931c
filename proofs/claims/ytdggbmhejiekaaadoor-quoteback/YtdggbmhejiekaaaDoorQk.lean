/- What is proved here: what the law QuoteBare does with any text, walked; condition: the two tables of unicode/utf8 lie in the world. -/
import Derived.Test.YtdggbmhejiekaaaDoorQj
namespace Go.Proofs.YtdggbmhejiekaaaDoor
open Go.RowKit
set_option linter.unusedVariables false
set_option linter.unusedSimpArgs false

theorem bare_is (c : UInt8) : Qm.bare c = true ↔ 32 ≤ c.toNat ∧ c.toNat ≠ 34 ∧ c.toNat ≠ 92 ∧ c.toNat ≠ 127 := by
  unfold Qm.bare
  simp [and_assoc]
theorem bare_no (c : UInt8) (h : ¬ (32 ≤ c.toNat ∧ c.toNat ≠ 34 ∧ c.toNat ≠ 92 ∧ c.toNat ≠ 127)) : Qm.bare c = false := by
  cases hb : Qm.bare c with
  | false => rfl
  | true => exact absurd ((bare_is c).1 hb) h
theorem list_at (s : ByteArray) (k : Nat) (h : k < s.size) (h2 : k < s.data.toList.length) : s.data.toList[k]'h2 = s[k]'h := by
  show _ = s.data[k]'h
  rw [Array.getElem_toList]

set_option maxHeartbeats 4000000 in
set_option maxRecDepth 1000000 in
theorem bare_walk (s0 : ByteArray) (w : World) (hs : s0.size ≤ maxLen) (hT : Tabs w) :
    Calls Tryd.prog 8 #[.string s0] w fun e w' => e = .returned (.bool true) ∧ Below w.heap.size w w' := by
  obtain ⟨x, hx, hcx⟩ := few_case 500 500 rfl s0
  obtain ⟨v, hv⟩ : ∃ v, Lib.validD x.data.toList = v := ⟨_, rfl⟩
  have CV : ∀ W, Tabs W → Calls Tryd.prog 14 #[.string x] W fun e w' => e = .returned (.bool v) ∧ Below W.heap.size W w' := fun W h => valid_c x v W (by omega) hv h
  cases v with
  | false =>
    clear hs hx hv
    rcases hcx with ⟨h1, h2, h3⟩ | ⟨h1, g2⟩
    all_goals (try subst g2)
    all_goals
      go_enter Tryd.func8, Tryd.ntmps8
      go_wp2_with fail
      refine (shown_any _ hT).mono ?_
      rintro e W1 ⟨rfl, hB⟩
      go_wp2_with fail
      refine (CV _ (Tabs.step hT hB)).mono ?_
      rintro e W2 ⟨rfl, b2⟩
      replace hB := below_step hB b2; clear b2
      go_wp2
      go_ret
      exact ⟨rfl, hB⟩
  | true =>
    obtain ⟨q, hq⟩ := mk_text (Qm.quoteL x.data.toList)
    obtain ⟨z1, hz1⟩ : ∃ z1, (⟨#[34]⟩ : ByteArray) ++ x = z1 := ⟨_, rfl⟩
    obtain ⟨z, hz⟩ : ∃ z, z1 ++ (⟨#[34]⟩ : ByteArray) = z := ⟨_, rfl⟩
    obtain ⟨l1, l2, l3⟩ := Qm.quote_len _ hv
    have hqb := Qm.quote_bytes _ hv
    rw [hq, ← Lib.size_eq, ← Lib.size_eq] at l1
    rw [hq, ← Lib.size_eq, ← Lib.size_eq] at l2
    rw [hq] at l3 hqb
    have hzl : z.data.toList = 34 :: (x.data.toList ++ [34]) := by rw [← hz, app_list, ← hz1, app_list]; rfl
    obtain ⟨P, hP⟩ : ∃ P, x.data.toList.all Qm.bare = P := ⟨_, rfl⟩
    have hPz : (q.toList == z.toList) = P := by
      rw [Lib.toList_data, Lib.toList_data]
      rw [hP, ← hzl] at l3
      cases P with
      | true => exact beq_iff_eq.2 (l3.1 rfl)
      | false => exact beq_eq_false_iff_ne.2 (fun g => by have := l3.2 g; cases this)
    have CQ : ∀ W, Calls Tryd.prog 19 #[.string x] W fun e w' => e = .returned (.string q) ∧ Below W.heap.size W w' := fun W => quote_c x q W (by omega) hq
    have j1 : ¬ (9223372036854775807 < 1 + x.size) := by omega
    have j2 : ¬ (9223372036854775807 < z1.size + 1) := by rw [← hz1, ByteArray.size_append]; have : (⟨#[34]⟩ : ByteArray).size = 1 := rfl; omega
    have w1 : IntKind.i64.wrap ((x.size : Int) + 2) = (x.size : Int) + 2 := by rw [IntKind.wrap_i64]; omega
    have w2 : IntKind.i64.wrap (6 * (x.size : Int)) = 6 * (x.size : Int) := by rw [IntKind.wrap_i64]; omega
    have w3 : IntKind.i64.wrap (6 * (x.size : Int) + 2) = 6 * (x.size : Int) + 2 := by rw [IntKind.wrap_i64]; omega
    have d1 : decide ((x.size : Int) + 2 ≤ (q.size : Int)) = true := decide_eq_true (by omega)
    have d2 : decide ((q.size : Int) ≤ 6 * (x.size : Int) + 2) = true := decide_eq_true (by omega)
    have hx9 : x.size ≤ 1000000 := by omega
    have hq9 : q.size ≤ 1000000000 := by omega
    have HX := hide hx9
    have HQ := hide hq9
    have HQB := hide hqb
    clear hs hx hv hq l1 l2 l3 hzl hx9 hq9 hqb
    rcases hcx with ⟨h1, h2, h3⟩ | ⟨h1, g2⟩
    all_goals (try subst g2)
    all_goals
      go_enter Tryd.func8, Tryd.ntmps8
      go_wp2_with fail
      refine (shown_any _ hT).mono ?_
      rintro e W1 ⟨rfl, hB⟩
      go_wp2_with fail
      refine (CV _ (Tabs.step hT hB)).mono ?_
      rintro e W2 ⟨rfl, b2⟩
      replace hB := below_step hB b2; clear b2
      go_wp2_with fail
      refine (CQ _).mono ?_
      rintro e W3 ⟨rfl, b2⟩
      replace hB := below_step hB b2; clear b2
      go_wp2
      go_loop [5, 6] (fun pl i => ∃ k : Nat, i = .int .i64 (k : Int) ∧ k ≤ x.size ∧ pl = .bool ((x.data.toList.take k).all Qm.bare)) (fun _ i => x.size - (intOf i).toNat)
      case atStart => exact ⟨0, rfl, by omega, rfl⟩
      case round =>
        obtain ⟨k, rfl, hk, rfl⟩ := hrel
        by_cases hlt : k < x.size
        · have hlt2 : k < x.data.toList.length := by rw [← Lib.size_eq]; exact hlt
          have hat := Qm.all_take x.data.toList k hlt2
          rw [list_at x k hlt hlt2] at hat
          have wk : IntKind.i64.wrap ((k : Int) + 1) = ((k + 1 : Nat) : Int) := by have := unhide HX; rw [IntKind.wrap_i64]; omega
          obtain ⟨pl, hpl⟩ : ∃ pl, (x.data.toList.take k).all Qm.bare = pl := ⟨_, rfl⟩
          rw [hpl] at hat ⊢
          clear hpl hlt2 hk
          cases pl with
          | false =>
            rw [Bool.false_and] at hat
            go_wp2
            go_round
            case rel => exact ⟨k + 1, rfl, hlt, by rw [hat]⟩
            case measure => simp [intOf]; omega
          | true =>
            by_cases g32 : 32 ≤ (x[k]'hlt).toNat
            · by_cases g34 : (x[k]'hlt).toNat = 34
              · have vv : Qm.bare (x[k]'hlt) = false := bare_no _ (by omega)
                have e1 : ((x[k]'hlt).toNat : Int) = 34 := by omega
                clear g32 g34
                go_wp2
                go_round
                case rel => exact ⟨k + 1, rfl, hlt, by rw [hat, Bool.true_and, vv]⟩
                case measure => simp [intOf]; omega
              by_cases g92 : (x[k]'hlt).toNat = 92
              · have vv : Qm.bare (x[k]'hlt) = false := bare_no _ (by omega)
                have e1 : ((x[k]'hlt).toNat : Int) = 92 := by omega
                clear g32 g34 g92
                go_wp2
                go_round
                case rel => exact ⟨k + 1, rfl, hlt, by rw [hat, Bool.true_and, vv]⟩
                case measure => simp [intOf]; omega
              by_cases g127 : (x[k]'hlt).toNat = 127
              · have vv : Qm.bare (x[k]'hlt) = false := bare_no _ (by omega)
                have e1 : ((x[k]'hlt).toNat : Int) = 127 := by omega
                clear g32 g34 g92 g127
                go_wp2
                go_round
                case rel => exact ⟨k + 1, rfl, hlt, by rw [hat, Bool.true_and, vv]⟩
                case measure => simp [intOf]; omega
              · have vv : Qm.bare (x[k]'hlt) = true := (bare_is _).2 ⟨g32, g34, g92, g127⟩
                have e0 : decide ((32 : Int) ≤ ((x[k]'hlt).toNat : Int)) = true := decide_eq_true (by omega)
                have e1 : ¬ ((x[k]'hlt).toNat : Int) = 34 := by omega
                have e2 : ¬ ((x[k]'hlt).toNat : Int) = 92 := by omega
                have e3 : ¬ ((x[k]'hlt).toNat : Int) = 127 := by omega
                clear g32 g34 g92 g127
                go_wp2
                go_round
                case rel => exact ⟨k + 1, rfl, hlt, by rw [hat, Bool.true_and, vv]; simp [e1, e2, e3]⟩
                case measure => simp [intOf]; omega
            · have vv : Qm.bare (x[k]'hlt) = false := bare_no _ (by omega)
              have e0 : decide ((32 : Int) ≤ ((x[k]'hlt).toNat : Int)) = false := decide_eq_false (by omega)
              clear g32
              go_wp2
              go_round
              case rel => exact ⟨k + 1, rfl, hlt, by rw [hat, Bool.true_and, vv]⟩
              case measure => simp [intOf]; omega
        · have hall := Qm.all_end x.data.toList k (by rw [← Lib.size_eq]; omega)
          rw [hP] at hall
          rw [hall]
          go_wp2
          go_loop [7] (fun i => ∃ j : Nat, i = .int .i64 (j : Int) ∧ j ≤ q.size) (fun i => q.size - (intOf i).toNat)
          case atStart => exact ⟨0, rfl, by omega⟩
          case round =>
            obtain ⟨j, rfl, hj⟩ := hrel
            by_cases hlj : j < q.size
            · have hlj2 : j < q.data.toList.length := by rw [← Lib.size_eq]; exact hlj
              have hbq := unhide HQB _ (List.getElem_mem hlj2)
              rw [list_at q j hlj hlj2] at hbq
              have wj : IntKind.i64.wrap ((j : Int) + 1) = ((j + 1 : Nat) : Int) := by have := unhide HQ; rw [IntKind.wrap_i64]; omega
              have e0 : decide (((q[j]'hlj).toNat : Int) < 32) = false := decide_eq_false (by omega)
              have e1 : ¬ ((q[j]'hlj).toNat : Int) = 127 := by omega
              clear hbq hlj2 hj hlt hk hall
              go_wp2
              go_round
              case rel => exact ⟨j + 1, rfl, hlj⟩
              case measure => simp [intOf]; omega
            · clear hlt hk hj hall
              go_wp2
              go_ret
              exact ⟨rfl, hB⟩
end Go.Proofs.YtdggbmhejiekaaaDoor
