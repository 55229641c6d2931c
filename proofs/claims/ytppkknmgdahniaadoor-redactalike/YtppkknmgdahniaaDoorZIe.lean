/- What is proved here: the document's own Texts, Same and Alike of any two, walked; conditions: the values lie, with no more than a million keys and kids anywhere. -/
import Derived.Test.YtppkknmgdahniaaDoorZYe
import Derived.Test.YtppkknmgdahniaaDoorZDb
namespace Go.Proofs.YtppkknmgdahniaaDoor.Pol
set_option maxRecDepth 100000
open Go.RowKit Go.Proofs.YtppkknmgdahniaaDoor.Nc Go.Proofs.YtppkknmgdahniaaDoor.Np Go.Proofs.YtppkknmgdahniaaDoor.Nq
set_option maxRecDepth 100000
set_option linter.unusedVariables false
set_option linter.unusedSimpArgs false

set_option maxHeartbeats 1000000 in
theorem rtexts_any (ok ok' : Nat → Prop) (v v' : Value) (ks ks' : List ByteArray) (q : Bool) (hq : decide (ks = ks') = q) (w : World) (h1 : StrsIn ok w v ks) (h2 : StrsIn ok' w v' ks') (hn : ks.length ≤ 1000000) (hn' : ks'.length ≤ 1000000) :
    Calls Tryd.prog 67 #[v, v'] w fun e w' => e = .returned (.bool q) ∧ Below w.heap.size w w' := by
  obtain ⟨a, c, rfl, _, hk⟩ := h1
  obtain ⟨a', c', rfl, _, hk'⟩ := h2
  have HK := khide hk
  have HK' := khide hk'
  have HQ := phide hq
  clear hk hk' hq
  by_cases hln : ks.length = ks'.length
  · obtain ⟨n, hN⟩ : ∃ n, ks.length = n := ⟨_, rfl⟩
    have hN' : ks'.length = n := by omega
    rw [hN, hN']
    have hnb : n ≤ 1000000 := by omega
    clear hln
    go_enter Tryd.func67, Tryd.ntmps67
    go_wp2_with fail
    go_loopw [5] (fun i wr => ∃ k : Nat, i = .int .i64 (k : Int) ∧ k ≤ n ∧ ks.take k = ks'.take k ∧ Below w.heap.size w wr) (fun i _ => n - (intOf i).toNat)
    case atStart => exact ⟨0, rfl, by omega, rfl, Below.refl _ _⟩
    case round =>
      obtain ⟨k, rfl, hk9, hp, hB⟩ := hrel
      have HP := phide hp
      clear hp
      by_cases hlt : k < n
      · obtain ⟨b, o, hao, hb, hc⟩ := str_at (kunhide HK) hB k (by omega)
        obtain ⟨b', o', hao', hb', hc'⟩ := str_at (kunhide HK') hB k (by omega)
        subst hao
        subst hao'
        obtain ⟨s, hs⟩ : ∃ s, ks[k]'(by omega) = s := ⟨_, rfl⟩
        obtain ⟨s', hs'⟩ : ∃ s, ks'[k]'(by omega) = s := ⟨_, rfl⟩
        rw [hs] at hc
        rw [hs'] at hc'
        have HB := khide hB
        have hi : (k : Int) < (n : Int) := by omega
        by_cases he : s = s'
        · have HP2 := phide (show ks.take (k + 1) = ks'.take (k + 1) by
            rw [List.take_succ_eq_append_getElem (by omega), List.take_succ_eq_append_getElem (by omega), punhide HP, hs, hs', he])
          subst he
          have hsf := bne_selfB s
          clear hs hs' hB hN hN'
          go_wp2_with fail
          go_quiet (fail)
          go_wp2_with fail
          go_roundw
          case rel => exact ⟨k + 1, by go_num, hlt, punhide HP2, by first | exact kunhide HB | exact below_drewN' (kunhide HB)⟩
          case measure => simp [intOf]; omega
        · have hsf : (s.toList != s'.toList) = true := by rw [bne, txt_beq, decide_eq_false he]; rfl
          have hsg : (s.toList == s'.toList) = false := by rw [txt_beq, decide_eq_false he]
          have HF : Hid (q = false) := phide (by
            rw [← punhide HQ, decide_eq_false_iff_not]
            intro h
            exact he (by rw [← hs, ← hs']; simp only [h]))
          clear hs hs' hB hN hN' he
          go_wp2_with fail
          go_quiet (fail)
          all_goals
            go_wp2_with fail
            go_ret
            exact ⟨by rw [punhide HF]; rfl, by first | exact kunhide HB | exact below_drewN' (kunhide HB)⟩
      · have HB := khide hB
        have HF : Hid (q = true) := phide (by
          have h := punhide HP
          rw [List.take_of_length_le (by omega), List.take_of_length_le (by omega)] at h
          rw [← punhide HQ, decide_eq_true_eq]; exact h)
        have hi : ¬ (k : Int) < (n : Int) := by omega
        clear hB hN hN'
        go_wp2_with fail
        go_ret
        exact ⟨by rw [punhide HF]; rfl, kunhide HB⟩
  · have HF : Hid (q = false) := phide (by
      rw [← punhide HQ, decide_eq_false_iff_not]
      intro h
      exact hln (by rw [h]))
    have e1 : ¬ (ks.length : Int) = (ks'.length : Int) := by omega
    clear hln
    go_enter Tryd.func67, Tryd.ntmps67
    go_wp2_with fail
    go_ret
    exact ⟨by rw [punhide HF]; rfl, Below.refl _ _⟩

set_option maxHeartbeats 4000000 in
theorem rsame_any (ok ok' : Nat → Prop) : ∀ (n : Nat) (va vb : Value) (ta tb : Tr) (q : Bool) (w : World), likeB noneHid n ta tb = q → Lies ok w n va ta → Lies ok' w n vb tb → okT n ta → okT n tb →
    Calls Tryd.prog 31 #[va, vb] w fun e w' => e = .returned (.bool q) ∧ Below w.heap.size w w'
  | 0, _, _, _, _, _, _, _, h, _, _, _ => h.elim
  | n + 1, va, vb, ta, tb, q, w, hq, h1, h2, ho, ho' => by
    obtain ⟨⟨k, m, ng, dg, sc, tx, ks, cd⟩, l, ka, kc, da, dc, rfl, rfl, hm64, hkc, hdc, hks, hkid⟩ := id h1.node
    obtain ⟨⟨k', m', ng', dg', sc', tx', ks', cd'⟩, l', ka', kc', da', dc', rfl, rfl, hm64', hkc', hdc', hks', hkid'⟩ := id h2.node
    change m < 18446744073709551616 at hm64
    change m' < 18446744073709551616 at hm64'
    have hkl : ks.length ≤ 1000000 := ho.1
    have hkl' : ks'.length ≤ 1000000 := ho'.1
    have hll : l.length ≤ 1000000 := ho.2.1
    have hll' : l'.length ≤ 1000000 := ho'.2.1
    have IH := phide (fun va vb ta tb q W => rsame_any ok ok' n va vb ta tb q W)
    have HO := phide ho.2.2
    have HO' := phide ho'.2.2
    have HK := phide hkid
    have HK' := phide hkid'
    obtain ⟨bt, hbt⟩ : ∃ b, decide (ks = ks') = b := ⟨_, rfl⟩
    have HCT : Hid (∀ W, Below w.heap.size w W → Calls Tryd.prog 67 #[.slice ka ks.length kc, .slice ka' ks'.length kc'] W fun e w' => e = .returned (.bool bt) ∧ Below W.heap.size W w') := phide (fun W hW =>
      rtexts_any ok ok' _ _ ks ks' bt hbt W (StrsIn.keep ⟨ka, kc, rfl, hkc, hks⟩ (Kept.of_below hW) (fun _ _ h => h)) (StrsIn.keep ⟨ka', kc', rfl, hkc', hks'⟩ (Kept.of_below hW) (fun _ _ h => h)) hkl hkl')
    have HQ : Hid ((hdB ⟨k, m, ng, dg, sc, tx, ks, cd⟩ ⟨k', m', ng', dg', sc', tx', ks', cd'⟩ && rowsB (likeB noneHid n) l l') = q) := phide hq
    have HBT := phide hbt
    clear hq h1 h2 ho ho' hks hks' hkid hkid' hbt hkc hkc' hdc hdc'
    go_enter Tryd.func31, Tryd.ntmps31
    go_wp2_with fail
    refine (punhide HCT _ (((Below.refl _ w).alloc (Nat.le_refl _) _).alloc (by simp) _)).mono ?_
    rintro e W1 ⟨rfl, hB1⟩
    obtain ⟨b1, b2, hB⟩ := two_box w _ _ _ _ W1 hB1
    have HB1 := phide hB1
    have HB := phide hB
    clear hB1 hB
    cases bt with
    | false =>
      have HF : Hid (q = false) := phide (by
        rw [← punhide HQ]
        cases e : hdB ⟨k, m, ng, dg, sc, tx, ks, cd⟩ ⟨k', m', ng', dg', sc', tx', ks', cd'⟩
        · rfl
        · have h9 := (Hd.mk.inj (hdB_iff.1 e)).2.2.2.2.2.2.1
          rw [h9, decide_eq_true rfl] at HBT
          cases punhide HBT)
      go_wp2_with fail
      all_goals
        go_ret
        exact ⟨by rw [punhide HF]; rfl, punhide HB⟩
    | true =>
      by_cases hln : l.length = l'.length
      · obtain ⟨N, hN⟩ : ∃ n, l.length = n := ⟨_, rfl⟩
        have hN' : l'.length = N := by omega
        have HLN := phide (show l.length = l'.length by omega)
        rw [hN] at b1
        rw [hN'] at b2
        rw [hN] at hll
        clear hln
        go_wp2_with fail
        · have HQ2 : Hid (rowsB (likeB noneHid n) l l' = q) := phide (by rw [← punhide HQ, hdB_ks (by assumption) (by assumption) (by assumption) (by assumption) (by assumption) (by assumption) (by assumption), punhide HBT]; rfl)
          go_loopw [6] (fun i wr => ∃ k0 : Nat, i = .int .i64 (k0 : Int) ∧ k0 ≤ N ∧ rowsB (likeB noneHid n) (l.take k0) (l'.take k0) = true ∧ Below W1.heap.size W1 wr) (fun i _ => N - (intOf i).toNat)
          case atStart => exact ⟨0, rfl, by omega, by simp [rowsB], Below.refl _ _⟩
          case round =>
            obtain ⟨k0, rfl, hk9, hp, hBr⟩ := hrel
            clear b1 b2
            have hB1r := (punhide HB1).trans (hBr.mono (punhide HB1).size)
            obtain ⟨b1, b2, hBw⟩ := two_box w _ _ _ _ wr hB1r
            rw [hN] at b1
            rw [hN'] at b2
            by_cases hlt : k0 < N
            · obtain ⟨b, o, hd2, ka2, kn2, kc2, da2, dn2, dc2, hao, hb, ⟨c0, c1, c2, c3, c4, c5, c6, c7, c8⟩, hlies⟩ := kid_at (punhide HK) hBw k0 (by omega)
              obtain ⟨b', o', hd2', ka2', kn2', kc2', da2', dn2', dc2', hao', hb', ⟨c0', c1', c2', c3', c4', c5', c6', c7', c8'⟩, hlies'⟩ := kid_at (punhide HK') hBw k0 (by omega)
              subst hao
              subst hao'
              obtain ⟨bq, hbq⟩ : ∃ bq, likeB noneHid n (l[k0]'(by omega)) (l'[k0]'(by omega)) = bq := ⟨_, rfl⟩
              have hk1 : k0 < l.length := by omega
              have hk2 : k0 < l'.length := by omega
              have C := fun W hW => punhide IH _ _ (l[k0]'hk1) (l'[k0]'hk2) bq W hbq (Lies.below hW hlies) (Lies.below hW hlies') (punhide HO _ (List.getElem_mem hk1)) (punhide HO' _ (List.getElem_mem hk2))
              clear hk1 hk2
              have HC := phide C
              have HBR := phide hBr
              have hi : (k0 : Int) < (N : Int) := by omega
              have hr := rowsB_take (f := likeB noneHid n) l l' k0 hp (by omega) (by omega)
              rw [hbq] at hr
              have HR := phide hr
              clear C hBr hB1r hBw hlies hlies' hr hbq hp hN hN'
              cases bq with
              | true =>
                go_wp2_with fail
                go_region_with (go_at_call 31; refine (punhide HC _ ((Below.refl _ _).drew)).mono ?_; rintro e W2 ⟨rfl, hb2⟩)
                all_goals
                  have hBR2 : Below W1.heap.size W1 W2 := (punhide HBR).trans ((Below.drew (Below.refl W1.heap.size wr)).trans (hb2.mono (punhide HBR).size))
                  clear hb2 b1 b2
                  go_wp2_with fail
                  go_roundw
                  case rel => exact ⟨k0 + 1, by go_num, hlt, punhide HR, hBR2⟩
                  case measure => simp [intOf]; omega
              | false =>
                go_wp2_with fail
                go_region_with (go_at_call 31; refine (punhide HC _ ((Below.refl _ _).drew)).mono ?_; rintro e W2 ⟨rfl, hb2⟩)
                all_goals
                  have hBR2 : Below W1.heap.size W1 W2 := (punhide HBR).trans ((Below.drew (Below.refl W1.heap.size wr)).trans (hb2.mono (punhide HBR).size))
                  have HB3 := phide (below_next (punhide HB) hBR2)
                  have HF : Hid (q = false) := phide (by rw [← punhide HQ2]; exact rowsB_cut l l' (k0 + 1) (punhide HR) (punhide HLN))
                  clear hb2 b1 b2
                  go_wp2_with fail
                  go_ret
                  exact ⟨by rw [punhide HF]; rfl, punhide HB3⟩
            · have HBW := phide hBw
              have HF : Hid (q = true) := phide (by
                have h := hp
                rw [List.take_of_length_le (by omega), List.take_of_length_le (by omega)] at h
                rw [← punhide HQ2]; exact h)
              clear hBw hB1r hBr
              go_wp2_with fail
              go_ret
              exact ⟨by rw [punhide HF]; rfl, punhide HBW⟩
        all_goals
          have HF : Hid (q = false) := phide (by rw [← punhide HQ, hdB_no (by first | exact .inl (by assumption) | exact .inr (.inl (by assumption)) | exact .inr (.inr (.inl (by assumption))) | exact .inr (.inr (.inr (.inl (by assumption)))) | exact .inr (.inr (.inr (.inr (.inl (by assumption))))) | exact .inr (.inr (.inr (.inr (.inr (.inl (by assumption)))))) | exact .inr (.inr (.inr (.inr (.inr (.inr (by assumption)))))))]; rfl)
          go_ret
          exact ⟨by rw [punhide HF]; rfl, punhide HB⟩
      · have HF : Hid (q = false) := phide (by
          rw [← punhide HQ]
          cases e : rowsB (likeB noneHid n) l l'
          · rw [Bool.and_false]
          · exact absurd (rowsB_len e) hln)
        have hli : ¬ (l.length : Int) = (l'.length : Int) := by omega
        clear hln
        go_wp2_with fail
        all_goals
          go_ret
          exact ⟨by rw [punhide HF]; rfl, punhide HB⟩
end Go.Proofs.YtppkknmgdahniaaDoor.Pol
