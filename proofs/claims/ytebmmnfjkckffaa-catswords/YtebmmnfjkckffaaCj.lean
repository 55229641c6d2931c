/- What is proved here: what the document's own Mask does with a row of names that lies, walked; conditions: as each theorem states. -/
import Derived.Test.YtebmmnfjkckffaaCh
import Derived.Test.YtebmmnfjkckffaaCi
namespace Go.Proofs.Ytebmmnfjkckffaa
open Go.RowKit Go.Maps
set_option linter.unusedVariables false
set_option linter.unusedSimpArgs false

theorem plc_of {L : List Cm.Tx} {x : Cm.Tx} {i : Nat} (h : Cm.idx L x = some i) : plc L x = (i : Int) := by unfold plc; rw [h]
theorem plc_no {L : List Cm.Tx} {x : Cm.Tx} (h : Cm.idx L x = none) : plc L x = -1 := by unfold plc; rw [h]

set_option maxRecDepth 100000 in
set_option maxHeartbeats 2000000 in
theorem rmask_any (g n c : Nat) (L : List Cm.Tx) (hn : L.length = n) (hn2 : n ≤ 64) (hd : L.Nodup) (s : ByteArray) (hs : s.size ≤ 100000) (q e0 : Nat) (hq : Cm.maskF L 0 (Cm.words s.data.toList) = (q, e0)) (w : World) (hr : RowAt w g L) :
    Calls Try.prog 18 #[.slice (some ⟨g, 0, none⟩) n c, .string s] w fun e w' => e = .returned (.tuple #[.int .u64 (q : Int), .int .i64 (e0 : Int)]) ∧ Below w.heap.size w w' := by
  have C := fun W => words_any s (by omega) W
  obtain ⟨ws, hws⟩ : ∃ ws, Cm.words s.data.toList = ws := ⟨_, rfl⟩
  rw [hws] at C hq
  obtain ⟨nw, hnw⟩ : ∃ nw, ws.length = nw := ⟨_, rfl⟩
  rw [hnw] at C
  have hbig : nw ≤ 100001 := by
    have h1 : ∀ (l cur : Cm.Tx), (Cm.spl cur l).length ≤ l.length + 1 := by
      intro l
      induction l with
      | nil => intro cur; rw [Cm.spl_nil]; split <;> simp
      | cons c r ih =>
        intro cur
        by_cases e : c = 32
        · subst e
          rw [Cm.spl_blank]
          have := ih []
          split <;> simp only [List.length_cons] <;> omega
        · rw [Cm.spl_more _ _ _ e]
          have := ih (cur ++ [c])
          simp only [List.length_cons]
          omega
    have := h1 s.data.toList []
    rw [len_size] at this
    have e : Cm.spl [] s.data.toList = ws := hws
    rw [e] at this
    omega
  clear hws
  go_enter Try.func18, Try.ntmps18
  go_wp2_with fail
  refine (C _).mono ?_
  rintro e w1 ⟨hB1, g2, cap2, rfl, hg2, hr2⟩
  clear C
  go_wp2
  go_loop [6, 8] (fun mv iv => ∃ (k m : Nat), iv = .int .i64 (k : Int) ∧ mv = .int .u64 (m : Int) ∧ k ≤ nw ∧ m < 18446744073709551616 ∧ Cm.maskF L m (ws.drop k) = (q, e0)) (fun _ iv => nw - (intOf iv).toNat)
  case atStart => exact ⟨0, 0, rfl, rfl, by omega, by omega, hq⟩
  case round =>
    obtain ⟨k, m, rfl, rfl, hk, hm, hF⟩ := hrel
    by_cases hlt : k < nw
    · obtain ⟨x, hx, hx2, hx3⟩ := txt (ws[k]'(by omega))
      have hc := hr2.2 k (by omega)
      rw [hx] at hc
      rw [List.drop_eq_getElem_cons (by omega), ← hx2] at hF
      rcases bits_idx hn hn2 hd x.data.toList with ⟨hno, hi⟩ | ⟨i, hi, hmem, hval, hpl⟩
      · rw [Cm.maskF_miss _ _ hi] at hF
        have hqm : 0 = q := congrArg Prod.fst hF
        have he0 : 20 = e0 := congrArg Prod.snd hF
        subst hqm
        subst he0
        have CP := place_any g n c L hn (by omega) x (-1) (plc_no hi) w1 (hr.step hB1)
        clear hF hi hno hx hx2 hx3 hq
        go_wp2_with fail
        refine CP.mono ?_
        rintro e w2 ⟨rfl, rfl⟩
        go_wp2
        go_ret2
        exact ⟨rfl, hB1⟩
      · rw [Cm.maskF_hit _ _ hi] at hF
        have CP := place_any g n c L hn (by omega) x i (plc_of hi) w1 (hr.step hB1)
        obtain ⟨p, hp⟩ : ∃ p, 2 ^ i = p := ⟨_, rfl⟩
        have hbw := bit_wrap i
        have hi64 : i < 64 := by
          rcases Nat.lt_or_ge i 64 with gg | gg
          · exact gg
          · have := Nat.pow_le_pow_right (n := 2) (by omega) gg
            omega
        have hbn : Cm.bitN i = p := by unfold Cm.bitN; rw [if_pos hi64, hp]
        rw [hbn] at hbw
        rw [hp] at hF hpl
        have hor : bits BinOp.or IntKind.u64 (m : Int) (p : Int) = ((m ||| p : Nat) : Int) := u64_or_nat _ _ hm hpl
        have hm2 : m ||| p < 18446744073709551616 := Nat.or_lt_two_pow (n := 64) hm hpl
        generalize m ||| p = m2 at hor hm2 hF
        have HF := hide hF
        clear hF hi hx hx2 hx3 hval hp hmem hbn hi64
        go_wp2_with fail
        refine CP.mono ?_
        rintro e w2 ⟨rfl, rfl⟩
        go_wp2
        go_round
        case rel => exact ⟨k + 1, m2, by go_num, rfl, hlt, hm2, unhide HF⟩
        case measure => simp [intOf]; omega
    · rw [List.drop_eq_nil_of_le (by omega), Cm.maskF_nil] at hF
      have hqm : m = q := congrArg Prod.fst hF
      have he0 : 0 = e0 := congrArg Prod.snd hF
      subst hqm
      subst he0
      clear hF hq
      go_wp2
      go_ret2
      exact ⟨rfl, hB1⟩
end Go.Proofs.Ytebmmnfjkckffaa
