/- What is proved here: what May of package cats does with a row of texts that lies, walked; conditions: as each theorem states. -/
import Derived.Test.YtebmmnfjkckffaaCb
import Derived.Maps.RangeWalk
import Derived.Sort.KeysCollected
namespace Go.Proofs.Ytebmmnfjkckffaa
open Go.RowKit Go.Maps
set_option linter.unusedVariables false
set_option linter.unusedSimpArgs false

theorem may_small {L : List Cm.Tx} (h : ¬ 64 < L.length) : Cm.mayE L = if L.all Cm.nameB && decide L.Nodup then 0 else 20 := by unfold Cm.mayE; rw [if_neg h]

set_option maxRecDepth 100000 in
set_option maxHeartbeats 1000000 in
theorem may_any (g n c : Nat) (L : List Cm.Tx) (hn : L.length = n) (hn2 : n ≤ 1000) (hl : ∀ x ∈ L, x.length ≤ 1000) (q : Nat) (hq : Cm.mayE L = q) (w : World) (hr : RowAt w g L) :
    Calls Try.prog 13 #[.slice (some ⟨g, 0, none⟩) n c] w fun e w' => e = .returned (.int .i64 (q : Int)) ∧ Below w.heap.size w w' := by
  by_cases h64 : 64 < n
  · have hm : Cm.mayE L = 3 := by unfold Cm.mayE; rw [if_pos (by omega)]
    have hq3 := hq.symm.trans hm
    subst hq3
    clear hq hm
    go_enter Try.func13, Try.ntmps13
    go_wp2
    go_ret
    exact ⟨rfl, Below.refl _ _⟩
  · rw [may_small (by omega)] at hq
    have C := fun W (h : RowAt W g L) => bitsOf_any g n c L hn hn2 hl W h
    have HQ := hide hq
    clear hq
    go_enter Try.func13, Try.ntmps13
    go_wp2_with fail
    refine (C _ hr).mono ?_
    rintro e w1 ⟨rfl, hB, D, hown, hD⟩
    obtain ⟨z, hz⟩ : ∃ z, size D = z := ⟨_, rfl⟩
    have hzn := hD.2.2.1
    have hzd := hD.2.2.2
    rw [hz] at hzn hzd
    rw [List.take_of_length_le (by omega)] at hzd
    by_cases hd : L.Nodup
    · have hzz := hzd.2 hd
      subst hzz
      have hlm := fun ty => hown.len Try.underlying43 ty
      rw [hz] at hlm
      obtain ⟨w0, hrun, hrg0, hg0, hs0⟩ := hown.range law Try.underlying43
      have hB0 : Below w.heap.size w w0 := hB.grown hg0 hB.size (fun j hj => by cases hj)
      obtain ⟨R, hR⟩ : ∃ R, w1.heap.size = R := ⟨_, rfl⟩
      rw [hR] at hrg0 hrun
      have hwR : w.heap.size < R := by rw [← hR]; exact hown.lt
      rw [hz] at hrg0
      clear hzn hzd hB hl hr hs0 hg0 C hR
      go_wp2_with fail
      go_loopw [4] (fun _ wr => ∃ left cnt, wr.ranges Try.prog 9 (plainElem (H := Unit) Try.prog 23) w.heap.size R z D left cnt ∧ Below w.heap.size w wr ∧ ∀ x, has D (.string x) = true → left (.string x) = false → Cm.nameB x = true) (fun _ wr => wr.rangeLeft w.heap.size R)
      case atStart => exact ⟨_, _, hrg0, hB0, fun x h1 h2 => by rw [h1] at h2; cases h2⟩
      case round =>
        obtain ⟨left, cnt, hrg, hB, hno⟩ := hrel
        rcases hrg.next law 0 with ⟨h0, hl0, hrun⟩ | ⟨key, v, kl, y, w2, cnt2, hkey, hlk, hv, hat, hrun, hrg2, hlt, hgr2, hsz2, hen⟩
        · have hall : L.all Cm.nameB = true := by
            rw [List.all_eq_true]
            intro x hx
            refine hno x ?_ (hl0 _)
            rw [hD.1 x, List.take_of_length_le (by omega)]
            exact decide_eq_true hx
          have hq := unhide HQ
          rw [hall, decide_eq_true hd] at hq
          have HQ2 := hide (show (0 : Nat) = q from hq)
          clear hq hall hl0 hno hD hrg hown HQ
          go_wp2
          go_ret
          exact ⟨by rw [← unhide HQ2]; rfl, hB⟩
        · obtain ⟨x, rfl, rfl, hxl⟩ := keyOf_str Try.underlying9 hkey
          obtain ⟨cv, rfl, _, _⟩ := plainElem_int_inv Try.underlying23 hv
          obtain ⟨s, hs, hs2, hs3⟩ := txt x
          have hB2 : Below w.heap.size w w2 := hB.grown hgr2 hB.size (fun j hj => by cases hj; omega)
          have hmem : has D (.string x) = true := has_true_of_atKey hat
          cases hnm : Cm.nameB x
          · have C : ∀ W, Calls Try.prog 10 #[.string s] W fun e w' => e = .returned (.bool false) ∧ w' = W := fun W => by
              have := mayName_any s W (by unfold maxLen at hxl; omega)
              rwa [hs2, hnm] at this
            have hall : L.all Cm.nameB = false := by
              rw [List.all_eq_false]
              refine ⟨x, ?_, by rw [hnm]; simp⟩
              have := hD.1 x
              rw [hmem] at this
              exact List.mem_of_mem_take (of_decide_eq_true this.symm)
            have hq := unhide HQ
            rw [hall] at hq
            have HQ2 := hide (show (20 : Nat) = q from hq)
            rw [show encStr x = Value.string s from congrArg Value.string hs] at hrun hen
            clear hq hall hno hD hrg hown HQ hrg2 hgr2 hsz2 hat hv hkey hs hs2 hs3 hxl hnm hmem hlk
            go_wp2_with (go_at_call 10; refine (C _).mono ?_; rintro e w ⟨rfl, rfl⟩)
            go_ret
            exact ⟨by rw [← unhide HQ2]; rfl, hB2⟩
          · have C : ∀ W, Calls Try.prog 10 #[.string s] W fun e w' => e = .returned (.bool true) ∧ w' = W := fun W => by
              have := mayName_any s W (by unfold maxLen at hxl; omega)
              rwa [hs2, hnm] at this
            have hno2 : ∀ y, has D (.string y) = true → (fun z => left z && !z.sameKey (.string x)) (.string y) = false → Cm.nameB y = true := by
              intro y h1 h2
              cases hly : left (.string y)
              · exact hno y h1 hly
              · have : Lit.sameKey (.string y) (.string x) = true := by simpa [hly] using h2
                have e := WideAt.sameKey_eq this
                injection e with e
                rw [e]; exact hnm
            have hmes : w2.rangeLeft w.heap.size R < wr.rangeLeft w.heap.size R := by rw [hrg2.left_eq, hrg.left_eq]; exact hlt
            rw [show encStr x = Value.string s from congrArg Value.string hs] at hrun hen
            clear hno hrg hown hgr2 hsz2 hat hv hkey hs hs2 hs3 hxl hnm hmem hlk
            go_wp2_with (go_at_call 10; refine (C _).mono ?_; rintro e w ⟨rfl, rfl⟩)
            go_roundw
            case rel => exact ⟨_, _, hrg2, hB2, hno2⟩
            case measure => exact hmes
    · have hzlt : z < n := by
        have : z ≠ n := fun e => hd (hzd.1 e)
        omega
      have hq := unhide HQ
      rw [decide_eq_false hd, Bool.and_false] at hq
      have HQ2 := hide (show (20 : Nat) = q from hq)
      have hlm := fun ty => hown.len Try.underlying43 ty
      rw [hz] at hlm
      have d1 : decide ((z : Int) < (n : Int)) = true := decide_eq_true (by omega)
      clear hzn hzd hl hr C hq hown hD hz hd HQ
      go_wp2
      go_ret
      exact ⟨by rw [← unhide HQ2]; rfl, hB⟩
end Go.Proofs.Ytebmmnfjkckffaa
