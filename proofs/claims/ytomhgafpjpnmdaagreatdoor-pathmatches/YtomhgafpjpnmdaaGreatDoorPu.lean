/- What is proved here: PathMatches, walked: for every pattern and place that come in the law returns true and leaves them; conditions: the tables lie, the rows lie. -/
import Derived.Test.YtomhgafpjpnmdaaGreatDoorPs
import Derived.Test.YtomhgafpjpnmdaaGreatDoorPg
namespace Go.Proofs.YtomhgafpjpnmdaaGreatDoor
open Go.RowKit
set_option linter.unusedVariables false
set_option linter.unusedSimpArgs false

set_option maxRecDepth 100000 in
set_option maxHeartbeats 4000000 in
theorem matches_walk (a : Option Addr) (n c : Nat) (L : List Pm.St) (b : Option Addr) (m d : Nat) (M : List Pm.St) (w : World) (hn : n ≤ 9223372036854775807) (hm : m ≤ 9223372036854775807) (hL : StepsIn w a n L) (hM : StepsIn w b m M) (hT : Tabs w) (hP : Pow w) :
    Calls Tryz.prog 3 #[.slice a n c, .slice b m d] w fun e w' => e = .returned (.bool true) ∧ Below w.heap.size w w' := by
  obtain ⟨k, hk⟩ : ∃ k, (fewL L).length = k := ⟨_, rfl⟩
  obtain ⟨j, hj⟩ : ∃ j, (Pm.plL M).length = j := ⟨_, rfl⟩
  have hk12 : k ≤ 12 := by rw [← hk, fewL_len]; omega
  have hj12 : j ≤ 12 := by rw [← hj]; exact Pm.plL_len M
  obtain ⟨q, hq⟩ : ∃ q, mayE (fewL L) = q := ⟨_, rfl⟩
  obtain ⟨y, hy⟩ : ∃ y, Pm.mt (fewL L) (Pm.plL M) = y := ⟨_, rfl⟩
  have C1 := fun W h => pfew_any a n c L hn W h
  have C2 := fun W h => place_any b m d M hm W h
  go_enter Tryz.func3, Tryz.ntmps3
  go_wp2_with fail
  refine (pshown_any _ hT hP).mono ?_
  rintro e w1 ⟨rfl, hB⟩
  go_wp2_with fail
  refine (C1 _ (hL.step hB)).mono ?_
  rintro e w2 ⟨b2, g, cap, rfl, hg, hcap, hl⟩
  replace hB := hB.trans (b2.mono hB.size)
  rw [hk] at hcap
  rw [hk]
  clear b2 hg C1
  have HQ := phide hq
  have HK := phide hk
  clear hq hk
  go_wp2_with fail
  refine (rmay_any (some ⟨g, 0, none⟩) k cap (fewL L) q (punhide HQ) (by omega) _ ⟨punhide HK, .inr ⟨g, 0, rfl, hl⟩⟩).mono ?_
  rintro e w3 ⟨rfl, b3⟩
  replace hB := hB.trans (b3.mono hB.size)
  replace hl := hl.step b3
  clear b3
  by_cases hq0 : q = 0
  · have hcl : ∀ t ∈ fewL L, Pm.Cl t := fun t ht => mayB_cl ((mayE_len ((punhide HQ).trans hq0)).2 t ht)
    have HCL := phide hcl
    have HJ := phide hj
    have HY := phide hy
    subst hq0
    clear hcl hj hy
    go_wp2_with fail
    refine (C2 _ (hM.step hB)).mono ?_
    rintro e w4 ⟨b4, g4, cap4, rfl, hg4, hcap4, hp⟩
    replace hB := hB.trans (b4.mono hB.size)
    replace hl := hl.step b4
    rw [punhide HJ] at hcap4
    rw [punhide HJ]
    clear b4 hg4
    go_wp2_with fail
    refine (match_any g 0 cap g4 0 cap4 k j (fewL L) (Pm.plL M) (punhide HK) (punhide HJ) (by omega) (by omega) y (punhide HY) _ hl hp).mono ?_
    rintro e w5 ⟨rfl, b5⟩
    replace hB := hB.trans (b5.mono hB.size)
    replace hl := hl.step b5
    clear b5 hp
    go_wp2_with fail
    refine (C2 _ (hM.step hB)).mono ?_
    rintro e w6 ⟨b6, g6, cap6, rfl, hg6, hcap6, hp⟩
    replace hB := hB.trans (b6.mono hB.size)
    replace hl := hl.step b6
    rw [punhide HJ] at hcap6
    rw [punhide HJ]
    clear b6 hg6
    go_wp2_with fail
    refine (rmatch_any g 0 cap g6 0 cap6 k j (fewL L) (Pm.plL M) (punhide HK) (punhide HJ) (by omega) (by omega) (punhide HCL) (Pm.plL_pl M) y (punhide HY) _ hl hp).mono ?_
    rintro e w7 ⟨rfl, b7⟩
    replace hB := hB.trans (b7.mono hB.size)
    clear b7 hp hl
    go_wp2
    go_ret
    exact ⟨by cases y <;> rfl, hB⟩
  · have d1 : (q != 0) = true := by simp [hq0]
    clear hj hy
    go_wp2
    go_ret
    exact ⟨rfl, hB⟩
end Go.Proofs.YtomhgafpjpnmdaaGreatDoor
