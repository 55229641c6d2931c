/- What is proved here: PathBack, walked: for every row of steps and every text that come in the law returns true and leaves them; conditions: the tables and the two errors lie, the row lies. -/
import Derived.Test.YtomhgafpjpnmdaaGreatDoorSc
import Derived.Test.YtomhgafpjpnmdaaGreatDoorPs
import Derived.Deep.RegionHeld3
namespace Go.Proofs.YtomhgafpjpnmdaaGreatDoor
open Go.RowKit
set_option linter.unusedVariables false
set_option linter.unusedSimpArgs false

theorem cut300 (s : ByteArray) : ∃ q : ByteArray, (if 300 < s.size then s.extract 0 300 else s) = q ∧ q.size ≤ 300 := by
  refine ⟨_, rfl, ?_⟩
  split
  · rw [ByteArray.size_extract]; omega
  · omega

set_option maxRecDepth 100000 in
set_option maxHeartbeats 8000000 in
theorem back_walk (aa : Option Addr) (n1 c1 : Nat) (L0 : List Pm.St) (s : ByteArray) (w : World) (hn1 : n1 ≤ 9223372036854775807) (hs : s.size ≤ 9223372036854775807) (hL : StepsIn w aa n1 L0) (hT : Tabs w) (hP : Pow w) (hE : Errs w) :
    Calls Tryz.prog 4 #[.slice aa n1 c1, .string s] w fun e w' => e = .returned (.bool true) ∧ Below w.heap.size w w' := by
  have C3 := fun W h => pfew_any aa n1 c1 L0 hn1 W h
  obtain ⟨l, hl⟩ : ∃ l, fewL L0 = l := ⟨_, rfl⟩
  obtain ⟨k, hk⟩ : ∃ k, l.length = k := ⟨_, rfl⟩
  have hk12 : k ≤ 12 := by rw [← hk, ← hl, fewL_len]; omega
  rw [hl, hk] at C3
  have HK := phide hk
  clear hl hk
  go_enter Tryz.func4, Tryz.ntmps4
  go_wp2_with fail
  refine (pshown_any _ hT hP).mono ?_
  rintro e w1 ⟨rfl, hB⟩
  go_wp2_with fail
  refine (C3 _ (hL.step hB)).mono ?_
  rintro e w4 ⟨b9, g3, cap3, rfl, _, hcap3, hl⟩
  replace hB := hB.trans (b9.mono hB.size)
  clear b9 C3 hL
  have hT4 := tabs_step hT hB
  have hP4 := hP.next hB
  have hE4 := Errs.next hE hB
  clear hT hP hE
  obtain ⟨m, hm, hm3⟩ := cut300 s
  have HM := phide hm
  clear hm
  go_upto_if 16 with fail
  go_cut [1] from 17 to 18 (fun v wx => v = .string m ∧ wx = w4)
  case first =>
    clear hT4 hP4 hE4 hB hl
    by_cases h3 : 300 < s.size
    · have d1 : decide ((300 : Int) < (s.size : Int)) = true := decide_eq_true (by omega)
      have hm := punhide HM
      rw [if_pos h3] at hm
      go_wp2_with fail
      go_meet
      exact ⟨by rw [← hm], rfl⟩
    · have d1 : decide ((300 : Int) < (s.size : Int)) = false := decide_eq_false (by omega)
      have hm := punhide HM
      rw [if_neg h3] at hm
      subst hm
      go_wp2_with fail
      go_meet
      exact ⟨rfl, rfl⟩
  case rest =>
  obtain ⟨rfl, rfl⟩ := hcut
  obtain ⟨e0, he0⟩ : ∃ e0, mayE l = e0 := ⟨_, rfl⟩
  have CM := fun W hT hs => may_any (some ⟨g3, 0, none⟩) k cap3 l e0 he0 (by omega) W hT hs
  have HE0 := phide he0
  clear he0
  go_wp2_with fail
  refine (CM _ hT4 ⟨punhide HK, .inr ⟨g3, 0, rfl, hl⟩⟩).mono ?_
  rintro e w5 ⟨rfl, b9⟩
  replace hB := hB.trans (b9.mono hB.size)
  replace hl := hl.step b9
  replace hT4 := tabs_step hT4 b9
  replace hP4 := hP4.next b9
  replace hE4 := hE4.next b9
  clear b9 CM
  go_upto_if 21 with fail
  go_cut [] from 22 to 37 (fun wx => Below w5.heap.size w5 wx)
  case first =>
    by_cases h0 : e0 = 0
    · subst h0
      obtain ⟨h8, hmay⟩ := mayE_len (punhide HE0)
      obtain ⟨u, hu⟩ : ∃ u : ByteArray, ptL l = u.data.toList := ⟨⟨(ptL l).toArray⟩, rfl⟩
      have hus : u.size ≤ 4001 := by
        have h := ptL_len l hmay l.length
        rw [List.take_length, hu, size_of] at h
        have := Nat.mul_le_mul_right 400 h8
        omega
      obtain ⟨ok, M, hM⟩ := parse_ex u hus
      obtain ⟨h1, h2, CP⟩ := hM
      obtain ⟨rfl, rfl⟩ := h2 l h8 hmay hu
      have C1 := fun W hs hP => print_any (some ⟨g3, 0, none⟩) k cap3 M hmay (by omega) u hu W hs hP
      have HKs : k = M.length := (punhide HK).symm
      subst HKs
      clear h1 h2 hmay h8 HE0 hu HM
      go_wp2_with fail
      refine (C1 _ ⟨rfl, .inr ⟨g3, 0, rfl, hl⟩⟩ hP4).mono ?_
      rintro e w6 ⟨rfl, b6⟩
      go_wp2_with fail
      refine (CP _ (tabs_step hT4 b6) (hP4.next b6) (Errs.next hE4 b6)).mono ?_
      rintro e w7 ⟨b7, ⟨h, _⟩ | ⟨_, a, c, rfl, hs7⟩⟩
      · cases h
      replace b6 := b6.trans (b7.mono b6.size)
      clear b7 C1 CP
      have hl7 := hl.step b6
      have CS : Calls Tryz.prog 17 #[.slice a M.length c, .slice (some ⟨g3, 0, none⟩) M.length cap3] w7 fun e w' => e = .returned (.bool true) ∧ Below w7.heap.size w7 w' := by
        obtain ⟨_, h0 | ⟨b, o, rfl, hr⟩⟩ := hs7
        · rw [h0]; exact same_nil _ _ _ _ _
        · exact same_any b o c g3 0 cap3 _ _ M M rfl rfl (by omega) (by omega) true (decide_eq_true rfl) w7 hr hl7
      clear hT4 hP4 hE4 hl hl7 hs7
      go_wp2_with fail
      refine CS.mono ?_
      rintro e w8 ⟨rfl, b8⟩
      replace b6 := b6.trans (b8.mono b6.size)
      clear CS b8
      go_wp2_with fail
      go_meet
      exact b6
    · have d1 : (e0 == 0) = false := by simp [h0]
      clear hT4 hP4 hE4 hl HE0
      go_wp2_with fail
      go_meet
      exact Below.refl _ _
  case rest =>
  replace hB := hB.trans (hcut.mono hB.size)
  replace hT4 := tabs_step hT4 hcut
  replace hP4 := hP4.next hcut
  replace hE4 := hE4.next hcut
  clear hcut hl HE0 HM HK
  obtain ⟨ok, M, h1, _, CP⟩ := parse_ex m (by omega)
  cases ok with
  | false =>
    clear h1
    go_wp2_with fail
    refine (CP _ hT4 hP4 hE4).mono ?_
    rintro e w7 ⟨b7, ⟨_, rfl | rfl⟩ | ⟨h, _⟩⟩
    · replace hB := hB.trans (b7.mono hB.size)
      clear b7 CP hT4 hP4 hE4
      go_wp2_with fail
      go_ret
      exact ⟨rfl, hB⟩
    · replace hB := hB.trans (b7.mono hB.size)
      clear b7 CP hT4 hP4 hE4
      go_wp2_with fail
      go_ret
      exact ⟨rfl, hB⟩
    · cases h
  | true =>
    obtain ⟨h8, hm, hu⟩ := h1 rfl
    have h0 : mayE M = 0 := by
      unfold mayE
      rw [if_neg (by omega), if_pos (by rw [List.all_eq_true]; exact hm)]
    have CM := fun a c W hT hs => may_any a M.length c M 0 h0 (by omega) W hT hs
    have C1 := fun a c W hs hP => print_any a M.length c M hm (by omega) m hu W hs hP
    clear h1 hm hu h0 
    go_wp2_with fail
    refine (CP _ hT4 hP4 hE4).mono ?_
    rintro e w7 ⟨b7, ⟨h, _⟩ | ⟨_, a, c, rfl, hs7⟩⟩
    · cases h
    replace hB := hB.trans (b7.mono hB.size)
    replace hT4 := tabs_step hT4 b7
    replace hP4 := hP4.next b7
    clear b7 CP hE4
    go_wp2_with fail
    refine (CM _ _ _ hT4 hs7).mono ?_
    rintro e w8 ⟨rfl, b8⟩
    replace hB := hB.trans (b8.mono hB.size)
    replace hs7 := hs7.step b8
    replace hP4 := hP4.next b8
    clear b8 CM hT4
    go_wp2_with fail
    refine (C1 _ _ _ hs7 hP4).mono ?_
    rintro e w9 ⟨rfl, b8⟩
    replace hB := hB.trans (b8.mono hB.size)
    clear b8 C1 hP4 hs7
    go_wp2_with fail
    go_ret
    exact ⟨by simp, hB⟩
end Go.Proofs.YtomhgafpjpnmdaaGreatDoor
