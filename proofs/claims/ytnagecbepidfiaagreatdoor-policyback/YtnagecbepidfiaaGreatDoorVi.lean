/- What is proved here: Parse of package policy, walked; conditions: the tables and the two errors lie. -/
import Derived.Test.YtnagecbepidfiaaGreatDoorVh
namespace Go.Proofs.YtnagecbepidfiaaGreatDoor.Pol
set_option maxRecDepth 100000
open Go.RowKit Go.Proofs.YtnagecbepidfiaaGreatDoor.Nc Go.Proofs.YtnagecbepidfiaaGreatDoor.Np Go.Proofs.YtnagecbepidfiaaGreatDoor.Nq
set_option linter.unusedVariables false
set_option linter.unusedSimpArgs false

/-- What Parse answers. -/
def ParseA (s : ByteArray) (w' : World) (e : Ending) : Prop :=
  (∃ v p, e = .returned (.tuple #[v, .int .i64 0]) ∧ PolIn w' v p ∧ mayP p = 0 ∧ printT ptL p = s.data.toList ∧ ∀ p0, Ok p0 → printT ptL p0 = s.data.toList → p = p0) ∨
  (e = .returned (.tuple #[.agg #[.slice none 0 0, .slice none 0 0, .string ⟨#[]⟩, .int .i64 0, .int .i64 0], .int .i64 22]) ∧ ∀ p0, mayP p0 = 0 → printT ptL p0 ≠ s.data.toList)
set_option maxHeartbeats 4000000 in
theorem parse_any (s : ByteArray) (hs : s.size ≤ 99000) (w : World) (hT : Tabs w) (hP : Pow w) (hE : Errs w) :
    Calls Tryz.prog 11 #[.string s] w fun e w' => Below w.heap.size w w' ∧ ParseA s w' e := by
  have C := fun W hT hP hE => read_any s hs W hT hP hE
  have r0 := Five.new w (.slice none 0 0) (.slice none 0 0) (.string ⟨#[]⟩) (.int .i64 0) (.int .i64 0) 25
  have hB0 : Below w.heap.size w (w.alloc (.cells #[.slice none 0 0, .slice none 0 0, .string ⟨#[]⟩, .int .i64 0, .int .i64 0] 25)) := (Below.refl _ _).alloc (Nat.le_refl _) _
  go_enter Tryz.func11, Tryz.ntmps11
  go_wp2_with fail
  generalize w.alloc (.cells #[.slice none 0 0, .slice none 0 0, .string ⟨#[]⟩, .int .i64 0, .int .i64 0] 25) = W0 at *
  have hT0 := tabs_step hT hB0
  have hP0 := hP.next hB0
  have hE0 := Errs.next hE hB0
  generalize hrb : w.heap.size = rb at *
  have HRB := phide hrb
  clear hrb hT hP hE
  refine (C _ hT0 hP0 hE0).mono ?_
  rintro e w2 ⟨b2, v, p, rfl, hI, hc64, hcl, hm16, hpl, htk, hun⟩
  have hrs := r0.lt
  have hR2 := r0.step b2
  have hrb2 : rb < w2.heap.size := hR2.lt
  have hB2 := hB0.trans (b2.mono (Nat.le_of_lt hrs))
  replace hT0 := tabs_step hT0 b2
  replace hP0 := hP0.next b2
  clear C b2 r0 hB0 hE0
  obtain ⟨a, n, c, b, m, d, tok, rfl, htok, hC, hM⟩ := hI
  obtain ⟨Cp, Mp, Tp, fu, qu⟩ := p
  simp only at *
  have hrw : rb < W0.heap.size := hrs
  have hIF : PolF w2 W0.heap.size (.agg #[.slice a n c, .slice b m d, .string tok, .int .i64 fu, .int .i64 qu]) ⟨Cp, Mp, Tp, fu, qu⟩ := ⟨a, n, c, b, m, d, tok, rfl, htok, hC, hM⟩
  have hal : Below w2.heap.size w2 (w2.alloc (.cells #[.slice a n c, .slice b m d, .string tok, .int .i64 fu, .int .i64 qu] 25)) := (Below.refl _ _).alloc (Nat.le_refl _) _
  have hF := Five.new w2 (.slice a n c) (.slice b m d) (.string tok) (.int .i64 fu) (.int .i64 qu) 25
  have hI3 : PolIn (w2.alloc (.cells #[.slice a n c, .slice b m d, .string tok, .int .i64 fu, .int .i64 qu] 25)) (.agg #[.slice a n c, .slice b m d, .string tok, .int .i64 fu, .int .i64 qu]) ⟨Cp, Mp, Tp, fu, qu⟩ := hIF.is.step hal
  replace hIF := hIF.keep (Kp.of_below hal)
  replace hR2 := hR2.step hal
  have hrl := Nat.le_of_lt hR2.lt
  replace hB2 := hB2.trans (hal.mono (by omega))
  replace hT0 := tabs_step hT0 hal
  replace hP0 := hP0.next hal
  obtain ⟨q, hq⟩ : ∃ q, mayP ⟨Cp, Mp, Tp, fu, qu⟩ = q := ⟨_, rfl⟩
  have CM := fun W hT hI => may_any (.agg #[.slice a n c, .slice b m d, .string tok, .int .i64 fu, .int .i64 qu]) ⟨Cp, Mp, Tp, fu, qu⟩ q hq (by show Cp.length ≤ 1000; omega) hcl (by show Mp.length ≤ 1000; omega) (fun x hx => by have := hpl x hx; omega) (by show Tp.length ≤ _; omega) W hT hI
  have HUN := phide hun
  have HQ := phide hq
  have hxb : w2.heap.size ≠ rb := by omega
  clear hun hq hal hC hM hc64 hcl hm16 hpl htk htok hrs
  go_upto_region 2 with fail
  generalize w2.alloc (.cells #[.slice a n c, .slice b m d, .string tok, .int .i64 fu, .int .i64 qu] 25) = W3 at *
  generalize w2.heap.size = xb at *
  obtain ⟨hxl, x0, x1, x2, x3, x4, -⟩ := id hF
  by_cases hq0 : q = 0
  case neg =>
    have d1 : (q == 0) = false := by simp [hq0]
    have HBAD : Hid (∀ p0, mayP p0 = 0 → printT ptL p0 ≠ s.data.toList) := phide (fun p0 h0 he => by
      have := punhide HUN p0 (ok_of h0) he
      rw [← this, punhide HQ] at h0
      exact hq0 h0)
    clear HUN HQ hP0
    go_upto_region 3 with (go_at_call 15; refine (CM _ hT0 hI3).mono ?_; rintro e w4 ⟨rfl, b4⟩; have hR := hR2.step b4; have hB4 := hB2.trans (b4.mono hrl); clear b4)
    obtain ⟨-, r0, r1, r2, r3, r4, r5⟩ := id hR
    have g0 := r5 0
    have g1 := r5 1
    have g2 := r5 2
    have g3 := r5 3
    have g4 := r5 4
    have p1 := (hR.put (.slice none 0 0)).1
    have p2 := (p1.put (.slice none 0 0)).2.1
    have p3 := (p2.put (.string ⟨#[]⟩)).2.2.1
    have p4 := (p3.put (.int .i64 0)).2.2.2.1
    have p5 := (p4.put (.int .i64 0)).2.2.2.2
    have k1 := p1.c0
    have k2 := p2.c1
    have k3 := p3.c2
    have k4 := p4.c3
    have k5 := p5.c4
    have hBz := phide (((((hB4.setCell (p := ⟨rb, 0, none⟩) (Nat.le_refl _) (.slice none 0 0)).setCell (p := ⟨rb, 1, none⟩) (Nat.le_refl _) (.slice none 0 0)).setCell (p := ⟨rb, 2, none⟩) (Nat.le_refl _) (.string ⟨#[]⟩)).setCell (p := ⟨rb, 3, none⟩) (Nat.le_refl _) (.int .i64 0)).setCell (p := ⟨rb, 4, none⟩) (Nat.le_refl _) (.int .i64 0))
    clear p1 p2 p3 p4 p5 r5 hR
    go_wp2
    refine bodyPost_ret (v := .tuple #[.agg #[.slice none 0 0, .slice none 0 0, .string ⟨#[]⟩, .int .i64 0, .int .i64 0], .int .i64 22]) (by simp [results, Tryz.results11, go_sem, k1, k2, k3, k4, k5]) rfl ?_
    exact ⟨by rw [punhide HRB]; exact punhide hBz, .inr ⟨rfl, punhide HBAD⟩⟩
  case pos =>
    subst hq0
    have hok := ok_of (punhide HQ)
    obtain ⟨u, hu⟩ : ∃ u : ByteArray, printT ptL ⟨Cp, Mp, Tp, fu, qu⟩ = u.data.toList := ⟨⟨(printT ptL ⟨Cp, Mp, Tp, fu, qu⟩).toArray⟩, by simp⟩
    have CP := fun W hI hT hP => print_any (.agg #[.slice a n c, .slice b m d, .string tok, .int .i64 fu, .int .i64 qu]) ⟨Cp, Mp, Tp, fu, qu⟩ hok u hu W hI hT hP
    obtain ⟨z, hz⟩ : ∃ z, decide (u.data.toList = s.data.toList) = z := ⟨_, rfl⟩
    have z1 : (u.toList == s.toList) = z := by rw [← hz]; exact list_eq u s
    have HU := phide hu
    have HZ := phide hz
    clear hu hz hok
    cases z with
    | false =>
      have HBAD : Hid (∀ p0, mayP p0 = 0 → printT ptL p0 ≠ s.data.toList) := phide (fun p0 h0 he => by
        have := punhide HUN p0 (ok_of h0) he
        rw [← this, punhide HU] at he
        exact of_decide_eq_false (punhide HZ) he)
      clear HUN HQ HU HZ
      go_upto_region 3 with (first
        | (go_at_call 15; refine (CM _ hT0 hI3).mono ?_; rintro e w4 ⟨rfl, b4⟩; have hR4 := hR2.step b4; have hB3 := hB2.trans (b4.mono hrl); have hF4 := hF.step b4; have hI4 := hI3.step b4; have hIF4 := hIF.keep (Kp.of_below b4); have hT4 := tabs_step hT0 b4; have hP4 := hP0.next b4; obtain ⟨-, y0, y1, y2, y3, y4, -⟩ := id hF4; clear b4)
        | (go_at_call 16; refine (CP _ hI4 hT4 hP4).mono ?_; rintro e w5 ⟨rfl, b5⟩; have hR := hR4.step b5; have hB4 := hB3.trans (b5.mono (Nat.le_of_lt hR4.lt)); clear b5))
      obtain ⟨-, r0, r1, r2, r3, r4, r5⟩ := id hR
      have g0 := r5 0
      have g1 := r5 1
      have g2 := r5 2
      have g3 := r5 3
      have g4 := r5 4
      have p1 := (hR.put (.slice none 0 0)).1
      have p2 := (p1.put (.slice none 0 0)).2.1
      have p3 := (p2.put (.string ⟨#[]⟩)).2.2.1
      have p4 := (p3.put (.int .i64 0)).2.2.2.1
      have p5 := (p4.put (.int .i64 0)).2.2.2.2
      have k1 := p1.c0
      have k2 := p2.c1
      have k3 := p3.c2
      have k4 := p4.c3
      have k5 := p5.c4
      have hBz := phide (((((hB4.setCell (p := ⟨rb, 0, none⟩) (Nat.le_refl _) (.slice none 0 0)).setCell (p := ⟨rb, 1, none⟩) (Nat.le_refl _) (.slice none 0 0)).setCell (p := ⟨rb, 2, none⟩) (Nat.le_refl _) (.string ⟨#[]⟩)).setCell (p := ⟨rb, 3, none⟩) (Nat.le_refl _) (.int .i64 0)).setCell (p := ⟨rb, 4, none⟩) (Nat.le_refl _) (.int .i64 0))
      clear p1 p2 p3 p4 p5 r5 hR
      go_wp2
      refine bodyPost_ret (v := .tuple #[.agg #[.slice none 0 0, .slice none 0 0, .string ⟨#[]⟩, .int .i64 0, .int .i64 0], .int .i64 22]) (by simp [results, Tryz.results11, go_sem, k1, k2, k3, k4, k5]) rfl ?_
      exact ⟨by rw [punhide HRB]; exact punhide hBz, .inr ⟨rfl, punhide HBAD⟩⟩
    | true =>
      have HGOOD : Hid (printT ptL ⟨Cp, Mp, Tp, fu, qu⟩ = s.data.toList) := phide ((punhide HU).trans (of_decide_eq_true (punhide HZ)))
      go_upto_region 4 with (first
        | (go_at_call 15; refine (CM _ hT0 hI3).mono ?_; rintro e w4 ⟨rfl, b4⟩; have hR4 := hR2.step b4; have hB3 := hB2.trans (b4.mono hrl); have hF4 := hF.step b4; have hI4 := hI3.step b4; have hIF4 := hIF.keep (Kp.of_below b4); have hT4 := tabs_step hT0 b4; have hP4 := hP0.next b4; obtain ⟨-, y0, y1, y2, y3, y4, -⟩ := id hF4; clear b4)
        | (go_at_call 16; refine (CP _ hI4 hT4 hP4).mono ?_; rintro e w5 ⟨rfl, b5⟩; have hR := hR4.step b5; have hB4 := hB3.trans (b5.mono (Nat.le_of_lt hR4.lt)); have hF5 := hF4.step b5; have hIF5 := hIF4.keep (Kp.of_below b5); clear b5))
      obtain ⟨-, z0, z2, z3, z4, z5, -⟩ := id hF5
      have hIz : Hid (PolIn (((((w5.setCell ⟨rb, 0, none⟩ (.slice a n c)).setCell ⟨rb, 1, none⟩ (.slice b m d)).setCell ⟨rb, 2, none⟩ (.string tok)).setCell ⟨rb, 3, none⟩ (.int .i64 fu)).setCell ⟨rb, 4, none⟩ (.int .i64 qu)) (.agg #[.slice a n c, .slice b m d, .string tok, .int .i64 fu, .int .i64 qu]) ⟨Cp, Mp, Tp, fu, qu⟩) := phide (PolF.is (((((hIF5.keep (Kp.of_set ⟨rb, 0, none⟩ _ hrw)).keep (Kp.of_set ⟨rb, 1, none⟩ _ hrw)).keep (Kp.of_set ⟨rb, 2, none⟩ _ hrw)).keep (Kp.of_set ⟨rb, 3, none⟩ _ hrw)).keep (Kp.of_set ⟨rb, 4, none⟩ _ hrw)))
      clear hIF5 hIF4 hIF
      obtain ⟨-, r0, r1, r2, r3, r4, r5⟩ := id hR
      have g0 := r5 0
      have g1 := r5 1
      have g2 := r5 2
      have g3 := r5 3
      have g4 := r5 4
      have p1 := (hR.put (.slice a n c)).1
      have p2 := (p1.put (.slice b m d)).2.1
      have p3 := (p2.put (.string tok)).2.2.1
      have p4 := (p3.put (.int .i64 fu)).2.2.2.1
      have p5 := (p4.put (.int .i64 qu)).2.2.2.2
      have k1 := p1.c0
      have k2 := p2.c1
      have k3 := p3.c2
      have k4 := p4.c3
      have k5 := p5.c4
      have hBz := phide (((((hB4.setCell (p := ⟨rb, 0, none⟩) (Nat.le_refl _) (.slice a n c)).setCell (p := ⟨rb, 1, none⟩) (Nat.le_refl _) (.slice b m d)).setCell (p := ⟨rb, 2, none⟩) (Nat.le_refl _) (.string tok)).setCell (p := ⟨rb, 3, none⟩) (Nat.le_refl _) (.int .i64 fu)).setCell (p := ⟨rb, 4, none⟩) (Nat.le_refl _) (.int .i64 qu))
      clear p1 p2 p3 p4 p5 r5 hR
      go_wp2
      refine bodyPost_ret (v := .tuple #[.agg #[.slice a n c, .slice b m d, .string tok, .int .i64 fu, .int .i64 qu], .int .i64 0]) (by simp [results, Tryz.results11, go_sem, k1, k2, k3, k4, k5]) rfl ?_
      exact ⟨by rw [punhide HRB]; exact punhide hBz, .inl ⟨_, _, rfl, punhide hIz, punhide HQ, punhide HGOOD, punhide HUN⟩⟩
end Go.Proofs.YtnagecbepidfiaaGreatDoor.Pol
