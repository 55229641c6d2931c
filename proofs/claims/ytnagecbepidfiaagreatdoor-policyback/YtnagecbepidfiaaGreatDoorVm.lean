/- What is proved here: PolicyBack, walked: for every policy, every text and every place that come in the law returns true and leaves them; conditions: the tables and the two errors lie, the policy lies. -/
import Derived.Test.YtnagecbepidfiaaGreatDoorVl
namespace Go.Proofs.YtnagecbepidfiaaGreatDoor.Pol
set_option maxRecDepth 100000
open Go.RowKit Go.Proofs.YtnagecbepidfiaaGreatDoor.Nc Go.Proofs.YtnagecbepidfiaaGreatDoor.Np Go.Proofs.YtnagecbepidfiaaGreatDoor.Nq
set_option linter.unusedVariables false
set_option linter.unusedSimpArgs false

theorem cut_none {p : Po} (h : mayP p = 0) (t : ByteArray) (ht : printT ptL p = t.data.toList) (n : Nat) (hn : n < t.size) : ∀ p0, mayP p0 = 0 → printT ptL p0 ≠ (t.extract 0 n).data.toList := by
  intro p0 h0 he
  rw [Lib.extract_data, List.drop_zero, Nat.sub_zero] at he
  have := uniq (ok_of h).good (ok_of h0).good (R := t.data.toList.drop n) (by rw [he, ht, List.take_append_drop])
  have hl := congrArg List.length this
  rw [List.length_drop, len_size] at hl
  simp at hl
  omega
theorem Bnd.paths8 {p : Po} (h : Bnd p) : ∀ m ∈ p.marks, m.path.length ≤ 1000 := fun m hm => by have := h.paths m hm; omega
theorem Ok.paths8 {p : Po} (h : Ok p) : ∀ m ∈ p.marks, m.path.length ≤ 1000 := fun m hm => by have := (Np.mayE_len (h.marks m hm).1).1; omega
set_option maxHeartbeats 8000000 in
theorem back8 (v : Value) (p : Po) (s : ByteArray) (z : Int) (w : World) (hs : s.size ≤ 9223372036854775807) (hI : PolIn w v p) (hT : Tabs w) (hP : Pow w) (hE : Errs w) :
    Calls Tryz.prog 4 #[v, .string s, .int .i64 z] w fun e w' => e = .returned (.bool true) ∧ Below w.heap.size w w' := by
  have HI0 := phide hI
  obtain ⟨a, n, c, b, m, d, tok, rfl, htok, hC, hM⟩ := hI
  have CF := fun W h => few8 (.agg #[.slice a n c, .slice b m d, .string tok, .int .i64 p.fuel, .int .i64 p.quota]) p W h
  have b1 : Below w.heap.size w (w.alloc (.cells #[.slice a n c, .slice b m d, .string tok, .int .i64 p.fuel, .int .i64 p.quota] 25)) := (Below.refl _ _).alloc (Nat.le_refl _) _
  have f1 := Five.new w (.slice a n c) (.slice b m d) (.string tok) (.int .i64 p.fuel) (.int .i64 p.quota) 25
  have HT : Hid (∀ W, Below w.heap.size w W → Tabs W ∧ Pow W ∧ Errs W) := phide (fun W hB => ⟨tabs_step hT hB, hP.next hB, Errs.next hE hB⟩)
  clear hT hP hE hC hM htok
  go_enter Tryz.func4, Tryz.ntmps4
  go_wp2_with fail
  refine (shown8 _ (punhide HT _ b1).1 (punhide HT _ b1).2.1 (punhide HT _ b1).2.2).mono ?_
  rintro e W1 ⟨rfl, b2⟩
  have hI1 := (punhide HI0).step b1 |>.step b2
  have f2 := f1.step b2
  have hB2 := b1.trans (b2.mono b1.size)
  clear b1 b2 f1
  obtain ⟨hl2, x0, x1, x2, x3, x4, -⟩ := id f2
  go_wp2_with fail
  refine (CF _ hI1).mono ?_
  rintro e W2 ⟨b3, v', p', rfl, hI2, hbnd⟩
  clear CF hI1 HI0 x0 x1 x2 x3 x4
  have f3 := f2.step b3
  have hB3 := hB2.trans (b3.mono hB2.size)
  obtain ⟨a', n', c', b', m', d', tok', rfl, htok, hC, hM⟩ := hI2
  have hI3 : PolF W2 W1.heap.size (.agg #[.slice a' n' c', .slice b' m' d', .string tok', .int .i64 p'.fuel, .int .i64 p'.quota]) p' := ⟨a', n', c', b', m', d', tok', rfl, htok, hC, hM⟩
  have p1 := (f3.put (.slice a' n' c')).1
  have p2 := (p1.put (.slice b' m' d')).2.1
  have p3 := (p2.put (.string tok')).2.2.1
  have p4 := (p3.put (.int .i64 p'.fuel)).2.2.2.1
  have p5 := (p4.put (.int .i64 p'.quota)).2.2.2.2
  have hkr : ∀ (W : World) (i : Nat) (u : Value), Kp W1.heap.size none W (W.setCell ⟨w.heap.size, i, none⟩ u) := fun W i u => Kp.of_set _ _ hl2
  have hI5 := hI3.keep (((((hkr W2 0 (.slice a' n' c')).trans (hkr _ 1 (.slice b' m' d'))).trans (hkr _ 2 (.string tok'))).trans (hkr _ 3 (.int .i64 p'.fuel))).trans (hkr _ 4 (.int .i64 p'.quota)))
  have hB5 := ((((hB3.setCell (p := ⟨w.heap.size, 0, none⟩) (Nat.le_refl _) (.slice a' n' c')).setCell (p := ⟨w.heap.size, 1, none⟩) (Nat.le_refl _) (.slice b' m' d')).setCell (p := ⟨w.heap.size, 2, none⟩) (Nat.le_refl _) (.string tok')).setCell (p := ⟨w.heap.size, 3, none⟩) (Nat.le_refl _) (.int .i64 p'.fuel)).setCell (p := ⟨w.heap.size, 4, none⟩) (Nat.le_refl _) (.int .i64 p'.quota)
  have y0 := f3.c0
  have y1 := f3.c1
  have y2 := f3.c2
  have y3 := f3.c3
  have y4 := f3.c4
  have g0 := f3.f 0
  have g1 := f3.f 1
  have g2 := f3.f 2
  have g3 := f3.f 3
  have g4 := f3.f 4
  have z1 := p1.c1
  have z2 := p2.c2
  have z3 := p3.c3
  have z4 := p4.c4
  have h5 := hI5.is
  clear htok hC hM f2 hB2 b3 hI3 hI5 hkr p1 p2 p3 p4 hB3 hl2
  go_upto_if 21 with fail
  clear y0 y1 y2 y3 y4 g0 g1 g2 g3 g4 z1 z2 z3 z4 f3
  generalize ((((W2.setCell ⟨w.heap.size, 0, none⟩ (.slice a' n' c')).setCell ⟨w.heap.size, 1, none⟩ (.slice b' m' d')).setCell ⟨w.heap.size, 2, none⟩ (.string tok')).setCell ⟨w.heap.size, 3, none⟩ (.int .i64 p'.fuel)).setCell ⟨w.heap.size, 4, none⟩ (.int .i64 p'.quota) = W5 at *
  obtain ⟨tx, htx, htc⟩ := cutT 2000 s
  go_cut [1] from 22 to 23 (fun v wx => v = .string tx ∧ wx = W5)
  case first =>
    clear h5 p5 hB5
    rcases htc with ⟨h1, h2⟩ | ⟨h1, h2⟩
    · have d1 : decide ((2000 : Int) < (s.size : Int)) = true := decide_eq_true (by omega)
      have c2 : (2000 : Int) ≤ (s.size : Int) := by omega
      go_wp2_with fail
      go_meet
      exact ⟨by rw [← h2], rfl⟩
    · have d1 : decide ((2000 : Int) < (s.size : Int)) = false := decide_eq_false (by omega)
      subst h2
      go_wp2_with fail
      go_meet
      exact ⟨rfl, rfl⟩
  case rest =>
  obtain ⟨rfl, rfl⟩ := hcut
  clear htc hs
  obtain ⟨q, hq⟩ : ∃ q, mayP p' = q := ⟨_, rfl⟩
  have CM := fun W hT hI => may_any (.agg #[.slice a' n' c', .slice b' m' d', .string tok', .int .i64 p'.fuel, .int .i64 p'.quota]) p' q hq (by have := hbnd.cats; omega) (fun x hx => by have := hbnd.names x hx; omega) (by have := hbnd.marks; omega) hbnd.paths8 (by have := hbnd.token; omega) W hT hI
  have HQ := phide hq
  have HB := phide hbnd
  clear hq hbnd
  obtain ⟨hl5, x0, x1, x2, x3, x4, -⟩ := id p5
  have hT5 := punhide HT _ hB5
  go_upto_if 26 with (go_at_call 15; refine (CM _ hT5.1 h5).mono ?_; rintro e W6 ⟨rfl, b6⟩; have h6 := h5.step b6; have p6 := p5.step b6; have hB6 := hB5.trans (b6.mono hB5.size); clear b6)
  clear x0 x1 x2 x3 x4 CM h5 p5 hT5
  obtain ⟨hl6, x0, x1, x2, x3, x4, -⟩ := id p6
  go_cut [8, 9, 10, 11, 12, 13] from 27 to 59 (fun v8 v9 v10 v11 v12 v13 wx => Below W6.heap.size W6 wx)
  case first =>
    by_cases hq0 : q = 0
    case neg =>
      have d1 : (q == 0) = false := by simp [hq0]
      clear h6 p6
      go_wp2_with fail
      go_meet
      exact Below.refl _ _
    case pos =>
    subst hq0
    have hok := ok_of (punhide HQ)
    obtain ⟨tt, htt⟩ : ∃ tt : ByteArray, printT ptL p' = tt.data.toList := ⟨⟨(printT ptL p').toArray⟩, by simp⟩
    have htl : tt.size ≤ 99000 := by rw [← len_size, ← htt]; exact print_len hok
    have CP := fun W hI hT hP => print_any (.agg #[.slice a' n' c', .slice b' m' d', .string tok', .int .i64 p'.fuel, .int .i64 p'.quota]) p' hok tt htt W hI hT hP
    have CA := fun W hT hP hE => parse_any tt htl W hT hP hE
    have HOK := phide hok
    have HTT := phide htt
    have hT6 := punhide HT _ hB6
    clear hok htt
    go_wp2_with fail
    refine (CP _ h6 hT6.1 hT6.2.1).mono ?_
    rintro e W7 ⟨rfl, b7⟩
    have h7 := h6.step b7
    have p7 := p6.step b7
    have hB7 := hB6.trans (b7.mono hB6.size)
    have hS7 : Below W6.heap.size W6 W7 := b7
    clear CP h6 p6 b7 hT6 x0 x1 x2 x3 x4
    have hT7 := punhide HT _ hB7
    go_wp2_with fail
    refine (CA _ hT7.1 hT7.2.1 hT7.2.2).mono ?_
    rintro e W8 ⟨b8, hA⟩
    clear CA hT7
    rcases hA with ⟨v2, p2, rfl, hI8, -, -, hun⟩ | ⟨rfl, hbad⟩
    case inr => exact absurd (punhide HTT) (hbad p' (punhide HQ))
    have hpp := hun p' (punhide HOK) (punhide HTT)
    subst hpp
    clear hun
    obtain ⟨qa, qn, qc, qb2, qm, qd, qt, rfl, htok8, hC8, hM8⟩ := hI8
    have hI8 : PolIn W8 (.agg #[.slice qa qn qc, .slice qb2 qm qd, .string qt, .int .i64 p2.fuel, .int .i64 p2.quota]) p2 := ⟨qa, qn, qc, qb2, qm, qd, qt, rfl, htok8, hC8, hM8⟩
    clear htok8 hC8 hM8
    have al : Below W8.heap.size W8 (W8.alloc (.cells #[.slice qa qn qc, .slice qb2 qm qd, .string qt, .int .i64 p2.fuel, .int .i64 p2.quota] 25)) := (Below.refl _ _).alloc (Nat.le_refl _) _
    have f9 := Five.new W8 (.slice qa qn qc) (.slice qb2 qm qd) (.string qt) (.int .i64 p2.fuel) (.int .i64 p2.quota) 25
    have p9 := (p7.step b8).step al
    have h9 := (h7.step b8).step al
    have hI9 := hI8.step al
    have hS9 := (hS7.trans (b8.mono hS7.size)).trans (al.mono (Nat.le_trans hS7.size b8.size))
    have hB9 := (hB7.trans (b8.mono hB7.size)).trans (al.mono (Nat.le_trans hB7.size b8.size))
    obtain ⟨-, x0, x1, x2, x3, x4, -⟩ := id p9
    obtain ⟨-, y0, y1, y2, y3, y4, -⟩ := id f9
    have CS := psame_any (.agg #[.slice a' n' c', .slice b' m' d', .string tok', .int .i64 p2.fuel, .int .i64 p2.quota]) (.agg #[.slice qa qn qc, .slice qb2 qm qd, .string qt, .int .i64 p2.fuel, .int .i64 p2.quota]) p2 (by have := (punhide HOK).n64; omega) (by have := (punhide HOK).m16; omega) (punhide HOK).paths8 _ h9 hI9
    clear h7 p7 hS7 b8 hI8 al p9 f9 h9 hI9 hB7
    go_wp2_with fail
    refine CS.mono ?_
    rintro e W10 ⟨rfl, b10⟩
    have hS10 := hS9.trans (b10.mono hS9.size)
    have hB10 := hB9.trans (b10.mono hB9.size)
    clear CS b10 hS9 hB9 x0 x1 x2 x3 x4 y0 y1 y2 y3 y4
    by_cases h0 : 0 ≤ z
    case neg =>
      have d1 : decide (0 ≤ z) = false := decide_eq_false h0
      go_wp2_with fail
      go_meet
      exact hS10
    case pos =>
    by_cases h1 : z < (tt.size : Int)
    case neg =>
      have d1 : decide (0 ≤ z) = true := decide_eq_true h0
      have d2 : decide (z < (tt.size : Int)) = false := decide_eq_false h1
      go_wp2_with fail
      go_meet
      exact hS10
    case pos =>
    obtain ⟨k, rfl⟩ := Int.eq_ofNat_of_zero_le h0
    have d1 : decide (0 ≤ (k : Int)) = true := decide_eq_true h0
    have d2 : decide ((k : Int) < (tt.size : Int)) = true := decide_eq_true h1
    have c1 : (k : Int) ≤ (tt.size : Int) := by omega
    obtain ⟨tk, htk⟩ : ∃ tk, tt.extract 0 k = tk := ⟨_, rfl⟩
    have hno := cut_none (punhide HQ) tt (punhide HTT) k (by omega)
    rw [htk] at hno
    have hks : tk.size ≤ 99000 := by rw [← htk, ByteArray.size_extract]; omega
    have CK := fun W hT hP hE => parse_any tk hks W hT hP hE
    have HNO := phide hno
    have hT10 := punhide HT _ hB10
    clear hno hks
    go_wp2_with fail
    refine (CK _ hT10.1 hT10.2.1 hT10.2.2).mono ?_
    rintro e W11 ⟨b11, hA⟩
    clear CK hT10
    rcases hA with ⟨v3, p3, rfl, -, hm3, hp3, -⟩ | ⟨rfl, -⟩
    case inl => exact absurd hp3 (punhide HNO p3 hm3)
    have hS11 := hS10.trans (b11.mono hS10.size)
    have hS12 := hS11.alloc hS11.size (.cells #[.slice none 0 0, .slice none 0 0, .string ⟨#[]⟩, .int .i64 0, .int .i64 0] 25)
    clear b11 hS10 hB10
    go_wp2_with fail
    go_meet
    exact hS12
  case rest =>
  have hB12 := hB6.trans (hcut.mono hB6.size)
  have hT12 := punhide HT _ hB12
  have CX := fun W hT hP hE => parse_any tx (by omega) W hT hP hE
  clear h6 p6 hB6 hcut x0 x1 x2 x3 x4 HQ
  go_wp2_with fail
  refine (CX _ hT12.1 hT12.2.1 hT12.2.2).mono ?_
  rintro e W13 ⟨b13, hA⟩
  have hB13 := hB12.trans (b13.mono hB12.size)
  clear CX hT12 hB12 b13
  rcases hA with ⟨v2, p2, rfl, hI13, hm2, hp2, -⟩ | ⟨rfl, -⟩
  · have hok := ok_of hm2
    obtain ⟨qa, qn, qc, qb2, qm, qd, qt, rfl, htok8, hC8, hM8⟩ := hI13
    have hI13 : PolIn W13 (.agg #[.slice qa qn qc, .slice qb2 qm qd, .string qt, .int .i64 p2.fuel, .int .i64 p2.quota]) p2 := ⟨qa, qn, qc, qb2, qm, qd, qt, rfl, htok8, hC8, hM8⟩
    clear htok8 hC8 hM8
    have al : Below W13.heap.size W13 (W13.alloc (.cells #[.slice qa qn qc, .slice qb2 qm qd, .string qt, .int .i64 p2.fuel, .int .i64 p2.quota] 25)) := (Below.refl _ _).alloc (Nat.le_refl _) _
    have f14 := Five.new W13 (.slice qa qn qc) (.slice qb2 qm qd) (.string qt) (.int .i64 p2.fuel) (.int .i64 p2.quota) 25
    have h14 := hI13.step al
    have hB14 := hB13.trans (al.mono hB13.size)
    obtain ⟨-, x0, x1, x2, x3, x4, -⟩ := id f14
    have CM := fun W hT hI => may_any (.agg #[.slice qa qn qc, .slice qb2 qm qd, .string qt, .int .i64 p2.fuel, .int .i64 p2.quota]) p2 0 hm2 (by have := hok.n64; omega) (fun x hx => by have := name_len (hok.names x hx); omega) (by have := hok.m16; omega) hok.paths8 (by have := hok.t24; omega) W hT hI
    have CP := fun W hI hT hP => print_any (.agg #[.slice qa qn qc, .slice qb2 qm qd, .string qt, .int .i64 p2.fuel, .int .i64 p2.quota]) p2 hok tx hp2 W hI hT hP
    have htt : (tx.toList == tx.toList) = true := by simp
    have hT14 := punhide HT _ hB14
    clear hI13 al hB13 hok hm2 hp2
    go_wp2_with (first
      | (go_at_call 15; refine (CM _ hT14.1 h14).mono ?_; rintro e W15 ⟨rfl, b15⟩; have h15 := h14.step b15; have f15 := f14.step b15; have hB15 := hB14.trans (b15.mono hB14.size); have hT15 := punhide HT _ hB15; obtain ⟨-, y0, y1, y2, y3, y4, -⟩ := id f15; clear b15)
      | (go_at_call 16; refine (CP _ h15 hT15.1 hT15.2.1).mono ?_; rintro e W16 ⟨rfl, b16⟩; have hB16 := hB15.trans (b16.mono hB15.size); clear b16))
    go_ret
    exact ⟨rfl, hB16⟩
  · have f14 := Five.new W13 (.slice none 0 0) (.slice none 0 0) (.string ⟨#[]⟩) (.int .i64 0) (.int .i64 0) 25
    have hB14 := hB13.alloc hB13.size (.cells #[.slice none 0 0, .slice none 0 0, .string ⟨#[]⟩, .int .i64 0, .int .i64 0] 25)
    obtain ⟨-, x0, x1, x2, x3, x4, -⟩ := id f14
    clear hB13 f14
    go_wp2
    go_ret
    exact ⟨rfl, hB14⟩
end Go.Proofs.YtnagecbepidfiaaGreatDoor.Pol
