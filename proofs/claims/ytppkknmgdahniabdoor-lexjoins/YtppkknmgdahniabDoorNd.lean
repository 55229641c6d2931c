/- What is proved here: what readQuoted, readName, readVar, readText, readKey of package lex do, walked; conditions: texts of at most 4000 bytes, the tables of unicode/utf8 lie. Written by lexq_gen.py. -/
import Derived.Test.YtppkknmgdahniabDoorNb
import Derived.Handy
namespace Go.Proofs.YtppkknmgdahniabDoor.Lex
set_option maxRecDepth 100000
open Go.RowKit Go.Proofs.YtppkknmgdahniabDoor.Nc Go.Proofs.YtppkknmgdahniabDoor.Nq
set_option maxRecDepth 100000
set_option linter.unusedVariables false
set_option linter.unusedSimpArgs false

set_option maxHeartbeats 2000000 in
theorem readQuoted_any (k : Nat) (pre s : ByteArray) (o : Option (Lx.Tk × Nat)) (ho : Lx.quotedO k pre.data.toList s.data.toList = o) (hs : s.size ≤ 4000) (hp : pre.size ≤ 1) (w : World) (hT : Tabs w) :
    Calls Tryd.prog 24 #[.int .i64 (k : Int), .string pre, .string s] w fun e w' => e = .returned (rdV o) ∧ Below w.heap.size w w' := by
  obtain ⟨pf, hpf⟩ : ∃ b, Lib.hasPrefix s.data.toList pre.data.toList = b := ⟨_, rfl⟩
  obtain ⟨r, hr⟩ := ex_txt (Lib.trimPrefix s.data.toList pre.data.toList)
  have CP : ∀ W, Calls Tryd.prog 35 #[.string s, .string pre] W fun e w' => e = .returned (.tuple #[.string r, .bool pf]) ∧ w' = W := fun W => by
    have := Tryd.strings_CutPrefix s pre W
    rw [hr, hpf, mk_of] at this
    exact this
  have hrs : r.size ≤ s.size := by
    have := trimp_len s.data.toList pre.data.toList
    rw [hr, lsize, lsize] at this; exact this
  have hO : o = if pf = true ∧ (Qm.unquoteL r.data.toList).2.2 = 0 then some (⟨k, (Qm.unquoteL r.data.toList).1, false, [], 0⟩, pre.size + (Qm.unquoteL r.data.toList).2.1) else none := by
    rw [← ho]
    unfold Lx.quotedO
    rw [hpf]
    cases pf with
    | false => rw [if_neg (by simp), if_neg (by simp)]
    | true =>
      have e : s.data.toList.drop pre.data.toList.length = r.data.toList := by
        rw [← hr]; unfold Lib.trimPrefix; rw [if_pos hpf]
      rw [e, lsize]
  have HP := lhide CP
  have HO := lhide hO
  have HA : Hid (∀ W W', Below (w.alloc (.cells #[.int .i64 0, .int .i64 0, .string ⟨#[]⟩, .bool false, .string ⟨#[]⟩, .int .i64 0] 33)).heap.size (w.alloc (.cells #[.int .i64 0, .int .i64 0, .string ⟨#[]⟩, .bool false, .string ⟨#[]⟩, .int .i64 0] 33)) W → Below W.heap.size W W' → Below (w.alloc (.cells #[.int .i64 0, .int .i64 0, .string ⟨#[]⟩, .bool false, .string ⟨#[]⟩, .int .i64 0] 33)).heap.size (w.alloc (.cells #[.int .i64 0, .int .i64 0, .string ⟨#[]⟩, .bool false, .string ⟨#[]⟩, .int .i64 0] 33)) W') := lhide (fun W W' h g => h.trans (g.mono h.size))
  have hA0 : Below (w.alloc (.cells #[.int .i64 0, .int .i64 0, .string ⟨#[]⟩, .bool false, .string ⟨#[]⟩, .int .i64 0] 33)).heap.size (w.alloc (.cells #[.int .i64 0, .int .i64 0, .string ⟨#[]⟩, .bool false, .string ⟨#[]⟩, .int .i64 0] 33)) (w.alloc (.cells #[.int .i64 0, .int .i64 0, .string ⟨#[]⟩, .bool false, .string ⟨#[]⟩, .int .i64 0] 33)) := Below.refl _ _
  have HT1 : Hid (Tabs (w.alloc (.cells #[.int .i64 0, .int .i64 0, .string ⟨#[]⟩, .bool false, .string ⟨#[]⟩, .int .i64 0] 33))) := lhide (Nq.Tabs.step hT ((Below.refl _ w).alloc (Nat.le_refl _) _))
  cases pf with
  | false =>
    obtain rfl : o = none := by rw [lunhide HO, if_neg (by simp)]
    have HB6 := lhide hA0
    clear CP hO ho hpf hr hrs hA0 hT hs hp
    go_enter Tryd.func24, Tryd.ntmps24
    go_wp2_with fail
    refine (lunhide HP _).mono ?_
    rintro e w1 ⟨rfl, rfl⟩
    go_wp2_with fail
    go_returns
    exact ⟨rfl, (Below.refl _ w).alloc (Nat.le_refl _) _⟩
  | true =>
    obtain ⟨u, m, er, hU, hcase⟩ : ∃ (u : ByteArray) (m er : Nat), Qm.unquoteL r.data.toList = (u.data.toList, m, er) ∧ (er = 0 ∧ m ≤ r.size ∨ (er ≠ 0 ∧ er ≤ 6)) := by
      rcases Qm.unquote_shape r.data.toList with ⟨t, n, e, -, h6, h7, -⟩ | e | e
      · rw [lsize] at h7
        exact ⟨⟨t.toArray⟩, n, 0, by rw [e], .inl ⟨rfl, h7⟩⟩
      · exact ⟨⟨#[]⟩, 0, 3, by rw [e], .inr ⟨by decide, by decide⟩⟩
      · exact ⟨⟨#[]⟩, 0, 6, by rw [e], .inr ⟨by decide, by decide⟩⟩
    have CU : ∀ W, Tabs W → Calls Tryd.prog 39 #[.string r] W fun e w' => e = .returned (.tuple #[.string u, .int .i64 (m : Int), .int .i64 (er : Int)]) ∧ Below W.heap.size W w' := fun W h => unquote_c r u m er W (by omega) hU h
    rw [hU] at hO
    dsimp only at hO
    have HO := lhide hO
    have HU := lhide CU
    have HB6 := lhide hA0
    have hpz : er = 0 → IntKind.i64.wrap ((pre.size : Int) + (m : Int)) = ((pre.size + m : Nat) : Int) := fun e => by
      have : m ≤ r.size := by omega
      rw [IntKind.wrap_i64]; omega
    have HW := lhide hpz
    by_cases he : er = 0
    · subst he
      have hpz := lunhide HW rfl
      clear CP CU hO hU hcase ho hpf hr hrs hA0 hT hs hp
      go_enter Tryd.func24, Tryd.ntmps24
      go_wp2_with fail
      refine (lunhide HP _).mono ?_
      rintro e w1 ⟨rfl, rfl⟩
      go_wp2_with fail
      refine (lunhide HU _ (lunhide HT1)).mono ?_
      rintro e w2 ⟨rfl, b2⟩
      have HB7 := lhide (lunhide HA _ _ (lunhide HB6) b2)
      clear b2
      obtain ⟨⟨y0, y1, y2, y3, y4, y5⟩, ⟨f0, f1, f2, f3, f4, f5⟩, hbw, hltw⟩ := box6 _ _ _ _ _ _ _ _ _ (lunhide HB7)
      have HBW := lhide (And.intro hbw hltw)
      clear hbw hltw
      go_wp2_with fail
      change bodyPost _ _ _ _ _ (w2.setCells w.heap.size 0 [.int .i64 (k : Int), .int .i64 0, .string u, .bool false, .string ⟨#[]⟩, .int .i64 0])
      obtain ⟨r0, r1, r2, r3, r4, r5⟩ := res6 w2 w.heap.size (.int .i64 (k : Int)) (.int .i64 0) (.string u) (.bool false) (.string ⟨#[]⟩) (.int .i64 0) y0 y1 y2 y3 y4 y5
      have hBV := tset_below (lunhide HBW).1 (G := w.heap.size) (Nat.le_refl _) 0 [.int .i64 (k : Int), .int .i64 0, .string u, .bool false, .string ⟨#[]⟩, .int .i64 0]
      generalize w2.setCells w.heap.size 0 [.int .i64 (k : Int), .int .i64 0, .string u, .bool false, .string ⟨#[]⟩, .int .i64 0] = V at hBV r0 r1 r2 r3 r4 r5 ⊢
      exact bodyPost_ret (v := .tuple #[.agg #[.int .i64 (k : Int), .int .i64 0, .string u, .bool false, .string ⟨#[]⟩, .int .i64 0], .int .i64 ((pre.size + m : Nat) : Int)]) (by simp [results, Tryd.results24, go_sem, r0, r1, r2, r3, r4, r5]) rfl ⟨by rw [lunhide HO, if_pos (by simp)]; show _ = Ending.returned (.tuple #[.agg #[_, _, .string ⟨u.data.toList.toArray⟩, _, _, _], _]); rw [mk_of]; rfl, hBV⟩
    · have hne : ((er : Int) != 0) = true := bne_iff_ne.2 (by omega)
      have hne2 : ¬ (er : Int) = 0 := by omega
      obtain rfl : o = none := by rw [lunhide HO, if_neg (by simp [he])]
      clear CP CU hO hU hcase ho hpf hr hrs hA0 hT hs hp hpz he
      go_enter Tryd.func24, Tryd.ntmps24
      go_wp2_with fail
      refine (lunhide HP _).mono ?_
      rintro e w1 ⟨rfl, rfl⟩
      go_wp2_with fail
      refine (lunhide HU _ (lunhide HT1)).mono ?_
      rintro e w2 ⟨rfl, b2⟩
      have HB7 := lhide (lunhide HA _ _ (lunhide HB6) b2)
      clear b2
      obtain ⟨⟨y0, y1, y2, y3, y4, y5⟩, ⟨f0, f1, f2, f3, f4, f5⟩, hbw, hltw⟩ := box6 _ _ _ _ _ _ _ _ _ (lunhide HB7)
      have HBW := lhide (And.intro hbw hltw)
      clear hbw hltw
      go_wp2_with fail
      change bodyPost _ _ _ _ _ (w2.setCells w.heap.size 0 [.int .i64 0, .int .i64 0, .string ⟨#[]⟩, .bool false, .string ⟨#[]⟩, .int .i64 0])
      obtain ⟨r0, r1, r2, r3, r4, r5⟩ := res6 w2 w.heap.size (.int .i64 0) (.int .i64 0) (.string ⟨#[]⟩) (.bool false) (.string ⟨#[]⟩) (.int .i64 0) y0 y1 y2 y3 y4 y5
      have hBV := tset_below (lunhide HBW).1 (G := w.heap.size) (Nat.le_refl _) 0 [.int .i64 0, .int .i64 0, .string ⟨#[]⟩, .bool false, .string ⟨#[]⟩, .int .i64 0]
      generalize w2.setCells w.heap.size 0 [.int .i64 0, .int .i64 0, .string ⟨#[]⟩, .bool false, .string ⟨#[]⟩, .int .i64 0] = V at hBV r0 r1 r2 r3 r4 r5 ⊢
      exact bodyPost_ret (v := .tuple #[.agg #[.int .i64 0, .int .i64 0, .string ⟨#[]⟩, .bool false, .string ⟨#[]⟩, .int .i64 0], .int .i64 0]) (by simp [results, Tryd.results24, go_sem, r0, r1, r2, r3, r4, r5]) rfl ⟨rfl, hBV⟩
set_option maxHeartbeats 1000000 in
theorem readName_any (s : ByteArray) (o : Option (Lx.Tk × Nat)) (ho : Lx.rdr 0 s.data.toList = o) (hs : s.size ≤ 4000) (w : World) :
    Calls Tryd.prog 13 #[.string s] w fun e w' => e = .returned (rdV o) ∧ Below w.heap.size w w' := by
  have hA0 : Below (w.alloc (.cells #[.int .i64 0, .int .i64 0, .string ⟨#[]⟩, .bool false, .string ⟨#[]⟩, .int .i64 0] 33)).heap.size (w.alloc (.cells #[.int .i64 0, .int .i64 0, .string ⟨#[]⟩, .bool false, .string ⟨#[]⟩, .int .i64 0] 33)) (w.alloc (.cells #[.int .i64 0, .int .i64 0, .string ⟨#[]⟩, .bool false, .string ⟨#[]⟩, .int .i64 0] 33)) := Below.refl _ _
  have HA : Hid (∀ W W', Below (w.alloc (.cells #[.int .i64 0, .int .i64 0, .string ⟨#[]⟩, .bool false, .string ⟨#[]⟩, .int .i64 0] 33)).heap.size (w.alloc (.cells #[.int .i64 0, .int .i64 0, .string ⟨#[]⟩, .bool false, .string ⟨#[]⟩, .int .i64 0] 33)) W → Below W.heap.size W W' → Below (w.alloc (.cells #[.int .i64 0, .int .i64 0, .string ⟨#[]⟩, .bool false, .string ⟨#[]⟩, .int .i64 0] 33)).heap.size (w.alloc (.cells #[.int .i64 0, .int .i64 0, .string ⟨#[]⟩, .bool false, .string ⟨#[]⟩, .int .i64 0] 33)) W') := lhide (fun W W' h g => h.trans (g.mono h.size))
  match o, ho with
  | none, ho =>
    have CN : ∀ W, Calls Tryd.prog 23 #[.int .i64 1, .string ⟨#[]⟩, .string s] W fun e w' => e = .returned (.tuple #[.agg #[.int .i64 0, .int .i64 0, .string ⟨#[]⟩, .bool false, .string ⟨#[]⟩, .int .i64 0], .int .i64 0]) ∧ Below W.heap.size W w' := fun W => readNamed_any 1 ⟨#[]⟩ s (none) ho hs (by decide) W
    have HN := lhide CN
    have HB6 := lhide hA0
    clear CN ho hA0 hs
    go_enter Tryd.func13, Tryd.ntmps13
    go_wp2_with fail
    refine (lunhide HN _).mono ?_
    rintro e w2 ⟨rfl, b2⟩
    have HB7 := lhide (lunhide HA _ _ (lunhide HB6) b2)
    clear b2
    obtain ⟨⟨y0, y1, y2, y3, y4, y5⟩, ⟨f0, f1, f2, f3, f4, f5⟩, hbw, hltw⟩ := box6 _ _ _ _ _ _ _ _ _ (lunhide HB7)
    have HBW := lhide (And.intro hbw hltw)
    clear hbw hltw
    go_wp2_with fail
    change bodyPost _ _ _ _ _ (w2.setCells w.heap.size 0 [.int .i64 0, .int .i64 0, .string ⟨#[]⟩, .bool false, .string ⟨#[]⟩, .int .i64 0])
    obtain ⟨r0, r1, r2, r3, r4, r5⟩ := res6 w2 w.heap.size (.int .i64 0) (.int .i64 0) (.string ⟨#[]⟩) (.bool false) (.string ⟨#[]⟩) (.int .i64 0) y0 y1 y2 y3 y4 y5
    have hBV := tset_below (lunhide HBW).1 (G := w.heap.size) (Nat.le_refl _) 0 [.int .i64 0, .int .i64 0, .string ⟨#[]⟩, .bool false, .string ⟨#[]⟩, .int .i64 0]
    generalize w2.setCells w.heap.size 0 [.int .i64 0, .int .i64 0, .string ⟨#[]⟩, .bool false, .string ⟨#[]⟩, .int .i64 0] = V at hBV r0 r1 r2 r3 r4 r5 ⊢
    exact bodyPost_ret (v := .tuple #[.agg #[.int .i64 0, .int .i64 0, .string ⟨#[]⟩, .bool false, .string ⟨#[]⟩, .int .i64 0], .int .i64 0]) (by simp [results, Tryd.results13, go_sem, r0, r1, r2, r3, r4, r5]) rfl ⟨rfl, hBV⟩
  | some (t, n), ho =>
    have CN : ∀ W, Calls Tryd.prog 23 #[.int .i64 1, .string ⟨#[]⟩, .string s] W fun e w' => e = .returned (.tuple #[.agg #[.int .i64 (t.k : Int), .int .i64 0, .string ⟨t.tx.toArray⟩, .bool t.ng, .string ⟨t.dg.toArray⟩, .int .i64 (t.sc : Int)], .int .i64 (n : Int)]) ∧ Below W.heap.size W w' := fun W => readNamed_any 1 ⟨#[]⟩ s (some (t, n)) ho hs (by decide) W
    have HN := lhide CN
    have HB6 := lhide hA0
    clear CN ho hA0 hs
    go_enter Tryd.func13, Tryd.ntmps13
    go_wp2_with fail
    refine (lunhide HN _).mono ?_
    rintro e w2 ⟨rfl, b2⟩
    have HB7 := lhide (lunhide HA _ _ (lunhide HB6) b2)
    clear b2
    obtain ⟨⟨y0, y1, y2, y3, y4, y5⟩, ⟨f0, f1, f2, f3, f4, f5⟩, hbw, hltw⟩ := box6 _ _ _ _ _ _ _ _ _ (lunhide HB7)
    have HBW := lhide (And.intro hbw hltw)
    clear hbw hltw
    go_wp2_with fail
    change bodyPost _ _ _ _ _ (w2.setCells w.heap.size 0 [.int .i64 (t.k : Int), .int .i64 0, .string ⟨t.tx.toArray⟩, .bool t.ng, .string ⟨t.dg.toArray⟩, .int .i64 (t.sc : Int)])
    obtain ⟨r0, r1, r2, r3, r4, r5⟩ := res6 w2 w.heap.size (.int .i64 (t.k : Int)) (.int .i64 0) (.string ⟨t.tx.toArray⟩) (.bool t.ng) (.string ⟨t.dg.toArray⟩) (.int .i64 (t.sc : Int)) y0 y1 y2 y3 y4 y5
    have hBV := tset_below (lunhide HBW).1 (G := w.heap.size) (Nat.le_refl _) 0 [.int .i64 (t.k : Int), .int .i64 0, .string ⟨t.tx.toArray⟩, .bool t.ng, .string ⟨t.dg.toArray⟩, .int .i64 (t.sc : Int)]
    generalize w2.setCells w.heap.size 0 [.int .i64 (t.k : Int), .int .i64 0, .string ⟨t.tx.toArray⟩, .bool t.ng, .string ⟨t.dg.toArray⟩, .int .i64 (t.sc : Int)] = V at hBV r0 r1 r2 r3 r4 r5 ⊢
    exact bodyPost_ret (v := .tuple #[.agg #[.int .i64 (t.k : Int), .int .i64 0, .string ⟨t.tx.toArray⟩, .bool t.ng, .string ⟨t.dg.toArray⟩, .int .i64 (t.sc : Int)], .int .i64 (n : Int)]) (by simp [results, Tryd.results13, go_sem, r0, r1, r2, r3, r4, r5]) rfl ⟨rfl, hBV⟩
set_option maxHeartbeats 1000000 in
theorem readVar_any (s : ByteArray) (o : Option (Lx.Tk × Nat)) (ho : Lx.rdr 1 s.data.toList = o) (hs : s.size ≤ 4000) (w : World) :
    Calls Tryd.prog 14 #[.string s] w fun e w' => e = .returned (rdV o) ∧ Below w.heap.size w w' := by
  have hA0 : Below (w.alloc (.cells #[.int .i64 0, .int .i64 0, .string ⟨#[]⟩, .bool false, .string ⟨#[]⟩, .int .i64 0] 33)).heap.size (w.alloc (.cells #[.int .i64 0, .int .i64 0, .string ⟨#[]⟩, .bool false, .string ⟨#[]⟩, .int .i64 0] 33)) (w.alloc (.cells #[.int .i64 0, .int .i64 0, .string ⟨#[]⟩, .bool false, .string ⟨#[]⟩, .int .i64 0] 33)) := Below.refl _ _
  have HA : Hid (∀ W W', Below (w.alloc (.cells #[.int .i64 0, .int .i64 0, .string ⟨#[]⟩, .bool false, .string ⟨#[]⟩, .int .i64 0] 33)).heap.size (w.alloc (.cells #[.int .i64 0, .int .i64 0, .string ⟨#[]⟩, .bool false, .string ⟨#[]⟩, .int .i64 0] 33)) W → Below W.heap.size W W' → Below (w.alloc (.cells #[.int .i64 0, .int .i64 0, .string ⟨#[]⟩, .bool false, .string ⟨#[]⟩, .int .i64 0] 33)).heap.size (w.alloc (.cells #[.int .i64 0, .int .i64 0, .string ⟨#[]⟩, .bool false, .string ⟨#[]⟩, .int .i64 0] 33)) W') := lhide (fun W W' h g => h.trans (g.mono h.size))
  match o, ho with
  | none, ho =>
    have CN : ∀ W, Calls Tryd.prog 23 #[.int .i64 2, .string ⟨#[36]⟩, .string s] W fun e w' => e = .returned (.tuple #[.agg #[.int .i64 0, .int .i64 0, .string ⟨#[]⟩, .bool false, .string ⟨#[]⟩, .int .i64 0], .int .i64 0]) ∧ Below W.heap.size W w' := fun W => readNamed_any 2 ⟨#[36]⟩ s (none) ho hs (by decide) W
    have HN := lhide CN
    have HB6 := lhide hA0
    clear CN ho hA0 hs
    go_enter Tryd.func14, Tryd.ntmps14
    go_wp2_with fail
    refine (lunhide HN _).mono ?_
    rintro e w2 ⟨rfl, b2⟩
    have HB7 := lhide (lunhide HA _ _ (lunhide HB6) b2)
    clear b2
    obtain ⟨⟨y0, y1, y2, y3, y4, y5⟩, ⟨f0, f1, f2, f3, f4, f5⟩, hbw, hltw⟩ := box6 _ _ _ _ _ _ _ _ _ (lunhide HB7)
    have HBW := lhide (And.intro hbw hltw)
    clear hbw hltw
    go_wp2_with fail
    change bodyPost _ _ _ _ _ (w2.setCells w.heap.size 0 [.int .i64 0, .int .i64 0, .string ⟨#[]⟩, .bool false, .string ⟨#[]⟩, .int .i64 0])
    obtain ⟨r0, r1, r2, r3, r4, r5⟩ := res6 w2 w.heap.size (.int .i64 0) (.int .i64 0) (.string ⟨#[]⟩) (.bool false) (.string ⟨#[]⟩) (.int .i64 0) y0 y1 y2 y3 y4 y5
    have hBV := tset_below (lunhide HBW).1 (G := w.heap.size) (Nat.le_refl _) 0 [.int .i64 0, .int .i64 0, .string ⟨#[]⟩, .bool false, .string ⟨#[]⟩, .int .i64 0]
    generalize w2.setCells w.heap.size 0 [.int .i64 0, .int .i64 0, .string ⟨#[]⟩, .bool false, .string ⟨#[]⟩, .int .i64 0] = V at hBV r0 r1 r2 r3 r4 r5 ⊢
    exact bodyPost_ret (v := .tuple #[.agg #[.int .i64 0, .int .i64 0, .string ⟨#[]⟩, .bool false, .string ⟨#[]⟩, .int .i64 0], .int .i64 0]) (by simp [results, Tryd.results14, go_sem, r0, r1, r2, r3, r4, r5]) rfl ⟨rfl, hBV⟩
  | some (t, n), ho =>
    have CN : ∀ W, Calls Tryd.prog 23 #[.int .i64 2, .string ⟨#[36]⟩, .string s] W fun e w' => e = .returned (.tuple #[.agg #[.int .i64 (t.k : Int), .int .i64 0, .string ⟨t.tx.toArray⟩, .bool t.ng, .string ⟨t.dg.toArray⟩, .int .i64 (t.sc : Int)], .int .i64 (n : Int)]) ∧ Below W.heap.size W w' := fun W => readNamed_any 2 ⟨#[36]⟩ s (some (t, n)) ho hs (by decide) W
    have HN := lhide CN
    have HB6 := lhide hA0
    clear CN ho hA0 hs
    go_enter Tryd.func14, Tryd.ntmps14
    go_wp2_with fail
    refine (lunhide HN _).mono ?_
    rintro e w2 ⟨rfl, b2⟩
    have HB7 := lhide (lunhide HA _ _ (lunhide HB6) b2)
    clear b2
    obtain ⟨⟨y0, y1, y2, y3, y4, y5⟩, ⟨f0, f1, f2, f3, f4, f5⟩, hbw, hltw⟩ := box6 _ _ _ _ _ _ _ _ _ (lunhide HB7)
    have HBW := lhide (And.intro hbw hltw)
    clear hbw hltw
    go_wp2_with fail
    change bodyPost _ _ _ _ _ (w2.setCells w.heap.size 0 [.int .i64 (t.k : Int), .int .i64 0, .string ⟨t.tx.toArray⟩, .bool t.ng, .string ⟨t.dg.toArray⟩, .int .i64 (t.sc : Int)])
    obtain ⟨r0, r1, r2, r3, r4, r5⟩ := res6 w2 w.heap.size (.int .i64 (t.k : Int)) (.int .i64 0) (.string ⟨t.tx.toArray⟩) (.bool t.ng) (.string ⟨t.dg.toArray⟩) (.int .i64 (t.sc : Int)) y0 y1 y2 y3 y4 y5
    have hBV := tset_below (lunhide HBW).1 (G := w.heap.size) (Nat.le_refl _) 0 [.int .i64 (t.k : Int), .int .i64 0, .string ⟨t.tx.toArray⟩, .bool t.ng, .string ⟨t.dg.toArray⟩, .int .i64 (t.sc : Int)]
    generalize w2.setCells w.heap.size 0 [.int .i64 (t.k : Int), .int .i64 0, .string ⟨t.tx.toArray⟩, .bool t.ng, .string ⟨t.dg.toArray⟩, .int .i64 (t.sc : Int)] = V at hBV r0 r1 r2 r3 r4 r5 ⊢
    exact bodyPost_ret (v := .tuple #[.agg #[.int .i64 (t.k : Int), .int .i64 0, .string ⟨t.tx.toArray⟩, .bool t.ng, .string ⟨t.dg.toArray⟩, .int .i64 (t.sc : Int)], .int .i64 (n : Int)]) (by simp [results, Tryd.results14, go_sem, r0, r1, r2, r3, r4, r5]) rfl ⟨rfl, hBV⟩
set_option maxHeartbeats 1000000 in
theorem readText_any (s : ByteArray) (o : Option (Lx.Tk × Nat)) (ho : Lx.rdr 4 s.data.toList = o) (hs : s.size ≤ 4000) (w : World) (hT : Tabs w) :
    Calls Tryd.prog 17 #[.string s] w fun e w' => e = .returned (rdV o) ∧ Below w.heap.size w w' := by
  have hA0 : Below (w.alloc (.cells #[.int .i64 0, .int .i64 0, .string ⟨#[]⟩, .bool false, .string ⟨#[]⟩, .int .i64 0] 33)).heap.size (w.alloc (.cells #[.int .i64 0, .int .i64 0, .string ⟨#[]⟩, .bool false, .string ⟨#[]⟩, .int .i64 0] 33)) (w.alloc (.cells #[.int .i64 0, .int .i64 0, .string ⟨#[]⟩, .bool false, .string ⟨#[]⟩, .int .i64 0] 33)) := Below.refl _ _
  have HA : Hid (∀ W W', Below (w.alloc (.cells #[.int .i64 0, .int .i64 0, .string ⟨#[]⟩, .bool false, .string ⟨#[]⟩, .int .i64 0] 33)).heap.size (w.alloc (.cells #[.int .i64 0, .int .i64 0, .string ⟨#[]⟩, .bool false, .string ⟨#[]⟩, .int .i64 0] 33)) W → Below W.heap.size W W' → Below (w.alloc (.cells #[.int .i64 0, .int .i64 0, .string ⟨#[]⟩, .bool false, .string ⟨#[]⟩, .int .i64 0] 33)).heap.size (w.alloc (.cells #[.int .i64 0, .int .i64 0, .string ⟨#[]⟩, .bool false, .string ⟨#[]⟩, .int .i64 0] 33)) W') := lhide (fun W W' h g => h.trans (g.mono h.size))
  have HT1 : Hid (Tabs (w.alloc (.cells #[.int .i64 0, .int .i64 0, .string ⟨#[]⟩, .bool false, .string ⟨#[]⟩, .int .i64 0] 33))) := lhide (Nq.Tabs.step hT ((Below.refl _ w).alloc (Nat.le_refl _) _))
  match o, ho with
  | none, ho =>
    have CN : ∀ W, Tabs W → Calls Tryd.prog 24 #[.int .i64 5, .string ⟨#[]⟩, .string s] W fun e w' => e = .returned (.tuple #[.agg #[.int .i64 0, .int .i64 0, .string ⟨#[]⟩, .bool false, .string ⟨#[]⟩, .int .i64 0], .int .i64 0]) ∧ Below W.heap.size W w' := fun W h => readQuoted_any 5 ⟨#[]⟩ s (none) ho hs (by decide) W h
    have HN := lhide CN
    have HB6 := lhide hA0
    clear CN ho hA0 hs hT
    go_enter Tryd.func17, Tryd.ntmps17
    go_wp2_with fail
    refine (lunhide HN _ (lunhide HT1)).mono ?_
    rintro e w2 ⟨rfl, b2⟩
    have HB7 := lhide (lunhide HA _ _ (lunhide HB6) b2)
    clear b2
    obtain ⟨⟨y0, y1, y2, y3, y4, y5⟩, ⟨f0, f1, f2, f3, f4, f5⟩, hbw, hltw⟩ := box6 _ _ _ _ _ _ _ _ _ (lunhide HB7)
    have HBW := lhide (And.intro hbw hltw)
    clear hbw hltw
    go_wp2_with fail
    change bodyPost _ _ _ _ _ (w2.setCells w.heap.size 0 [.int .i64 0, .int .i64 0, .string ⟨#[]⟩, .bool false, .string ⟨#[]⟩, .int .i64 0])
    obtain ⟨r0, r1, r2, r3, r4, r5⟩ := res6 w2 w.heap.size (.int .i64 0) (.int .i64 0) (.string ⟨#[]⟩) (.bool false) (.string ⟨#[]⟩) (.int .i64 0) y0 y1 y2 y3 y4 y5
    have hBV := tset_below (lunhide HBW).1 (G := w.heap.size) (Nat.le_refl _) 0 [.int .i64 0, .int .i64 0, .string ⟨#[]⟩, .bool false, .string ⟨#[]⟩, .int .i64 0]
    generalize w2.setCells w.heap.size 0 [.int .i64 0, .int .i64 0, .string ⟨#[]⟩, .bool false, .string ⟨#[]⟩, .int .i64 0] = V at hBV r0 r1 r2 r3 r4 r5 ⊢
    exact bodyPost_ret (v := .tuple #[.agg #[.int .i64 0, .int .i64 0, .string ⟨#[]⟩, .bool false, .string ⟨#[]⟩, .int .i64 0], .int .i64 0]) (by simp [results, Tryd.results17, go_sem, r0, r1, r2, r3, r4, r5]) rfl ⟨rfl, hBV⟩
  | some (t, n), ho =>
    have CN : ∀ W, Tabs W → Calls Tryd.prog 24 #[.int .i64 5, .string ⟨#[]⟩, .string s] W fun e w' => e = .returned (.tuple #[.agg #[.int .i64 (t.k : Int), .int .i64 0, .string ⟨t.tx.toArray⟩, .bool t.ng, .string ⟨t.dg.toArray⟩, .int .i64 (t.sc : Int)], .int .i64 (n : Int)]) ∧ Below W.heap.size W w' := fun W h => readQuoted_any 5 ⟨#[]⟩ s (some (t, n)) ho hs (by decide) W h
    have HN := lhide CN
    have HB6 := lhide hA0
    clear CN ho hA0 hs hT
    go_enter Tryd.func17, Tryd.ntmps17
    go_wp2_with fail
    refine (lunhide HN _ (lunhide HT1)).mono ?_
    rintro e w2 ⟨rfl, b2⟩
    have HB7 := lhide (lunhide HA _ _ (lunhide HB6) b2)
    clear b2
    obtain ⟨⟨y0, y1, y2, y3, y4, y5⟩, ⟨f0, f1, f2, f3, f4, f5⟩, hbw, hltw⟩ := box6 _ _ _ _ _ _ _ _ _ (lunhide HB7)
    have HBW := lhide (And.intro hbw hltw)
    clear hbw hltw
    go_wp2_with fail
    change bodyPost _ _ _ _ _ (w2.setCells w.heap.size 0 [.int .i64 (t.k : Int), .int .i64 0, .string ⟨t.tx.toArray⟩, .bool t.ng, .string ⟨t.dg.toArray⟩, .int .i64 (t.sc : Int)])
    obtain ⟨r0, r1, r2, r3, r4, r5⟩ := res6 w2 w.heap.size (.int .i64 (t.k : Int)) (.int .i64 0) (.string ⟨t.tx.toArray⟩) (.bool t.ng) (.string ⟨t.dg.toArray⟩) (.int .i64 (t.sc : Int)) y0 y1 y2 y3 y4 y5
    have hBV := tset_below (lunhide HBW).1 (G := w.heap.size) (Nat.le_refl _) 0 [.int .i64 (t.k : Int), .int .i64 0, .string ⟨t.tx.toArray⟩, .bool t.ng, .string ⟨t.dg.toArray⟩, .int .i64 (t.sc : Int)]
    generalize w2.setCells w.heap.size 0 [.int .i64 (t.k : Int), .int .i64 0, .string ⟨t.tx.toArray⟩, .bool t.ng, .string ⟨t.dg.toArray⟩, .int .i64 (t.sc : Int)] = V at hBV r0 r1 r2 r3 r4 r5 ⊢
    exact bodyPost_ret (v := .tuple #[.agg #[.int .i64 (t.k : Int), .int .i64 0, .string ⟨t.tx.toArray⟩, .bool t.ng, .string ⟨t.dg.toArray⟩, .int .i64 (t.sc : Int)], .int .i64 (n : Int)]) (by simp [results, Tryd.results17, go_sem, r0, r1, r2, r3, r4, r5]) rfl ⟨rfl, hBV⟩
end Go.Proofs.YtppkknmgdahniabDoor.Lex
