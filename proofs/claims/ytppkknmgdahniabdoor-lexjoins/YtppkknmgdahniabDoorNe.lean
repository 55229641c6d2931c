/- What is proved here: what readKey, partSize of package lex do, walked; conditions: texts of at most 4000 bytes, the tables of unicode/utf8 lie. Written by lexk_gen.py. -/
import Derived.Test.YtppkknmgdahniabDoorNd
namespace Go.Proofs.YtppkknmgdahniabDoor.Lex
set_option maxRecDepth 100000
open Go.RowKit Go.Proofs.YtppkknmgdahniabDoor.Nc Go.Proofs.YtppkknmgdahniabDoor.Nq
set_option maxRecDepth 100000
set_option linter.unusedVariables false
set_option linter.unusedSimpArgs false

theorem alloc6 (w : World) (x0 x1 x2 x3 x4 x5 : Value) (t : TypeId) : ∃ w1, w.alloc (.cells #[x0, x1, x2, x3, x4, x5] t) = w1 ∧ w1.heap.size = w.heap.size + 1 ∧ Below w.heap.size w w1 ∧
    (w1.cell? ⟨w.heap.size, 0, none⟩ = some x0 ∧ w1.cell? ⟨w.heap.size, 1, none⟩ = some x1 ∧ w1.cell? ⟨w.heap.size, 2, none⟩ = some x2 ∧ w1.cell? ⟨w.heap.size, 3, none⟩ = some x3 ∧ w1.cell? ⟨w.heap.size, 4, none⟩ = some x4 ∧ w1.cell? ⟨w.heap.size, 5, none⟩ = some x5) :=
  ⟨_, rfl, by simp, (Below.refl _ _).alloc (Nat.le_refl _) _, World.cell?_alloc_at _ _ _ _ rfl, World.cell?_alloc_at _ _ _ _ rfl, World.cell?_alloc_at _ _ _ _ rfl, World.cell?_alloc_at _ _ _ _ rfl, World.cell?_alloc_at _ _ _ _ rfl, World.cell?_alloc_at _ _ _ _ rfl⟩
set_option maxHeartbeats 2000000 in
theorem readKey_any (s : ByteArray) (o : Option (Lx.Tk × Nat)) (ho : Lx.rdr 2 s.data.toList = o) (hs : s.size ≤ 4000) (w : World) (hT : Tabs w) :
    Calls Tryd.prog 15 #[.string s] w fun e w' => e = .returned (rdV o) ∧ Below w.heap.size w w' := by
  have hA0 : Below (w.alloc (.cells #[.int .i64 0, .int .i64 0, .string ⟨#[]⟩, .bool false, .string ⟨#[]⟩, .int .i64 0] 33)).heap.size (w.alloc (.cells #[.int .i64 0, .int .i64 0, .string ⟨#[]⟩, .bool false, .string ⟨#[]⟩, .int .i64 0] 33)) (w.alloc (.cells #[.int .i64 0, .int .i64 0, .string ⟨#[]⟩, .bool false, .string ⟨#[]⟩, .int .i64 0] 33)) := Below.refl _ _
  have HA : Hid (∀ W W', Below (w.alloc (.cells #[.int .i64 0, .int .i64 0, .string ⟨#[]⟩, .bool false, .string ⟨#[]⟩, .int .i64 0] 33)).heap.size (w.alloc (.cells #[.int .i64 0, .int .i64 0, .string ⟨#[]⟩, .bool false, .string ⟨#[]⟩, .int .i64 0] 33)) W → Below W.heap.size W W' → Below (w.alloc (.cells #[.int .i64 0, .int .i64 0, .string ⟨#[]⟩, .bool false, .string ⟨#[]⟩, .int .i64 0] 33)).heap.size (w.alloc (.cells #[.int .i64 0, .int .i64 0, .string ⟨#[]⟩, .bool false, .string ⟨#[]⟩, .int .i64 0] 33)) W') := lhide (fun W W' h g => h.trans (g.mono h.size))
  have HB6 := lhide hA0
  have HT : Hid (∀ W, Below (w.alloc (.cells #[.int .i64 0, .int .i64 0, .string ⟨#[]⟩, .bool false, .string ⟨#[]⟩, .int .i64 0] 33)).heap.size (w.alloc (.cells #[.int .i64 0, .int .i64 0, .string ⟨#[]⟩, .bool false, .string ⟨#[]⟩, .int .i64 0] 33)) W → Tabs W) := lhide (fun W hW => Nq.Tabs.step (Nq.Tabs.step hT ((Below.refl _ w).alloc (Nat.le_refl _) _)) hW)
  clear hA0 hT
  change Lx.keyO s.data.toList = o at ho
  unfold Lx.keyO at ho
  cases h1 : Lx.namedO 3 [46] s.data.toList with
  | some x =>
    obtain ⟨t, n⟩ := x
    rw [h1] at ho
    obtain rfl : o = some (t, n) := ho.symm
    have hsz := (Lx.named_size h1).1
    have hpos : (0 : Int) < (n : Int) := by have : 1 ≤ n := hsz; omega
    have HN : Hid (∀ W, Calls Tryd.prog 23 #[.int .i64 3, .string ⟨#[46]⟩, .string s] W fun e w' => e = .returned (.tuple #[.agg #[.int .i64 (t.k : Int), .int .i64 0, .string ⟨t.tx.toArray⟩, .bool t.ng, .string ⟨t.dg.toArray⟩, .int .i64 (t.sc : Int)], .int .i64 (n : Int)]) ∧ Below W.heap.size W w') := lhide (fun W => readNamed_any 3 ⟨#[46]⟩ s (some (t, n)) h1 hs (by decide) W)
    clear h1 ho hs hsz
    go_enter Tryd.func15, Tryd.ntmps15
    go_wp2_with fail
    refine (lunhide HN _).mono ?_
    rintro e w2 ⟨rfl, b2⟩
    obtain ⟨w3, e3, z3, g3, ⟨x0, x1, x2, x3, x4, x5⟩⟩ := alloc6 w2 (.int .i64 (t.k : Int)) (.int .i64 0) (.string ⟨t.tx.toArray⟩) (.bool t.ng) (.string ⟨t.dg.toArray⟩) (.int .i64 (t.sc : Int)) 33
    have HB7 := lhide (lunhide HA _ _ (lunhide HA _ _ (lunhide HB6) b2) g3)
    have HE := lhide e3
    clear b2 e3 z3 g3
    go_upto_region 2 with fail
    rw [lunhide HE]
    clear HE
    obtain ⟨⟨y0, y1, y2, y3, y4, y5⟩, ⟨f0, f1, f2, f3, f4, f5⟩, hbw, hltw⟩ := box6 _ _ _ _ _ _ _ _ _ (lunhide HB7)
    have HBW := lhide (And.intro hbw hltw)
    clear hbw hltw
    go_wp2_with fail
    change bodyPost _ _ _ _ _ (w3.setCells w.heap.size 0 [.int .i64 (t.k : Int), .int .i64 0, .string ⟨t.tx.toArray⟩, .bool t.ng, .string ⟨t.dg.toArray⟩, .int .i64 (t.sc : Int)])
    obtain ⟨r0, r1, r2, r3, r4, r5⟩ := res6 w3 w.heap.size (.int .i64 (t.k : Int)) (.int .i64 0) (.string ⟨t.tx.toArray⟩) (.bool t.ng) (.string ⟨t.dg.toArray⟩) (.int .i64 (t.sc : Int)) y0 y1 y2 y3 y4 y5
    have hBV := tset_below (lunhide HBW).1 (G := w.heap.size) (Nat.le_refl _) 0 [.int .i64 (t.k : Int), .int .i64 0, .string ⟨t.tx.toArray⟩, .bool t.ng, .string ⟨t.dg.toArray⟩, .int .i64 (t.sc : Int)]
    generalize w3.setCells w.heap.size 0 [.int .i64 (t.k : Int), .int .i64 0, .string ⟨t.tx.toArray⟩, .bool t.ng, .string ⟨t.dg.toArray⟩, .int .i64 (t.sc : Int)] = V at hBV r0 r1 r2 r3 r4 r5 ⊢
    exact bodyPost_ret (v := .tuple #[.agg #[.int .i64 (t.k : Int), .int .i64 0, .string ⟨t.tx.toArray⟩, .bool t.ng, .string ⟨t.dg.toArray⟩, .int .i64 (t.sc : Int)], .int .i64 (n : Int)]) (by simp [results, Tryd.results15, go_sem, r0, r1, r2, r3, r4, r5]) rfl ⟨rfl, hBV⟩
  | none =>
    rw [h1] at ho
    have HN : Hid (∀ W, Calls Tryd.prog 23 #[.int .i64 3, .string ⟨#[46]⟩, .string s] W fun e w' => e = .returned (.tuple #[.agg #[.int .i64 0, .int .i64 0, .string ⟨#[]⟩, .bool false, .string ⟨#[]⟩, .int .i64 0], .int .i64 0]) ∧ Below W.heap.size W w') := lhide (fun W => readNamed_any 3 ⟨#[46]⟩ s (none) h1 hs (by decide) W)
    match o, ho with
    | none, ho =>
      have HQ : Hid (∀ W, Tabs W → Calls Tryd.prog 24 #[.int .i64 3, .string ⟨#[46]⟩, .string s] W fun e w' => e = .returned (.tuple #[.agg #[.int .i64 0, .int .i64 0, .string ⟨#[]⟩, .bool false, .string ⟨#[]⟩, .int .i64 0], .int .i64 0]) ∧ Below W.heap.size W w') := lhide (fun W h => readQuoted_any 3 ⟨#[46]⟩ s (none) ho hs (by decide) W h)
      clear h1 ho hs
      go_enter Tryd.func15, Tryd.ntmps15
      go_wp2_with fail
      refine (lunhide HN _).mono ?_
      rintro e w2 ⟨rfl, b2⟩
      obtain ⟨w3, e3, z3, g3, ⟨x0, x1, x2, x3, x4, x5⟩⟩ := alloc6 w2 (.int .i64 0) (.int .i64 0) (.string ⟨#[]⟩) (.bool false) (.string ⟨#[]⟩) (.int .i64 0) 33
      have HB7 := lhide (lunhide HA _ _ (lunhide HA _ _ (lunhide HB6) b2) g3)
      have HE := lhide e3
      clear b2 e3 z3 g3
      go_upto_region 2 with fail
      rw [lunhide HE]
      clear HE
      go_wp2_with fail
      refine (lunhide HQ _ (lunhide HT _ (lunhide HB7))).mono ?_
      rintro e w4 ⟨rfl, b4⟩
      have HB8 := lhide (lunhide HA _ _ (lunhide HB7) b4)
      clear b4 x0 x1 x2 x3 x4 x5
      obtain ⟨⟨y0, y1, y2, y3, y4, y5⟩, ⟨f0, f1, f2, f3, f4, f5⟩, hbw, hltw⟩ := box6 _ _ _ _ _ _ _ _ _ (lunhide HB8)
      have HBW := lhide (And.intro hbw hltw)
      clear hbw hltw
      go_wp2_with fail
      change bodyPost _ _ _ _ _ (w4.setCells w.heap.size 0 [.int .i64 0, .int .i64 0, .string ⟨#[]⟩, .bool false, .string ⟨#[]⟩, .int .i64 0])
      obtain ⟨r0, r1, r2, r3, r4, r5⟩ := res6 w4 w.heap.size (.int .i64 0) (.int .i64 0) (.string ⟨#[]⟩) (.bool false) (.string ⟨#[]⟩) (.int .i64 0) y0 y1 y2 y3 y4 y5
      have hBV := tset_below (lunhide HBW).1 (G := w.heap.size) (Nat.le_refl _) 0 [.int .i64 0, .int .i64 0, .string ⟨#[]⟩, .bool false, .string ⟨#[]⟩, .int .i64 0]
      generalize w4.setCells w.heap.size 0 [.int .i64 0, .int .i64 0, .string ⟨#[]⟩, .bool false, .string ⟨#[]⟩, .int .i64 0] = V at hBV r0 r1 r2 r3 r4 r5 ⊢
      exact bodyPost_ret (v := .tuple #[.agg #[.int .i64 0, .int .i64 0, .string ⟨#[]⟩, .bool false, .string ⟨#[]⟩, .int .i64 0], .int .i64 0]) (by simp [results, Tryd.results15, go_sem, r0, r1, r2, r3, r4, r5]) rfl ⟨rfl, hBV⟩
    | some (t, n), ho =>
      have HQ : Hid (∀ W, Tabs W → Calls Tryd.prog 24 #[.int .i64 3, .string ⟨#[46]⟩, .string s] W fun e w' => e = .returned (.tuple #[.agg #[.int .i64 (t.k : Int), .int .i64 0, .string ⟨t.tx.toArray⟩, .bool t.ng, .string ⟨t.dg.toArray⟩, .int .i64 (t.sc : Int)], .int .i64 (n : Int)]) ∧ Below W.heap.size W w') := lhide (fun W h => readQuoted_any 3 ⟨#[46]⟩ s (some (t, n)) ho hs (by decide) W h)
      clear h1 ho hs
      go_enter Tryd.func15, Tryd.ntmps15
      go_wp2_with fail
      refine (lunhide HN _).mono ?_
      rintro e w2 ⟨rfl, b2⟩
      obtain ⟨w3, e3, z3, g3, ⟨x0, x1, x2, x3, x4, x5⟩⟩ := alloc6 w2 (.int .i64 0) (.int .i64 0) (.string ⟨#[]⟩) (.bool false) (.string ⟨#[]⟩) (.int .i64 0) 33
      have HB7 := lhide (lunhide HA _ _ (lunhide HA _ _ (lunhide HB6) b2) g3)
      have HE := lhide e3
      clear b2 e3 z3 g3
      go_upto_region 2 with fail
      rw [lunhide HE]
      clear HE
      go_wp2_with fail
      refine (lunhide HQ _ (lunhide HT _ (lunhide HB7))).mono ?_
      rintro e w4 ⟨rfl, b4⟩
      have HB8 := lhide (lunhide HA _ _ (lunhide HB7) b4)
      clear b4 x0 x1 x2 x3 x4 x5
      obtain ⟨⟨y0, y1, y2, y3, y4, y5⟩, ⟨f0, f1, f2, f3, f4, f5⟩, hbw, hltw⟩ := box6 _ _ _ _ _ _ _ _ _ (lunhide HB8)
      have HBW := lhide (And.intro hbw hltw)
      clear hbw hltw
      go_wp2_with fail
      change bodyPost _ _ _ _ _ (w4.setCells w.heap.size 0 [.int .i64 (t.k : Int), .int .i64 0, .string ⟨t.tx.toArray⟩, .bool t.ng, .string ⟨t.dg.toArray⟩, .int .i64 (t.sc : Int)])
      obtain ⟨r0, r1, r2, r3, r4, r5⟩ := res6 w4 w.heap.size (.int .i64 (t.k : Int)) (.int .i64 0) (.string ⟨t.tx.toArray⟩) (.bool t.ng) (.string ⟨t.dg.toArray⟩) (.int .i64 (t.sc : Int)) y0 y1 y2 y3 y4 y5
      have hBV := tset_below (lunhide HBW).1 (G := w.heap.size) (Nat.le_refl _) 0 [.int .i64 (t.k : Int), .int .i64 0, .string ⟨t.tx.toArray⟩, .bool t.ng, .string ⟨t.dg.toArray⟩, .int .i64 (t.sc : Int)]
      generalize w4.setCells w.heap.size 0 [.int .i64 (t.k : Int), .int .i64 0, .string ⟨t.tx.toArray⟩, .bool t.ng, .string ⟨t.dg.toArray⟩, .int .i64 (t.sc : Int)] = V at hBV r0 r1 r2 r3 r4 r5 ⊢
      exact bodyPost_ret (v := .tuple #[.agg #[.int .i64 (t.k : Int), .int .i64 0, .string ⟨t.tx.toArray⟩, .bool t.ng, .string ⟨t.dg.toArray⟩, .int .i64 (t.sc : Int)], .int .i64 (n : Int)]) (by simp [results, Tryd.results15, go_sem, r0, r1, r2, r3, r4, r5]) rfl ⟨rfl, hBV⟩

theorem part_drop (l : Lx.Tx) (L : List Lx.Tx) (k : Nat) (h : k < L.length) : Lx.partN l (L.drop k) = if Lib.hasPrefix l (L[k]'h) = true ∧ 0 < Lx.runN Lx.digs (l.drop (L[k]'h).length) then (L[k]'h).length + Lx.runN Lx.digs (l.drop (L[k]'h).length) else Lx.partN l (L.drop (k + 1)) := by
  rw [List.drop_eq_getElem_cons h]
  rfl
set_option maxHeartbeats 2000000 in
theorem partSize_any (s : ByteArray) (L : List ByteArray) (n b c q : Nat) (hn : L.length = n) (hq : Lx.partN s.data.toList (L.map (fun x => x.data.toList)) = q) (hs : s.size ≤ 4000) (hL : ∀ x ∈ L, x.size ≤ 2) (hn9 : n ≤ 10) (w : World)
    (hc : ∀ i, ∀ h : i < L.length, w.cell? ⟨b, i, none⟩ = some (.string (L[i]'h))) :
    Calls Tryd.prog 25 #[.string s, .slice (some ⟨b, 0, none⟩) n c] w fun e w' => e = .returned (.int .i64 (q : Int)) ∧ Below w.heap.size w w' := by
  have HQ := lhide hq
  have HC := lhide hc
  have HL := lhide hL
  have HN := lhide hn
  clear hq hc hL hn
  go_enter Tryd.func25, Tryd.ntmps25
  go_wp2_with fail
  go_loopw [12] (fun I wr => ∃ k : Nat, I = .int .i64 (k : Int) ∧ k ≤ n ∧ Hid (Lx.partN s.data.toList ((L.map (fun x => x.data.toList)).drop k) = q) ∧ Below w.heap.size w wr) (fun I _ => n - (intOf I).toNat)
  case atStart => exact ⟨0, rfl, Nat.zero_le _, HQ, Below.refl _ _⟩
  case round =>
    obtain ⟨k, rfl, hk9, HK, hB⟩ := hrel
    by_cases hlt : k < n
    · have hn := lunhide HN
      have hkl : k < L.length := by omega
      obtain ⟨p, hp⟩ : ∃ p, L[k]'hkl = p := ⟨_, rfl⟩
      have hc := lunhide HC k hkl
      rw [hp] at hc
      have hbl : b < w.heap.size := World.block_lt_of_cell? _ _ hc
      have c0 : wr.cell? ⟨b, k, none⟩ = some (.string p) := (hB.cell (p := ⟨b, k, none⟩) hbl).trans hc
      have hps : p.size ≤ 2 := by rw [← hp]; exact lunhide HL _ (List.getElem_mem _)
      have HK2 := lunhide HK
      rw [part_drop _ _ k (by simpa using hkl), List.getElem_map, hp] at HK2
      obtain ⟨pf, hpf⟩ : ∃ b, Lib.hasPrefix s.data.toList p.data.toList = b := ⟨_, rfl⟩
      obtain ⟨r, hr⟩ := ex_txt (Lib.trimPrefix s.data.toList p.data.toList)
      have CP : ∀ W, Calls Tryd.prog 35 #[.string s, .string p] W fun e w' => e = .returned (.tuple #[.string r, .bool pf]) ∧ w' = W := fun W => by
        have := Tryd.strings_CutPrefix s p W
        rw [hr, hpf, mk_of] at this
        exact this
      have hrs : r.size ≤ s.size := by
        have := trimp_len s.data.toList p.data.toList
        rw [hr, lsize, lsize] at this; exact this
      obtain ⟨m, hm⟩ : ∃ m, Lx.runN Lx.digs r.data.toList = m := ⟨_, rfl⟩
      have CS : ∀ W, Calls Tryd.prog 36 #[.string r, .string ⟨#[48, 49, 50, 51, 52, 53, 54, 55, 56, 57]⟩] W fun e w' => e = .returned (.int .i64 (m : Int)) ∧ Below W.heap.size W w' := fun W =>
        ssize_any r ⟨#[48, 49, 50, 51, 52, 53, 54, 55, 56, 57]⟩ m hm (by omega) (by decide) (ascii_of_all (by decide)) W
      have hmr : m ≤ r.size := by
        have := Lx.run_le Lx.digs r.data.toList
        rw [hm, lsize] at this; exact this
      have hi : (k : Int) < (n : Int) := by omega
      have HP := lhide CP
      have HS := lhide CS
      have HB := lhide hB
      cases pf with
      | false =>
        have HK3 : Hid (Lx.partN s.data.toList ((L.map (fun x => x.data.toList)).drop (k + 1)) = q) := lhide (by rw [hpf, if_neg (by simp)] at HK2; exact HK2)
        clear CP CS hn hp hc hps HK2 hpf hr hrs hm hmr HK hB hbl hkl
        go_wp2_with fail
        refine (lunhide HP _).mono ?_
        rintro e w1 ⟨rfl, rfl⟩
        go_wp2_with fail
        refine (lunhide HS _).mono ?_
        rintro e w2 ⟨rfl, b2⟩
        have hB2 := (lunhide HB).trans (b2.mono (lunhide HB).size)
        have HB2 := lhide hB2
        clear b2 c0 hB2
        go_wp2_with fail
        go_roundw
        case rel => exact ⟨k + 1, by go_num, hlt, HK3, lunhide HB2⟩
        case measure => simp [intOf]; omega
      | true =>
        have e : s.data.toList.drop p.data.toList.length = r.data.toList := by
          rw [← hr]; unfold Lib.trimPrefix; rw [if_pos hpf]
        rw [e, hm, hpf, lsize] at HK2
        by_cases hm0 : 0 < m
        · have hq : p.size + m = q := by rw [if_pos ⟨rfl, hm0⟩] at HK2; exact HK2
          have hm1 : (0 : Int) < (m : Int) := by omega
          have hw : IntKind.i64.wrap ((p.size : Int) + (m : Int)) = (q : Int) := by rw [IntKind.wrap_i64]; omega
          have HW := lhide hw
          clear CP CS hn hp hc hps HK2 hpf hr hrs hm hmr HK hB hbl hkl e hq hw hm0
          go_wp2_with fail
          refine (lunhide HP _).mono ?_
          rintro e w1 ⟨rfl, rfl⟩
          go_wp2_with fail
          refine (lunhide HS _).mono ?_
          rintro e w2 ⟨rfl, b2⟩
          have hB2 := (lunhide HB).trans (b2.mono (lunhide HB).size)
          have HB2 := lhide hB2
          have hw := lunhide HW
          clear b2 c0 hB2
          go_wp2_with fail
          go_ret
          exact ⟨rfl, lunhide HB2⟩
        · have HK3 : Hid (Lx.partN s.data.toList ((L.map (fun x => x.data.toList)).drop (k + 1)) = q) := lhide (by rw [if_neg (fun h => hm0 h.2)] at HK2; exact HK2)
          obtain rfl : m = 0 := by omega
          clear CP CS hn hp hc hps HK2 hpf hr hrs hm hmr HK hB hbl hkl e hm0
          go_wp2_with fail
          refine (lunhide HP _).mono ?_
          rintro e w1 ⟨rfl, rfl⟩
          go_wp2_with fail
          refine (lunhide HS _).mono ?_
          rintro e w2 ⟨rfl, b2⟩
          have hB2 := (lunhide HB).trans (b2.mono (lunhide HB).size)
          have HB2 := lhide hB2
          clear b2 c0 hB2
          go_wp2_with fail
          go_roundw
          case rel => exact ⟨k + 1, by go_num, hlt, HK3, lunhide HB2⟩
          case measure => simp [intOf]; omega
    · have hn := lunhide HN
      have hq0 : q = 0 := by
        have := lunhide HK
        rw [List.drop_eq_nil_of_le (by rw [List.length_map]; omega)] at this
        exact this.symm
      subst hq0
      have hi : ¬ (k : Int) < (n : Int) := by omega
      clear HK hn
      go_wp2_with fail
      go_ret
      exact ⟨rfl, hB⟩
end Go.Proofs.YtppkknmgdahniabDoor.Lex
