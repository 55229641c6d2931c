/- What is proved here: the document's own Tidy and Held, walked; conditions: the value lies, and not too many keys, kids and nodes anywhere. -/
import Derived.Test.YtppkknmgdahniaaDoorZVx
import Derived.Test.YtppkknmgdahniaaDoorZYj
namespace Go.Proofs.YtppkknmgdahniaaDoor.Pol
set_option maxRecDepth 100000
open Go.RowKit Go.Proofs.YtppkknmgdahniaaDoor.Nc Go.Proofs.YtppkknmgdahniaaDoor.Np Go.Proofs.YtppkknmgdahniaaDoor.Nq
set_option linter.unusedVariables false
set_option linter.unusedSimpArgs false

set_option maxHeartbeats 4000000 in
set_option maxRecDepth 1000000 in
theorem rtidy_any (ok : Nat → Prop) : ∀ (n : Nat) (v : Value) (t : Tr) (w : World), Lies ok w n v t → okT n t →
    Calls Tryd.prog 26 #[v] w fun e w' => ∃ v', e = .returned v' ∧ Lies (orNew ok w.heap.size) w' n v' (tidyT n t) ∧ Below w.heap.size w w'
  | 0, _, _, _, h, _ => h.elim
  | n + 1, v, t, w, hl, ho => by
    obtain ⟨h, l, ka, kc, a, cap, rfl, rfl, hm64, hkc, hdc, hks, hkid⟩ := hl.node
    by_cases hm : h.m = 0
    · have hlen : l.length ≤ 1000000 := ho.2.1
      have IH := khide (fun (W : World) (v : Value) (t : Tr) (ht : t ∈ l) (hv : Lies (fun b => b < w.heap.size ∧ ok b) W n v t) => rtidy_any (fun b => b < w.heap.size ∧ ok b) n v t W hv (ho.2.2 t ht))
      have HK := khide (show ∀ i, ∀ h : i < l.length, ∃ b o cs, a = some ⟨b, o, none⟩ ∧ (b < w.heap.size ∧ ok b) ∧ b < w.heap.size ∧ Row9 w b (o + i * 9) cs ∧ Lies (fun b => b < w.heap.size ∧ ok b) w n (.agg cs) (l[i]'h) from fun i hi => by
        obtain ⟨b, o, cs, e, hob, hb, hr, hlk⟩ := hkid i hi
        exact ⟨b, o, cs, e, ⟨hb, hob⟩, hb, hr, hlk.weak (fun b hb hq => ⟨hb, hq⟩)⟩)
      have HKS := khide (And.intro hkc hks)
      have heq : tidyT (n + 1) (Tr.mk h l) = Tr.mk h (l.map (tidyT n)) := if_pos hm
      have hmf : ((h.m : Int) != 0) = false := by rw [hm]; rfl
      have hmg : ((h.m : Int) == 0) = true := by rw [hm]; rfl
      rw [heq]
      clear hl ho hkid heq hks hm
      go_enter Tryd.func26, Tryd.ntmps26
      go_wp2_with fail
      go_loopw [3, 4] (fun V I wr => ∃ (k g cp : Nat), I = .int .i64 (k : Int) ∧ k ≤ l.length ∧ V = .slice (some ⟨g, 0, none⟩) k cp ∧ RowOk (fun b => b < w.heap.size ∧ ok b ∨ w.heap.size + 2 ≤ b ∧ b ≠ g) (w.heap.size + 2) wr n g cp ((l.take k).map (tidyT n)) ∧
        Below (w.heap.size + 2) ((w.alloc (.cells #[.int .i64 h.k, .int .u64 (h.m : Int), .bool h.ng, .string h.dg, .int .i64 h.sc, .string h.tx, .slice ka h.ks.length kc, .slice a l.length cap, .int .i64 h.cd] 31)).alloc (.cells #[.int .i64 0, .int .u64 0, .bool false, .string ⟨#[]⟩, .int .i64 0, .string ⟨#[]⟩, .slice none 0 0, .slice none 0 0, .int .i64 0] 31)) wr) (fun V I _ => l.length - (intOf I).toNat)
      case atStart =>
        refine ⟨0, w.heap.size + 2, 0, rfl, Nat.zero_le _, rfl, ?_, (Below.refl _ _).alloc (by simp) _⟩
        have := RowOk.nil (fun b => b < w.heap.size ∧ ok b ∨ w.heap.size + 2 ≤ b ∧ b ≠ w.heap.size + 2) (w.heap.size + 2) n ((w.alloc (.cells #[.int .i64 h.k, .int .u64 (h.m : Int), .bool h.ng, .string h.dg, .int .i64 h.sc, .string h.tx, .slice ka h.ks.length kc, .slice a l.length cap, .int .i64 h.cd] 31)).alloc (.cells #[.int .i64 0, .int .u64 0, .bool false, .string ⟨#[]⟩, .int .i64 0, .string ⟨#[]⟩, .slice none 0 0, .slice none 0 0, .int .i64 0] 31)) (by simp)
        simpa using this
      case round =>
        obtain ⟨k, g, cp, rfl, hk9, rfl, hR, hBx⟩ := hrel
        obtain ⟨b1, b2, f1, f2, hz, hB⟩ := box2 w _ _ _ _ wr (by simpa using hBx)
        have hTl : ((l.take k).map (tidyT n)).length = k := by rw [List.length_map, List.length_take]; omega
        by_cases hlt : k < l.length
        · obtain ⟨b, o, hd2, ka2, kn2, kc2, da2, dn2, dc2, rfl, hb, ⟨c0, c1, c2, c3, c4, c5, c6, c7, c8⟩, hlies⟩ := kid_at (kunhide HK) hB k hlt
          have HC := khide (fun W (hW : Below wr.heap.size wr W) => kunhide IH W _ _ (List.getElem_mem hlt) (hlies.below hW))
          have HRB := khide (And.intro hR (And.intro hBx hB))
          have hi : (k : Int) < (l.length : Int) := by omega
          clear hR hBx hB hlies
          go_wp2_with fail
          refine (kunhide HC _ (Below.refl _ _)).mono ?_
          rintro e W ⟨v', rfl, hlv, hB1⟩
          obtain ⟨hd4, ka4, kn4, kc4, da4, dn4, dc4, rfl⟩ := hlv.shape
          obtain ⟨hR, hBx, hB⟩ := kunhide HRB
          obtain ⟨i0, hi, hz0, hz1, hz2⟩ := info_parts kinfo_val
          have hAl : Below W.heap.size W (W.alloc (.cells #[.int .i64 hd4.k, .int .u64 (hd4.m : Int), .bool hd4.ng, .string hd4.dg, .int .i64 hd4.sc, .string hd4.tx, .slice ka4 kn4 kc4, .slice da4 dn4 dc4, .int .i64 hd4.cd] 31)) := (Below.refl _ W).alloc (Nat.le_refl _) _
          have hgl := hR.lt
          have hws := hB1.size
          have hwz := hBx.size
          rw [show ((w.alloc (.cells #[.int .i64 h.k, .int .u64 (h.m : Int), .bool h.ng, .string h.dg, .int .i64 h.sc, .string h.tx, .slice ka h.ks.length kc, .slice (some ⟨b, o, none⟩) l.length cap, .int .i64 h.cd] 31)).alloc (.cells #[.int .i64 0, .int .u64 0, .bool false, .string ⟨#[]⟩, .int .i64 0, .string ⟨#[]⟩, .slice none 0 0, .slice none 0 0, .int .i64 0] 31)).heap.size = w.heap.size + 2 by simp] at hwz
          have hAl2 := hAl.mono hws
          have hBX := hB1.trans hAl2
          obtain ⟨css, s1, s2, hown, s4⟩ := hR.keep (ok' := fun b => b ≠ g ∧ (b < w.heap.size ∧ ok b ∨ w.heap.size + 2 ≤ b)) (Kept.of_below (ok := anyB) hBX) (fun b hb hq => ⟨trivial, by rcases hq with q | q <;> omega, by rcases hq with q | q; exact .inl q; exact .inr q.1⟩) trivial (Nat.le_refl _)
          have hLX := (hlv.below hAl).weak (ok' := fun b => b ≠ g ∧ (b < w.heap.size ∧ ok b ∨ w.heap.size + 2 ≤ b)) (fun b hb hq => by
            rcases hq with q | q
            · exact ⟨by have := q.2.1; omega, .inl q.2⟩
            · exact ⟨by omega, .inr (by omega)⟩)
          rw [hTl] at hown
          have HS := khide (And.intro s1 (And.intro s2 (And.intro s4 (And.intro hLX (And.intro hgl (And.intro hBx (And.intro hB1 (And.intro hws hwz))))))))
          have HOWN := khide hown
          have hbs : w.heap.size + 2 ≤ W.heap.size := by omega
          clear s1 s2 s4 hLX hgl hBx hB1 hws hwz hown hR hB hAl hAl2 hBX hlv HRB HC c0 c1 c2 c3 c4 c5 c6 c7 c8
          go_wp2_with (at_builtin; go_loud (refine wpList_append_own2 _ rfl _ _ 28 rfl (w.heap.size + 2) 31 i0 (.agg #[.int .i64 0, .int .u64 0, .bool false, .string ⟨#[]⟩, .int .i64 0, .string ⟨#[]⟩, .slice none 0 0, .slice none 0 0, .int .i64 0]) 9 120 Tryd.underlying28 hi hz0 hz1 hz2 rfl (by decide) g cp k css.flatten rfl (kunhide HOWN) ⟨W.heap.size, 0, none⟩ 1 1 [.int .i64 hd4.k, .int .u64 (hd4.m : Int), .bool hd4.ng, .string hd4.dg, .int .i64 hd4.sc, .string hd4.tx, .slice ka4 kn4 kc4, .slice da4 dn4 dc4, .int .i64 hd4.cd] rfl rfl (cells_new _ _ _) (nine_one _ _ _ _ _ _ _ _ _ _ _ _ _) (by unfold maxLen; omega) (by omega) (by simp; omega) ?_))
          intro g3 cap3 X3 hown3 hgr3 hgg3
          obtain ⟨s1, s2, s4, hLX, hgl, hBx, hB1, hws, hwz⟩ := kunhide HS
          have hRM := RowOk.more (cap := cp) (ok2 := fun b => b < w.heap.size ∧ ok b ∨ w.heap.size + 2 ≤ b ∧ b ≠ g3) s1 s2 s4 ⟨rfl, nine_one _ _ _ _ _ _ _ _ _ _ _ _ _⟩ hLX (by rw [hTl]; exact hown3) hgr3 (fun b hb => hb.1) (fun b hb hq => by
            have hgg : g3 = g ∨ W.heap.size + 1 ≤ g3 := by simpa using hgg3
            have hb2 : b < W.heap.size + 1 := by simpa using hb
            rcases hq.2 with q | q
            · exact .inl q
            · exact .inr ⟨q, by have := hq.1; omega⟩)
          have hBW := ((hBx.trans (hB1.mono hwz)).alloc (by omega) (.cells #[.int .i64 hd4.k, .int .u64 (hd4.m : Int), .bool hd4.ng, .string hd4.dg, .int .i64 hd4.sc, .string hd4.tx, .slice ka4 kn4 kc4, .slice da4 dn4 dc4, .int .i64 hd4.cd] 31)).grown hgr3 (by simp; omega) (fun q hq => by have := Option.some.inj hq; omega)
          rw [show (l.take k).map (tidyT n) ++ [tidyT n (l[k]'hlt)] = (l.take (k + 1)).map (tidyT n) by rw [List.take_succ_eq_append_getElem hlt, List.map_append]; rfl] at hRM
          have HF := khide (And.intro hRM hBW)
          clear s1 s2 s4 hLX hgl hBx hB1 hws hwz hRM hBW hown3 hgr3 hgg3 b1 b2 f1 f2 HS HOWN
          go_wp2_with fail
          go_roundw
          case rel => exact ⟨k + 1, g3, cap3, by go_num, hlt, by simp, (kunhide HF).1, (kunhide HF).2⟩
          case measure => simp [intOf]; omega
        · have e1 : ¬ (k : Int) < (l.length : Int) := by omega
          obtain rfl : k = l.length := by omega
          rw [List.take_length] at hR
          have hwz := hBx.size
          have HRS : Hid (∀ r, r < 9 → (wr.cell? ⟨w.heap.size + 1, r, none⟩).isSome = true) := fun r hr => by rw [b2 r, Array.getElem?_eq_getElem (by simpa using hr)]; rfl
          have HR := khide (And.intro hR hB)
          clear hR hB hBx hTl hwz
          go_wp2_with fail
          change bodyPost _ _ _ _ _ ((wr.setCell ⟨w.heap.size, 7, none⟩ (.slice (some ⟨g, 0, none⟩) l.length cp)).setCells (w.heap.size + 1) 0 [.int .i64 h.k, .int .u64 (h.m : Int), .bool h.ng, .string h.dg, .int .i64 h.sc, .string h.tx, .slice ka h.ks.length kc, .slice (some ⟨g, 0, none⟩) l.length cp, .int .i64 h.cd])
          have hB7 := (kunhide HR).2.setCell (p := ⟨w.heap.size, 7, none⟩) (Nat.le_refl _) (.slice (some ⟨g, 0, none⟩) l.length cp)
          have hres := res9 (wr.setCell ⟨w.heap.size, 7, none⟩ (.slice (some ⟨g, 0, none⟩) l.length cp)) (w.heap.size + 1) (.int .i64 h.k) (.int .u64 (h.m : Int)) (.bool h.ng) (.string h.dg) (.int .i64 h.sc) (.string h.tx) (.slice ka h.ks.length kc) (.slice (some ⟨g, 0, none⟩) l.length cp) (.int .i64 h.cd) (fun r hr => by rw [World.cell?_setCell_other _ _ _ _ (fun e => by have := (Addr.mk.inj e).1; omega)]; exact kunhide HRS r hr)
          have hBV := setCells_below hB7 (G := w.heap.size + 1) (by omega) 0 [.int .i64 h.k, .int .u64 (h.m : Int), .bool h.ng, .string h.dg, .int .i64 h.sc, .string h.tx, .slice ka h.ks.length kc, .slice (some ⟨g, 0, none⟩) l.length cp, .int .i64 h.cd]
          have hKV := (setCell_kept (ok := fun b => b ≠ w.heap.size ∧ b ≠ w.heap.size + 1) wr ⟨w.heap.size, 7, none⟩ (.slice (some ⟨g, 0, none⟩) l.length cp) (fun b hb => hb.1)).trans (setCells_kept (ok := fun b => b ≠ w.heap.size ∧ b ≠ w.heap.size + 1) _ (w.heap.size + 1) 0 [.int .i64 h.k, .int .u64 (h.m : Int), .bool h.ng, .string h.dg, .int .i64 h.sc, .string h.tx, .slice ka h.ks.length kc, .slice (some ⟨g, 0, none⟩) l.length cp, .int .i64 h.cd] (fun b hb => hb.2))
          generalize (wr.setCell ⟨w.heap.size, 7, none⟩ (.slice (some ⟨g, 0, none⟩) l.length cp)).setCells (w.heap.size + 1) 0 [.int .i64 h.k, .int .u64 (h.m : Int), .bool h.ng, .string h.dg, .int .i64 h.sc, .string h.tx, .slice ka h.ks.length kc, .slice (some ⟨g, 0, none⟩) l.length cp, .int .i64 h.cd] = V at hres hBV hKV ⊢
          obtain ⟨r0, r1, r2, r3, r4, r5, r6, r7, r8⟩ := hres
          refine bodyPost_ret (v := .agg #[.int .i64 h.k, .int .u64 (h.m : Int), .bool h.ng, .string h.dg, .int .i64 h.sc, .string h.tx, .slice ka h.ks.length kc, .slice (some ⟨g, 0, none⟩) l.length cp, .int .i64 h.cd]) (by simp [results, Tryd.results26, go_sem, r0, r1, r2, r3, r4, r5, r6, r7, r8]) rfl ⟨_, rfl, ?_, hBV⟩
          obtain ⟨hkc, hks⟩ := kunhide HKS
          have hR := (kunhide HR).1
          have hgl := hR.lt
          refine ⟨h, l.map (tidyT n), _, _, rfl, rfl, hm64, ⟨ka, kc, rfl, hkc, fun i hi => ?_⟩, ?_⟩
          · obtain ⟨b, o, e, hob, hbl, hc⟩ := hks i hi
            exact ⟨b, o, e, .inl ⟨hbl, hob⟩, Nat.lt_of_lt_of_le hbl hBV.size, by rw [hBV.cell (p := ⟨b, o + i, none⟩) hbl]; exact hc⟩
          · have hK := (hR.keep (ok' := fun b => b < w.heap.size ∧ ok b ∨ w.heap.size + 2 ≤ b ∧ b ≠ g) hKV (fun b hb hq => ⟨by rcases hq with q | q <;> omega, hq⟩) ⟨by omega, by omega⟩ (Nat.le_refl _)).kids (ok' := orNew ok w.heap.size) (.inr (by omega)) (fun b hb hq => by rcases hq with q | q; exact .inl q; exact .inr (by omega))
            rw [List.length_map] at hK
            exact hK
    · have heq : tidyT (n + 1) (Tr.mk h l) = withT (deepT (n + 1) (Tr.mk h l)) (bareT (n + 1) (Tr.mk h l)) := if_neg hm
      have hmf : ((h.m : Int) != 0) = true := bne_iff_ne.2 (by omega)
      have hmg : ((h.m : Int) == 0) = false := beq_eq_false_iff_ne.2 (by omega)
      have CB : ∀ W, Below w.heap.size w W → Calls Tryd.prog 32 #[.agg #[.int .i64 h.k, .int .u64 (h.m : Int), .bool h.ng, .string h.dg, .int .i64 h.sc, .string h.tx, .slice ka h.ks.length kc, .slice a l.length cap, .int .i64 h.cd]] W
          fun e w' => ∃ v', e = .returned v' ∧ Lies (orNew (fun b => b < w.heap.size ∧ ok b) W.heap.size) w' (n + 1) v' (bareT (n + 1) (Tr.mk h l)) ∧ Below W.heap.size W w' := fun W hW => rbare_any (fun b => b < w.heap.size ∧ ok b) (n + 1) _ _ W ((hl.weak (fun b hb hq => ⟨hb, hq⟩)).below hW) ho
      have CD : ∀ W, Below w.heap.size w W → Calls Tryd.prog 64 #[.agg #[.int .i64 h.k, .int .u64 (h.m : Int), .bool h.ng, .string h.dg, .int .i64 h.sc, .string h.tx, .slice ka h.ks.length kc, .slice a l.length cap, .int .i64 h.cd]] W
          fun e w' => e = .returned (.int .u64 (deepT (n + 1) (Tr.mk h l) : Int)) ∧ deepT (n + 1) (Tr.mk h l) < 18446744073709551616 ∧ Below W.heap.size W w' := fun W hW => rdeep_any (n + 1) _ _ W (hl.any.below hW) ho
      rw [heq]
      generalize deepT (n + 1) (Tr.mk h l) = D at CD ⊢
      generalize bareT (n + 1) (Tr.mk h l) = T at CB ⊢
      have HCB := khide CB
      have HCD := khide CD
      obtain ⟨O1, hO1⟩ : ∃ O1, Obj.cells #[.int .i64 h.k, .int .u64 (h.m : Int), .bool h.ng, .string h.dg, .int .i64 h.sc, .string h.tx, .slice ka h.ks.length kc, .slice a l.length cap, .int .i64 h.cd] 31 = O1 := ⟨_, rfl⟩
      have hS : Below w.heap.size w w := Below.refl _ _
      clear CB CD hl ho hks hkid hm heq hO1
      go_enter Tryd.func26, Tryd.ntmps26
      go_wp2_with fail
      have hT : Below ((w.alloc (.cells #[.int .i64 h.k, .int .u64 (h.m : Int), .bool h.ng, .string h.dg, .int .i64 h.sc, .string h.tx, .slice ka h.ks.length kc, .slice a l.length cap, .int .i64 h.cd] 31)).alloc (.cells #[.int .i64 0, .int .u64 0, .bool false, .string ⟨#[]⟩, .int .i64 0, .string ⟨#[]⟩, .slice none 0 0, .slice none 0 0, .int .i64 0] 31)).heap.size ((w.alloc (.cells #[.int .i64 h.k, .int .u64 (h.m : Int), .bool h.ng, .string h.dg, .int .i64 h.sc, .string h.tx, .slice ka h.ks.length kc, .slice a l.length cap, .int .i64 h.cd] 31)).alloc (.cells #[.int .i64 0, .int .u64 0, .bool false, .string ⟨#[]⟩, .int .i64 0, .string ⟨#[]⟩, .slice none 0 0, .slice none 0 0, .int .i64 0] 31)) ((w.alloc (.cells #[.int .i64 h.k, .int .u64 (h.m : Int), .bool h.ng, .string h.dg, .int .i64 h.sc, .string h.tx, .slice ka h.ks.length kc, .slice a l.length cap, .int .i64 h.cd] 31)).alloc (.cells #[.int .i64 0, .int .u64 0, .bool false, .string ⟨#[]⟩, .int .i64 0, .string ⟨#[]⟩, .slice none 0 0, .slice none 0 0, .int .i64 0] 31)).drew := (Below.refl _ _).drew
      have HT0 := khide hT
      obtain ⟨p1, p2, p3, p4, hz, hS⟩ := box2 w _ _ _ _ _ hT
      clear p1 p2 p3 p4
      go_region_with (first
        | (go_at_call 32; refine (kunhide HCB _ hS).mono ?_; rintro e w1 ⟨v1, rfl, hl1, hb1⟩; replace hl1 := hl1.weak (ok' := fun b => b < w.heap.size ∧ ok b ∨ w.heap.size + 2 ≤ b) (fun b _ hb => (by rcases hb with q | q; exact .inl q.2; exact .inr (by omega))); replace hT := hT.trans (hb1.mono hT.size); (try clear b1 b2 f1 f2); clear hz hS; obtain ⟨b1, b2, f1, f2, hz, hS⟩ := box2 w _ _ _ _ _ hT; clear hb1)
        | (go_at_call 64; refine (kunhide HCD _ hS).mono ?_; rintro e w2 ⟨rfl, hd9, hb2⟩; (first | (replace hl1 := Lies.below hb2 hl1) | skip); replace hT := hT.trans (hb2.mono hT.size); (try clear b1 b2 f1 f2); clear hz hS; obtain ⟨b1, b2, f1, f2, hz, hS⟩ := box2 w _ _ _ _ _ hT; clear hb2)
        | (go_at_call 33; refine (rwith_any _ (n + 1) v1 T D _ hl1 hd9).mono ?_; rintro e w3 ⟨v2, rfl, hl2, hb3⟩; replace hT := hT.trans (hb3.mono hT.size); clear b1 b2 f1 f2 hz hS; obtain ⟨b1, b2, f1, f2, hz, hS⟩ := box2 w _ _ _ _ _ hT; obtain ⟨hd4, ka4, kn4, kc4, da4, dn4, dc4, rfl⟩ := hl2.shape; clear hb3 hl1))
      all_goals
        have rs : ∀ r, r < 9 → (w3.cell? ⟨w.heap.size + 1, r, none⟩).isSome = true := fun r hr => (by rw [b2 r, Array.getElem?_eq_getElem (by simpa using hr)]; rfl)
        have HRS := khide rs
        have HLV := khide hl2
        have HB := khide hS
        clear rs hl2 hS hT b1 b2 f1 f2
        go_wp2_with fail
        change bodyPost _ _ _ _ _ (w3.setCells (w.heap.size + 1) 0 [.int .i64 hd4.k, .int .u64 (hd4.m : Int), .bool hd4.ng, .string hd4.dg, .int .i64 hd4.sc, .string hd4.tx, .slice ka4 kn4 kc4, .slice da4 dn4 dc4, .int .i64 hd4.cd])
        have hres := res9 w3 (w.heap.size + 1) (.int .i64 hd4.k) (.int .u64 (hd4.m : Int)) (.bool hd4.ng) (.string hd4.dg) (.int .i64 hd4.sc) (.string hd4.tx) (.slice ka4 kn4 kc4) (.slice da4 dn4 dc4) (.int .i64 hd4.cd) (kunhide HRS)
        have hBV := setCells_below (kunhide HB) (G := w.heap.size + 1) (by omega) 0 [.int .i64 hd4.k, .int .u64 (hd4.m : Int), .bool hd4.ng, .string hd4.dg, .int .i64 hd4.sc, .string hd4.tx, .slice ka4 kn4 kc4, .slice da4 dn4 dc4, .int .i64 hd4.cd]
        have hKV := setCells_kept (ok := fun b => b < w.heap.size ∧ ok b ∨ w.heap.size + 2 ≤ b) w3 (w.heap.size + 1) 0 [.int .i64 hd4.k, .int .u64 (hd4.m : Int), .bool hd4.ng, .string hd4.dg, .int .i64 hd4.sc, .string hd4.tx, .slice ka4 kn4 kc4, .slice da4 dn4 dc4, .int .i64 hd4.cd] (fun b hb e => by omega)
        generalize w3.setCells (w.heap.size + 1) 0 [.int .i64 hd4.k, .int .u64 (hd4.m : Int), .bool hd4.ng, .string hd4.dg, .int .i64 hd4.sc, .string hd4.tx, .slice ka4 kn4 kc4, .slice da4 dn4 dc4, .int .i64 hd4.cd] = V at hres hBV hKV ⊢
        obtain ⟨r0, r1, r2, r3, r4, r5, r6, r7, r8⟩ := hres
        refine bodyPost_ret (v := .agg #[.int .i64 hd4.k, .int .u64 (hd4.m : Int), .bool hd4.ng, .string hd4.dg, .int .i64 hd4.sc, .string hd4.tx, .slice ka4 kn4 kc4, .slice da4 dn4 dc4, .int .i64 hd4.cd]) (by simp [results, Tryd.results26, go_sem, r0, r1, r2, r3, r4, r5, r6, r7, r8]) rfl ⟨_, rfl, ?_, hBV⟩
        exact (kunhide HLV).keep hKV (fun b _ hb => by rcases hb with q | q; exact .inl q; exact .inr (by omega))
set_option maxHeartbeats 2000000 in
set_option maxRecDepth 1000000 in
theorem rheld_any (ok : Nat → Prop) : ∀ (n : Nat) (v : Value) (t : Tr) (w : World), Lies ok w n v t → sizeT n t ≤ 1000000 →
    Calls Tryd.prog 27 #[v] w fun e w' => e = .returned (.int .i64 (heldT n t : Int)) ∧ Below w.heap.size w w'
  | 0, _, _, _, h, _ => h.elim
  | n + 1, v, t, w, hl, hs => by
    obtain ⟨h, l, ka, kc, a, cap, rfl, rfl, hm64, hkc, hdc, hks, hkid⟩ := hl.node
    have IH := phide (rheld_any ok n)
    have HKID := phide hkid
    have hB1 : Below w.heap.size w (w.alloc (.cells #[.int .i64 h.k, .int .u64 (h.m : Int), .bool h.ng, .string h.dg, .int .i64 h.sc, .string h.tx, .slice ka h.ks.length kc, .slice a l.length cap, .int .i64 h.cd] 31)) := (Below.refl _ _).alloc (Nat.le_refl _) _
    have x1 : (w.alloc (.cells #[.int .i64 h.k, .int .u64 (h.m : Int), .bool h.ng, .string h.dg, .int .i64 h.sc, .string h.tx, .slice ka h.ks.length kc, .slice a l.length cap, .int .i64 h.cd] 31)).cell? ⟨w.heap.size, 1, none⟩ = some (.int .u64 (h.m : Int)) := World.cell?_alloc_at _ _ _ _ rfl
    have x7 : (w.alloc (.cells #[.int .i64 h.k, .int .u64 (h.m : Int), .bool h.ng, .string h.dg, .int .i64 h.sc, .string h.tx, .slice ka h.ks.length kc, .slice a l.length cap, .int .i64 h.cd] 31)).cell? ⟨w.heap.size, 7, none⟩ = some (.slice a l.length cap) := World.cell?_alloc_at _ _ _ _ rfl
    have hlt0 : w.heap.size < (w.alloc (.cells #[.int .i64 h.k, .int .u64 (h.m : Int), .bool h.ng, .string h.dg, .int .i64 h.sc, .string h.tx, .slice ka h.ks.length kc, .slice a l.length cap, .int .i64 h.cd] 31)).heap.size := by simp
    have hsum : (l.map (sizeT n)).sum ≤ 1000000 := by
      have : 1 + (l.map (sizeT n)).sum ≤ 1000000 := hs
      omega
    have hlen : l.length ≤ 1000000 := Nat.le_trans (len_le_sum _ (sizeT_pos n) l) hsum
    have HS := phide hsum
    obtain ⟨S, hS⟩ : ∃ S, heldT (n + 1) (Tr.mk h l) = S := ⟨_, rfl⟩
    rw [hS]
    have HBB := phide hB1
    by_cases hm : h.m = 0
    · have hmf : ((h.m : Int) != 0) = false := by rw [hm]; rfl
      have hmg : ((h.m : Int) == 0) = true := by rw [hm]; rfl
      have HE : Hid (1 + (l.map (heldT n)).sum = S) := phide (by rw [← hS]; exact (held_zero (n := n) (t := Tr.mk h l) hm).symm)
      clear hm hs hS hsum hl hkid hks hkc hdc hB1
      go_enter Tryd.func27, Tryd.ntmps27
      go_upto_region 1 with fail
      have hB1 := punhide HBB
      clear HBB
      generalize w.alloc (.cells #[.int .i64 h.k, .int .u64 (h.m : Int), .bool h.ng, .string h.dg, .int .i64 h.sc, .string h.tx, .slice ka h.ks.length kc, .slice a l.length cap, .int .i64 h.cd] 31) = w1 at hB1 x1 x7 hlt0 ⊢
      go_wp2_with fail
      go_loopw [3, 4] (fun c i wr => ∃ k s : Nat, i = .int .i64 (k : Int) ∧ k ≤ l.length ∧ c = .int .i64 (s : Int) ∧ Hid (s = 1 + ((l.take k).map (heldT n)).sum) ∧ Below w1.heap.size w1 wr) (fun _ i _ => l.length - (intOf i).toNat)
      case atStart => exact ⟨0, 1, rfl, by omega, rfl, phide rfl, Below.refl _ _⟩
      case round =>
        obtain ⟨k, s, rfl, hk9, rfl, HSV, hBr⟩ := hrel
        have y1 := (hBr.cell (p := ⟨w.heap.size, 1, none⟩) hlt0).trans x1
        have y7 := (hBr.cell (p := ⟨w.heap.size, 7, none⟩) hlt0).trans x7
        have hB : Below w.heap.size w wr := hB1.trans (hBr.mono hB1.size)
        by_cases hlt : k < l.length
        · obtain ⟨b, o, hd2, ka2, kn2, kc2, da2, dn2, dc2, hao, hb, ⟨c0, c1, c2, c3, c4, c5, c6, c7, c8⟩, hlies⟩ := kid_at (punhide HKID) hB k hlt
          subst hao
          have h1 := take_sum (heldT n) l k hlt
          have h2 : ((l.take (k + 1)).map (heldT n)).sum ≤ 1000000 := Nat.le_trans (take_sum_le _ l _) (Nat.le_trans (map_sum_le _ _ (held_le n) l) (punhide HS))
          obtain ⟨x, hx⟩ : ∃ x, heldT n (l[k]'hlt) = x := ⟨_, rfl⟩
          have hsv := punhide HSV
          have h3 : s + x = 1 + ((l.take (k + 1)).map (heldT n)).sum := by omega
          have h4 : s + x ≤ 1000001 := by omega
          have hw4 : IntKind.i64.wrap ((s : Int) + (x : Int)) = ((s + x : Nat) : Int) := by rw [IntKind.wrap_i64]; omega
          have C := punhide IH _ (l[k]'hlt) wr hlies (Nat.le_trans (at_le_sum _ l k hlt) (punhide HS))
          rw [hx] at C
          have H3 := phide h3
          have HBR := phide hBr
          have hi : (k : Int) < (l.length : Int) := by omega
          have hi2 : decide ((k : Int) < (l.length : Int)) = true := decide_eq_true hi
          clear h1 h2 h3 hx hsv hBr hB hlies
          go_wp2_with fail
          refine C.mono ?_
          rintro e W ⟨rfl, b2⟩
          have HB3 := phide (below_next (punhide HBR) b2)
          clear C b2 c0 c1 c2 c3 c4 c5 c6 c7 c8 y1 y7
          go_wp2_with fail
          go_roundw
          case rel => exact ⟨k + 1, s + x, by go_num, hlt, by go_num, H3, punhide HB3⟩
          case measure => simp [intOf]; omega
        · have hke : S = s := by rw [punhide HSV, List.take_of_length_le (by omega)]; exact (punhide HE).symm
          subst hke
          have hi : ¬ (k : Int) < (l.length : Int) := by omega
          have hi2 : decide ((k : Int) < (l.length : Int)) = false := decide_eq_false hi
          have HB3 := phide hB
          clear hBr hB
          go_wp2_with fail
          go_ret
          exact ⟨rfl, punhide HB3⟩
    · have hmf : ((h.m : Int) != 0) = true := bne_iff_ne.2 (by omega)
      have hmg : ((h.m : Int) == 0) = false := beq_eq_false_iff_ne.2 (by omega)
      have hm2 : ¬ (h.m : Int) = 0 := by omega
      obtain rfl : S = 1 := by rw [← hS]; exact held_some (n := n) (t := Tr.mk h l) hm
      clear hm hs hS hsum hl hkid hks hkc hdc hB1
      go_enter Tryd.func27, Tryd.ntmps27
      go_upto_region 1 with fail
      have hB1 := punhide HBB
      clear HBB
      generalize w.alloc (.cells #[.int .i64 h.k, .int .u64 (h.m : Int), .bool h.ng, .string h.dg, .int .i64 h.sc, .string h.tx, .slice ka h.ks.length kc, .slice a l.length cap, .int .i64 h.cd] 31) = w1 at hB1 x1 x7 hlt0 ⊢
      go_wp2_with fail
      go_loopw [3, 4] (fun c i wr => i = .int .i64 0 ∧ c = .int .i64 1 ∧ wr = w1) (fun _ i _ => 0)
      case atStart => exact ⟨rfl, rfl, rfl⟩
      case round =>
        obtain ⟨rfl, rfl, rfl⟩ := hrel
        by_cases hlt : 0 < l.length
        · have hi : (0 : Int) < (l.length : Int) := by omega
          have hi2 : decide ((0 : Int) < (l.length : Int)) = true := decide_eq_true hi
          go_wp2_with fail
          go_ret
          exact ⟨rfl, hB1⟩
        · have hi : ¬ (0 : Int) < (l.length : Int) := by omega
          have hi2 : decide ((0 : Int) < (l.length : Int)) = false := decide_eq_false hi
          go_wp2_with fail
          go_ret
          exact ⟨rfl, hB1⟩
end Go.Proofs.YtppkknmgdahniaaDoor.Pol
