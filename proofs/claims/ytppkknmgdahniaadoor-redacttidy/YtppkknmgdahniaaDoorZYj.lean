/- What is proved here: how what is told of trees hangs together: bare, tidy, with, deep, held, flat. What is proved here: what the statements' own flat answers, walked. -/
import Derived.Test.YtppkknmgdahniaaDoorZDf
import Derived.Deep.RegionWith
import Derived.Test.YtppkknmgdahniaaDoorZDg
import Derived.Deep.LoopGhost
import Derived.Test.YtppkknmgdahniaaDoorZDd
import Derived.Test.YtppkknmgdahniaaDoorZDb
namespace Go.Proofs.YtppkknmgdahniaaDoor
set_option maxRecDepth 100000
set_option linter.unusedVariables false
set_option linter.unusedSimpArgs false

theorem fold_or (f : Tr → Nat) : ∀ (l : List Tr) (a : Nat), l.foldl (fun a k => a ||| f k) a = a ||| l.foldl (fun a k => a ||| f k) 0
  | [], a => by simp
  | k :: r, a => by
    rw [List.foldl_cons, List.foldl_cons, fold_or f r (a ||| f k), fold_or f r (0 ||| f k), Nat.zero_or, Nat.or_assoc]
theorem or_ne (m x : Nat) (h : m ≠ 0) : m ||| x ≠ 0 := by
  intro e
  have := Nat.or_eq_zero_iff.1 e
  exact h this.1
theorem deep_own (n : Nat) (t : Tr) : ∃ x, deepT (n + 1) t = (Tr.hd t).m ||| x := ⟨_, fold_or _ _ _⟩
theorem tidy_zero {n : Nat} {t : Tr} (h : (Tr.hd t).m = 0) : tidyT (n + 1) t = Tr.mk (Tr.hd t) ((Tr.kd t).map (tidyT n)) := if_pos h
theorem tidy_some {n : Nat} {t : Tr} (h : ¬ (Tr.hd t).m = 0) : tidyT (n + 1) t = withT (deepT (n + 1) t) (bareT (n + 1) t) := if_neg h
theorem deep_ne {n : Nat} {t : Tr} (h : ¬ (Tr.hd t).m = 0) : deepT (n + 1) t ≠ 0 := by
  obtain ⟨x, hx⟩ := deep_own n t
  rw [hx]
  exact or_ne _ _ h
theorem with_mask (D n : Nat) (t : Tr) : (Tr.hd (withT D (bareT (n + 1) t))).m = D := Nat.zero_or D
theorem held_zero {n : Nat} {t : Tr} (h : (Tr.hd t).m = 0) : heldT (n + 1) t = 1 + ((Tr.kd t).map (heldT n)).sum := if_pos h
theorem held_some {n : Nat} {t : Tr} (h : ¬ (Tr.hd t).m = 0) : heldT (n + 1) t = 1 := if_neg h
theorem held_tidy : ∀ (n : Nat) (t : Tr), heldT n (tidyT n t) = heldT n t
  | 0, _ => rfl
  | n + 1, t => by
    by_cases h : (Tr.hd t).m = 0
    · rw [tidy_zero h, held_zero (by exact h), held_zero h]
      show 1 + (((Tr.kd t).map (tidyT n)).map (heldT n)).sum = _
      rw [List.map_map]
      exact congrArg (fun z => 1 + List.sum z) (List.map_congr_left (fun k _ => held_tidy n k))
    · rw [tidy_some h, held_some (by rw [with_mask]; exact deep_ne h), held_some h]
theorem size_bare : ∀ (n : Nat) (t : Tr), sizeT n (bareT n t) = sizeT n t
  | 0, _ => rfl
  | n + 1, t => by
    show 1 + (((Tr.kd t).map (bareT n)).map (sizeT n)).sum = 1 + ((Tr.kd t).map (sizeT n)).sum
    rw [List.map_map]
    exact congrArg (fun z => 1 + List.sum z) (List.map_congr_left (fun k _ => size_bare n k))
theorem size_tidy : ∀ (n : Nat) (t : Tr), sizeT n (tidyT n t) = sizeT n t
  | 0, _ => rfl
  | n + 1, t => by
    by_cases h : (Tr.hd t).m = 0
    · rw [tidy_zero h]
      show 1 + (((Tr.kd t).map (tidyT n)).map (sizeT n)).sum = 1 + ((Tr.kd t).map (sizeT n)).sum
      rw [List.map_map]
      exact congrArg (fun z => 1 + List.sum z) (List.map_congr_left (fun k _ => size_tidy n k))
    · rw [tidy_some h]
      exact size_bare (n + 1) t
theorem ok_bare : ∀ (n : Nat) (t : Tr), okT n t → okT n (bareT n t)
  | 0, _, _ => trivial
  | n + 1, t, h => ⟨h.1, by rw [show (Tr.kd (bareT (n + 1) t)).length = (Tr.kd t).length from List.length_map _]; exact h.2.1, fun k hk => by
    obtain ⟨x, hx, rfl⟩ := List.mem_map.1 hk
    exact ok_bare n x (h.2.2 x hx)⟩
theorem ok_tidy : ∀ (n : Nat) (t : Tr), okT n t → okT n (tidyT n t)
  | 0, _, _ => trivial
  | n + 1, t, h => by
    by_cases e : (Tr.hd t).m = 0
    · rw [tidy_zero e]
      exact ⟨h.1, by rw [show (Tr.kd (Tr.mk (Tr.hd t) ((Tr.kd t).map (tidyT n)))).length = (Tr.kd t).length from List.length_map _]; exact h.2.1, fun k hk => by
        obtain ⟨x, hx, rfl⟩ := List.mem_map.1 hk
        exact ok_tidy n x (h.2.2 x hx)⟩
    · rw [tidy_some e]
      exact ok_bare (n + 1) t h
end Go.Proofs.YtppkknmgdahniaaDoor

namespace Go.Proofs.YtppkknmgdahniaaDoor
set_option maxRecDepth 100000
open Go.RowKit
set_option linter.unusedVariables false
set_option linter.unusedSimpArgs false

end Go.Proofs.YtppkknmgdahniaaDoor
/- What is proved here: what the document's own Bare makes of a value, walked; condition: not too many keys and kids anywhere. What is proved here: cmp.Compare of ints, and what the statements' own null and one answer. What is proved here: what package tree's Cmp answers of values of two kinds, and of lists; May of null. What is proved here: what package tree's May answers of null. What is proved here: the document's examples of the statements of trees hold. What is proved here: the document's examples, which stand at the head of the statements of trees, hold. -/
namespace Go.Proofs.YtppkknmgdahniaaDoor
set_option maxRecDepth 100000
open Go.RowKit
set_option linter.unusedVariables false
set_option linter.unusedSimpArgs false

/-- A value more, in a row that is owned. -/
theorem RowOk.more {ok1 ok2 : Nat → Prop} {lo d g cap g' cap' : Nat} {w w' : World} {Ts : List Tr} {css : List (List Value)} {c : List Value} {t : Tr} (h1 : css.length = Ts.length) (h2 : ∀ c, c ∈ css → c.length = 9 ∧ ∀ u, u ∈ c → u.oneCell' = true)
    (h4 : ∀ j, ∀ h1 : j < css.length, ∀ h2 : j < Ts.length, Lies ok1 w d (.agg (css[j]'h1).toArray) (Ts[j]'h2))
    (hc : c.length = 9 ∧ ∀ u, u ∈ c → u.oneCell' = true) (hl : Lies ok1 w d (.agg c.toArray) t)
    (hown : w'.ownsRow lo 31 9 (.slice (some ⟨g', 0, none⟩) (Ts.length + 1) cap') (Ts.length + 1) (css.flatten ++ c)) (hgr : w.grownBy w' (some g)) (hng : ∀ b, ok1 b → b ≠ g) (hi : ∀ b, b < w.heap.size → ok1 b → ok2 b) : RowOk ok2 lo w' d g' cap' (Ts ++ [t]) := by
  have hkept : Kept ok1 w w' := ⟨hgr.size, fun b hb hlb => hgr.block b hlb (fun e => hng b hb (Option.some.inj e))⟩
  refine ⟨css ++ [c], by simp [h1], ?_, ?_, ?_⟩
  · intro x hx
    rcases List.mem_append.1 hx with hx | hx
    · exact h2 x hx
    · rw [List.mem_singleton.1 hx]; exact hc
  · rw [List.flatten_append, List.length_append]
    simpa using hown
  · intro j j1 j2
    by_cases e : j < css.length
    · rw [List.getElem_append_left e, List.getElem_append_left (by omega)]
      exact (h4 j e (by omega)).keep hkept hi
    · have e2 : j = css.length := by simp at j1; omega
      subst e2
      rw [List.getElem_append_right (by omega), List.getElem_append_right (by omega)]
      simp only [h1, Nat.sub_self, List.getElem_cons_zero]
      exact hl.keep hkept hi
theorem RowOk.lt {ok : Nat → Prop} {lo d g cap : Nat} {w : World} {Ts : List Tr} (h : RowOk ok lo w d g cap Ts) : lo ≤ g ∧ g < w.heap.size ∧ Ts.length ≤ cap := by
  obtain ⟨css, _, _, hown, _⟩ := h
  have h1 := hown.lt g rfl
  refine ⟨h1.1, h1.2, ?_⟩
  rcases hown.2 with ⟨e, _⟩ | ⟨g', cap', cur, hv, _, _, hnc, _⟩
  · cases e
  · rw [(Value.slice.inj hv).2.2]
    exact hnc
theorem RowOk.nil (ok : Nat → Prop) (lo d : Nat) (W : World) (hlo : lo ≤ W.heap.size) : RowOk ok lo (W.alloc (.cells #[] 31)) d W.heap.size 0 [] :=
  ⟨[], rfl, fun c hc => absurd hc (by simp), World.ownsRow_made W #[] 0 hlo (by decide) rfl, fun j h1 h2 => absurd h1 (by simp)⟩
/-- Where a copy may lie: where the first one does, or in new blocks. -/
def orNew (ok : Nat → Prop) (s : Nat) (b : Nat) : Prop := b < s ∧ ok b ∨ s ≤ b

set_option maxHeartbeats 4000000 in
set_option maxRecDepth 1000000 in
theorem rbare_any (ok : Nat → Prop) : ∀ (n : Nat) (v : Value) (t : Tr) (w : World), Lies ok w n v t → okT n t →
    Calls Tryd.prog 32 #[v] w fun e w' => ∃ v', e = .returned v' ∧ Lies (orNew ok w.heap.size) w' n v' (bareT n t) ∧ Below w.heap.size w w'
  | 0, _, _, _, h, _ => h.elim
  | n + 1, v, t, w, hl, ho => by
    obtain ⟨h, l, ka, kc, a, cap, rfl, rfl, hm64, hkc, hdc, hks, hkid⟩ := hl.node
    have hlen : l.length ≤ 1000000 := ho.2.1
    have IH := khide (fun (W : World) (v : Value) (t : Tr) (ht : t ∈ l) (hv : Lies (fun b => b < w.heap.size ∧ ok b) W n v t) => rbare_any (fun b => b < w.heap.size ∧ ok b) n v t W hv (ho.2.2 t ht))
    have HK := khide (show ∀ i, ∀ h : i < l.length, ∃ b o cs, a = some ⟨b, o, none⟩ ∧ (b < w.heap.size ∧ ok b) ∧ b < w.heap.size ∧ Row9 w b (o + i * 9) cs ∧ Lies (fun b => b < w.heap.size ∧ ok b) w n (.agg cs) (l[i]'h) from fun i hi => by
      obtain ⟨b, o, cs, e, hob, hb, hr, hlk⟩ := hkid i hi
      exact ⟨b, o, cs, e, ⟨hb, hob⟩, hb, hr, hlk.weak (fun b hb hq => ⟨hb, hq⟩)⟩)
    have HKS := khide (And.intro hkc hks)
    have heq : bareT (n + 1) (Tr.mk h l) = Tr.mk { h with m := 0 } (l.map (bareT n)) := rfl
    rw [heq]
    clear hl ho hkid heq hks
    go_enter Tryd.func32, Tryd.ntmps32
    go_wp2_with fail
    go_loopw [3, 4] (fun V I wr => ∃ (k g cp : Nat), I = .int .i64 (k : Int) ∧ k ≤ l.length ∧ V = .slice (some ⟨g, 0, none⟩) k cp ∧ RowOk (fun b => b < w.heap.size ∧ ok b ∨ w.heap.size + 2 ≤ b ∧ b ≠ g) (w.heap.size + 2) wr n g cp ((l.take k).map (bareT n)) ∧
      Below (w.heap.size + 2) ((w.alloc (.cells #[.int .i64 h.k, .int .u64 0, .bool h.ng, .string h.dg, .int .i64 h.sc, .string h.tx, .slice ka h.ks.length kc, .slice a l.length cap, .int .i64 h.cd] 31)).alloc (.cells #[.int .i64 0, .int .u64 0, .bool false, .string ⟨#[]⟩, .int .i64 0, .string ⟨#[]⟩, .slice none 0 0, .slice none 0 0, .int .i64 0] 31)) wr) (fun V I _ => l.length - (intOf I).toNat)
    case atStart =>
      refine ⟨0, w.heap.size + 2, 0, rfl, Nat.zero_le _, rfl, ?_, (Below.refl _ _).alloc (by simp) _⟩
      have := RowOk.nil (fun b => b < w.heap.size ∧ ok b ∨ w.heap.size + 2 ≤ b ∧ b ≠ w.heap.size + 2) (w.heap.size + 2) n ((w.alloc (.cells #[.int .i64 h.k, .int .u64 0, .bool h.ng, .string h.dg, .int .i64 h.sc, .string h.tx, .slice ka h.ks.length kc, .slice a l.length cap, .int .i64 h.cd] 31)).alloc (.cells #[.int .i64 0, .int .u64 0, .bool false, .string ⟨#[]⟩, .int .i64 0, .string ⟨#[]⟩, .slice none 0 0, .slice none 0 0, .int .i64 0] 31)) (by simp)
      simpa using this
    case round =>
      obtain ⟨k, g, cp, rfl, hk9, rfl, hR, hBx⟩ := hrel
      obtain ⟨b1, b2, f1, f2, hz, hB⟩ := box2 w _ _ _ _ wr (by simpa using hBx)
      have hTl : ((l.take k).map (bareT n)).length = k := by rw [List.length_map, List.length_take]; omega
      by_cases hlt : k < l.length
      · obtain ⟨b, o, hd2, ka2, kn2, kc2, da2, dn2, dc2, rfl, hb, ⟨c0, c1, c2, c3, c4, c5, c6, c7, c8⟩, hlies⟩ := kid_at (kunhide HK) hB k hlt
        have HC := khide (fun W (hW : Below wr.heap.size wr W) => kunhide IH W _ _ (List.getElem_mem hlt) (hlies.below hW))
        have HRB := khide (And.intro hR (And.intro hBx hB))
        have hi : (k : Int) < (l.length : Int) := by omega
        clear hR hBx hB hlies
        go_wp2_with fail
        refine (kunhide HC _ (Below.refl _ _)).mono ?_
        rintro e W ⟨v', rfl, hlv, hB1⟩
        obtain ⟨hd4, ka4, kn4, kc4, da4, dn4, dc4, rfl⟩ := hlv.shape
        obtain ⟨hR, hBx, hB⟩ := kunhide HRB
        obtain ⟨i0, hi, hz0, hz1, hz2⟩ := info_parts kinfo_val
        have hAl : Below W.heap.size W (W.alloc (.cells #[.int .i64 hd4.k, .int .u64 (hd4.m : Int), .bool hd4.ng, .string hd4.dg, .int .i64 hd4.sc, .string hd4.tx, .slice ka4 kn4 kc4, .slice da4 dn4 dc4, .int .i64 hd4.cd] 31)) := (Below.refl _ W).alloc (Nat.le_refl _) _
        have hgl := hR.lt
        have hws := hB1.size
        have hwz := hBx.size
        rw [show ((w.alloc (.cells #[.int .i64 h.k, .int .u64 0, .bool h.ng, .string h.dg, .int .i64 h.sc, .string h.tx, .slice ka h.ks.length kc, .slice (some ⟨b, o, none⟩) l.length cap, .int .i64 h.cd] 31)).alloc (.cells #[.int .i64 0, .int .u64 0, .bool false, .string ⟨#[]⟩, .int .i64 0, .string ⟨#[]⟩, .slice none 0 0, .slice none 0 0, .int .i64 0] 31)).heap.size = w.heap.size + 2 by simp] at hwz
        have hAl2 := hAl.mono hws
        have hBX := hB1.trans hAl2
        obtain ⟨css, s1, s2, hown, s4⟩ := hR.keep (ok' := fun b => b ≠ g ∧ (b < w.heap.size ∧ ok b ∨ w.heap.size + 2 ≤ b)) (Kept.of_below (ok := anyB) hBX) (fun b hb hq => ⟨trivial, by rcases hq with q | q <;> omega, by rcases hq with q | q; exact .inl q; exact .inr q.1⟩) trivial (Nat.le_refl _)
        have hLX := (hlv.below hAl).weak (ok' := fun b => b ≠ g ∧ (b < w.heap.size ∧ ok b ∨ w.heap.size + 2 ≤ b)) (fun b hb hq => by
          rcases hq with q | q
          · exact ⟨by have := q.2.1; omega, .inl q.2⟩
          · exact ⟨by omega, .inr (by omega)⟩)
        rw [hTl] at hown
        have HS := khide (And.intro s1 (And.intro s2 (And.intro s4 (And.intro hLX (And.intro hgl (And.intro hBx (And.intro hB1 (And.intro hws hwz))))))))
        have HOWN := khide hown
        have hbs : w.heap.size + 2 ≤ W.heap.size := by omega
        clear s1 s2 s4 hLX hgl hBx hB1 hws hwz hown hR hB hAl hAl2 hBX hlv HRB HC c0 c1 c2 c3 c4 c5 c6 c7 c8
        go_wp2_with (at_builtin; go_loud (refine wpList_append_own2 _ rfl _ _ 28 rfl (w.heap.size + 2) 31 i0 (.agg #[.int .i64 0, .int .u64 0, .bool false, .string ⟨#[]⟩, .int .i64 0, .string ⟨#[]⟩, .slice none 0 0, .slice none 0 0, .int .i64 0]) 9 120 Tryd.underlying28 hi hz0 hz1 hz2 rfl (by decide) g cp k css.flatten rfl (kunhide HOWN) ⟨W.heap.size, 0, none⟩ 1 1 [.int .i64 hd4.k, .int .u64 (hd4.m : Int), .bool hd4.ng, .string hd4.dg, .int .i64 hd4.sc, .string hd4.tx, .slice ka4 kn4 kc4, .slice da4 dn4 dc4, .int .i64 hd4.cd] rfl rfl (cells_new _ _ _) (nine_one _ _ _ _ _ _ _ _ _ _ _ _ _) (by unfold maxLen; omega) (by omega) (by simp; omega) ?_))
        intro g3 cap3 X3 hown3 hgr3 hgg3
        obtain ⟨s1, s2, s4, hLX, hgl, hBx, hB1, hws, hwz⟩ := kunhide HS
        have hRM := RowOk.more (cap := cp) (ok2 := fun b => b < w.heap.size ∧ ok b ∨ w.heap.size + 2 ≤ b ∧ b ≠ g3) s1 s2 s4 ⟨rfl, nine_one _ _ _ _ _ _ _ _ _ _ _ _ _⟩ hLX (by rw [hTl]; exact hown3) hgr3 (fun b hb => hb.1) (fun b hb hq => by
          have hgg : g3 = g ∨ W.heap.size + 1 ≤ g3 := by simpa using hgg3
          have hb2 : b < W.heap.size + 1 := by simpa using hb
          rcases hq.2 with q | q
          · exact .inl q
          · exact .inr ⟨q, by have := hq.1; omega⟩)
        have hBW := ((hBx.trans (hB1.mono hwz)).alloc (by omega) (.cells #[.int .i64 hd4.k, .int .u64 (hd4.m : Int), .bool hd4.ng, .string hd4.dg, .int .i64 hd4.sc, .string hd4.tx, .slice ka4 kn4 kc4, .slice da4 dn4 dc4, .int .i64 hd4.cd] 31)).grown hgr3 (by simp; omega) (fun q hq => by have := Option.some.inj hq; omega)
        rw [show (l.take k).map (bareT n) ++ [bareT n (l[k]'hlt)] = (l.take (k + 1)).map (bareT n) by rw [List.take_succ_eq_append_getElem hlt, List.map_append]; rfl] at hRM
        have HF := khide (And.intro hRM hBW)
        clear s1 s2 s4 hLX hgl hBx hB1 hws hwz hRM hBW hown3 hgr3 hgg3 b1 b2 f1 f2 HS HOWN
        go_wp2_with fail
        go_roundw
        case rel => exact ⟨k + 1, g3, cap3, by go_num, hlt, by simp, (kunhide HF).1, (kunhide HF).2⟩
        case measure => simp [intOf]; omega
      · have e1 : ¬ (k : Int) < (l.length : Int) := by omega
        obtain rfl : k = l.length := by omega
        rw [List.take_length] at hR
        have hwz := hBx.size
        have HRS : Hid (∀ r, r < 9 → (wr.cell? ⟨w.heap.size + 1, r, none⟩).isSome = true) := fun r hr => by rw [b2 r, Array.getElem?_eq_getElem (by simpa using hr)]; rfl
        have HR := khide (And.intro hR hB)
        clear hR hB hBx hTl hwz
        go_wp2_with fail
        change bodyPost _ _ _ _ _ ((wr.setCell ⟨w.heap.size, 7, none⟩ (.slice (some ⟨g, 0, none⟩) l.length cp)).setCells (w.heap.size + 1) 0 [.int .i64 h.k, .int .u64 0, .bool h.ng, .string h.dg, .int .i64 h.sc, .string h.tx, .slice ka h.ks.length kc, .slice (some ⟨g, 0, none⟩) l.length cp, .int .i64 h.cd])
        have hB7 := (kunhide HR).2.setCell (p := ⟨w.heap.size, 7, none⟩) (Nat.le_refl _) (.slice (some ⟨g, 0, none⟩) l.length cp)
        have hres := res9 (wr.setCell ⟨w.heap.size, 7, none⟩ (.slice (some ⟨g, 0, none⟩) l.length cp)) (w.heap.size + 1) (.int .i64 h.k) (.int .u64 0) (.bool h.ng) (.string h.dg) (.int .i64 h.sc) (.string h.tx) (.slice ka h.ks.length kc) (.slice (some ⟨g, 0, none⟩) l.length cp) (.int .i64 h.cd) (fun r hr => by rw [World.cell?_setCell_other _ _ _ _ (fun e => by have := (Addr.mk.inj e).1; omega)]; exact kunhide HRS r hr)
        have hBV := setCells_below hB7 (G := w.heap.size + 1) (by omega) 0 [.int .i64 h.k, .int .u64 0, .bool h.ng, .string h.dg, .int .i64 h.sc, .string h.tx, .slice ka h.ks.length kc, .slice (some ⟨g, 0, none⟩) l.length cp, .int .i64 h.cd]
        have hKV := (setCell_kept (ok := fun b => b ≠ w.heap.size ∧ b ≠ w.heap.size + 1) wr ⟨w.heap.size, 7, none⟩ (.slice (some ⟨g, 0, none⟩) l.length cp) (fun b hb => hb.1)).trans (setCells_kept (ok := fun b => b ≠ w.heap.size ∧ b ≠ w.heap.size + 1) _ (w.heap.size + 1) 0 [.int .i64 h.k, .int .u64 0, .bool h.ng, .string h.dg, .int .i64 h.sc, .string h.tx, .slice ka h.ks.length kc, .slice (some ⟨g, 0, none⟩) l.length cp, .int .i64 h.cd] (fun b hb => hb.2))
        generalize (wr.setCell ⟨w.heap.size, 7, none⟩ (.slice (some ⟨g, 0, none⟩) l.length cp)).setCells (w.heap.size + 1) 0 [.int .i64 h.k, .int .u64 0, .bool h.ng, .string h.dg, .int .i64 h.sc, .string h.tx, .slice ka h.ks.length kc, .slice (some ⟨g, 0, none⟩) l.length cp, .int .i64 h.cd] = V at hres hBV hKV ⊢
        obtain ⟨r0, r1, r2, r3, r4, r5, r6, r7, r8⟩ := hres
        refine bodyPost_ret (v := .agg #[.int .i64 h.k, .int .u64 0, .bool h.ng, .string h.dg, .int .i64 h.sc, .string h.tx, .slice ka h.ks.length kc, .slice (some ⟨g, 0, none⟩) l.length cp, .int .i64 h.cd]) (by simp [results, Tryd.results32, go_sem, r0, r1, r2, r3, r4, r5, r6, r7, r8]) rfl ⟨_, rfl, ?_, hBV⟩
        obtain ⟨hkc, hks⟩ := kunhide HKS
        have hR := (kunhide HR).1
        have hgl := hR.lt
        refine ⟨{ h with m := 0 }, l.map (bareT n), _, _, rfl, rfl, (show (0 : Nat) < 18446744073709551616 by decide), ⟨ka, kc, rfl, hkc, fun i hi => ?_⟩, ?_⟩
        · obtain ⟨b, o, e, hob, hbl, hc⟩ := hks i hi
          exact ⟨b, o, e, .inl ⟨hbl, hob⟩, Nat.lt_of_lt_of_le hbl hBV.size, by rw [hBV.cell (p := ⟨b, o + i, none⟩) hbl]; exact hc⟩
        · have hK := (hR.keep (ok' := fun b => b < w.heap.size ∧ ok b ∨ w.heap.size + 2 ≤ b ∧ b ≠ g) hKV (fun b hb hq => ⟨by rcases hq with q | q <;> omega, hq⟩) ⟨by omega, by omega⟩ (Nat.le_refl _)).kids (ok' := orNew ok w.heap.size) (.inr (by omega)) (fun b hb hq => by rcases hq with q | q; exact .inl q; exact .inr (by omega))
          rw [List.length_map] at hK
          exact hK
end Go.Proofs.YtppkknmgdahniaaDoor

namespace Go.Proofs.YtppkknmgdahniaaDoor
set_option maxRecDepth 100000
open Go.RowKit
set_option linter.unusedVariables false
set_option linter.unusedSimpArgs false

end Go.Proofs.YtppkknmgdahniaaDoor

namespace Go.Proofs.YtppkknmgdahniaaDoor
set_option maxRecDepth 100000
open Go.RowKit
set_option linter.unusedVariables false
set_option linter.unusedSimpArgs false

end Go.Proofs.YtppkknmgdahniaaDoor

namespace Go.Proofs.YtppkknmgdahniaaDoor
set_option maxRecDepth 100000
open Go.RowKit
set_option linter.unusedVariables false
set_option linter.unusedSimpArgs false

end Go.Proofs.YtppkknmgdahniaaDoor

namespace Go.Proofs.YtppkknmgdahniaaDoor
set_option maxRecDepth 100000
open Go.RowKit
set_option linter.unusedVariables false
set_option linter.unusedSimpArgs false

end Go.Proofs.YtppkknmgdahniaaDoor

namespace Go.Proofs.YtppkknmgdahniaaDoor
set_option maxRecDepth 100000
open Go.RowKit
set_option linter.unusedVariables false
set_option linter.unusedSimpArgs false

end Go.Proofs.YtppkknmgdahniaaDoor
/- What is proved here: a copy's row of kids lies in a block of its own that may be written to. What is proved here: package tree's Same is true of one tree, walked; what the document's own With makes of a value. -/
namespace Go.Proofs.YtppkknmgdahniaaDoor
set_option maxRecDepth 100000
open Go.RowKit
set_option linter.unusedVariables false
set_option linter.unusedSimpArgs false

/-- The row of kids lies in a new block that may be written to. -/
def FreeRow (lo : Nat) (W : World) (v : Value) : Prop := ∀ cs b o n c, v = .agg cs → cs[7]? = some (.slice (some ⟨b, o, none⟩) n c) → lo ≤ b ∧ b < W.heap.size ∧ ∀ r, W.frozen? ⟨b, r, none⟩ = false
theorem FreeRow.nil (lo : Nat) (W : World) (x0 x1 x2 x3 x4 x5 x6 x8 : Value) (n c : Nat) : FreeRow lo W (.agg #[x0, x1, x2, x3, x4, x5, x6, .slice none n c, x8]) := by
  intro cs b o n c e h
  obtain rfl := Value.agg.inj e
  simp at h
theorem FreeRow.one {lo : Nat} {W W0 : World} {G n c : Nat} {t : TypeId} {x0 x1 x2 x3 x4 x5 x6 x8 : Value} (hlo : lo ≤ G) (h0 : W0.heap.size ≤ W.heap.size) (hh : ∃ cur, W.heap[G]? = some (.cells cur t (0, 0))) : FreeRow lo W (.agg #[x0, x1, x2, x3, x4, x5, x6, .slice (some ⟨G, 0, none⟩) n c, x8]) := by
  intro cs b o n c e h
  obtain rfl := Value.agg.inj e
  simp at h
  obtain ⟨⟨rfl, _⟩, _⟩ := h
  obtain ⟨cur, hh⟩ := hh
  exact ⟨hlo, (Array.getElem?_eq_some_iff.1 hh).1, fun r => by simp [World.frozen?, hh]⟩
theorem FreeRow.keep {lo lo' k : Nat} {W V : World} {v : Value} (h : FreeRow lo W v) (hK : Kept (fun b => k ≤ b) W V) (hk : k ≤ lo) (hl : lo' ≤ lo) : FreeRow lo' V v := by
  intro cs b o n c e he
  obtain ⟨h1, h2, h3⟩ := h cs b o n c e he
  exact ⟨by omega, Nat.lt_of_lt_of_le h2 hK.1, fun r => by rw [← h3 r]; exact World.frozen?_of_block (a := ⟨b, r, .none⟩) (hK.2 b (Nat.le_trans hk h1) h2)⟩

end Go.Proofs.YtppkknmgdahniaaDoor

namespace Go.Proofs.YtppkknmgdahniaaDoor
set_option maxRecDepth 100000
open Go.RowKit
set_option linter.unusedVariables false
set_option linter.unusedSimpArgs false

set_option maxHeartbeats 2000000 in
set_option maxRecDepth 1000000 in
/-- The document's own With. -/
theorem rwith_any (ok : Nat → Prop) (n : Nat) (v : Value) (t : Tr) (m : Nat) (w : World) (hl : Lies ok w n v t) (hm : m < 18446744073709551616) :
    Calls Tryd.prog 33 #[v, .int .u64 (m : Int)] w fun e w' => ∃ v', e = .returned v' ∧ Lies ok w' n v' (withT m t) ∧ Below w.heap.size w w' := by
  cases n with
  | zero => exact hl.elim
  | succ n =>
    have hl' := hl
    obtain ⟨h, l, ka, kc, da, dc, rfl, rfl, e0, h1, h3, h2, h4⟩ := hl.node
    have hor : bits BinOp.or IntKind.u64 (h.m : Int) (m : Int) = ((h.m ||| m : Nat) : Int) := u64_or_nat _ _ e0 hm
    obtain ⟨M, hM⟩ : ∃ M, h.m ||| m = M := ⟨_, rfl⟩
    have hW := with_lies m hm hl' kc dc h1 h3
    rw [hM] at hor hW
    have HW := khide hW
    clear hW hl hl' h2 h4 hM
    go_enter Tryd.func33, Tryd.ntmps33
    go_wp2_with fail
    exact bodyPost_ret (v := .agg #[.int .i64 h.k, .int .u64 (M : Int), .bool h.ng, .string h.dg, .int .i64 h.sc, .string h.tx, .slice ka h.ks.length kc, .slice da l.length dc, .int .i64 h.cd]) (by simp [results, Tryd.results33, go_sem]) rfl ⟨_, rfl, (kunhide HW).below (((Below.refl _ w).alloc (Nat.le_refl _) _).alloc (by simp) _), ((Below.refl _ w).alloc (Nat.le_refl _) _).alloc (by simp) _⟩
end Go.Proofs.YtppkknmgdahniaaDoor
