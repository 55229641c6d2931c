/- What is proved here: what the document's own Built answers, walked. -/
import Derived.Test.YtppkknmgdahniaaDoorZDf
namespace Go.Proofs.YtppkknmgdahniaaDoor
set_option maxRecDepth 100000
open Go.RowKit
set_option linter.unusedVariables false
set_option linter.unusedSimpArgs false

/-- One node, less its keys, behind the switch. -/
def Arm (lo i msk : Nat) (kd : Int) (wr : World) (V3 : Value) (wx : World) : Prop := ∃ (h : Hd) (l Ts : List Tr) (g cap : Nat) (da : Option Addr) (dc : Nat),
  V3 = .slice (some ⟨g, 0, none⟩) Ts.length cap ∧ h.k = kd ∧ h.ks = [] ∧ h.m = msk ∧ HdOk h l.length ∧
  Box wx wr.heap.size #[.int .i64 kd, .int .u64 (msk : Int), .bool h.ng, .string h.dg, .int .i64 h.sc, .string h.tx, .slice none 0 0, .slice da l.length dc, .int .i64 h.cd] ∧
  RowOk (fun b => lo ≤ b ∧ b ≠ g ∧ b ≠ wr.heap.size) lo wx i g cap Ts ∧ KidsIn (fun b => lo ≤ b ∧ b ≠ g ∧ b ≠ wr.heap.size) (Lies (fun b => lo ≤ b ∧ b ≠ g ∧ b ≠ wr.heap.size) wx i) wx (.slice da l.length dc) l ∧ g ≠ wr.heap.size ∧ Below wr.heap.size wr wx ∧
  (Ts.map (sizeT 100)).sum + (l.map (sizeT 100)).sum ≤ i ∧ (∀ t, t ∈ Ts → goodT 100 t) ∧ (∀ t, t ∈ l → goodT 100 t)
theorem no_kids (ok : Nat → Prop) (P : Value → Tr → Prop) (w : World) : KidsIn ok P w (.slice none 0 0) [] := ⟨none, 0, rfl, ⟨Nat.le_refl _, fun _ => rfl⟩, fun i hi => absurd hi (by simp)⟩
/-- A node without kids. -/
theorem Arm.leaf {lo i msk : Nat} {wr wx : World} {g cap : Nat} {Ts : List Tr} (ng : Bool) (dg : ByteArray) (sc : Int) (tx : ByteArray) (kd cd : Int) (hok : HdOk ⟨kd, msk, ng, dg, sc, tx, [], cd⟩ 0)
    (hbox : Box wx wr.heap.size #[.int .i64 kd, .int .u64 (msk : Int), .bool ng, .string dg, .int .i64 sc, .string tx, .slice none 0 0, .slice none 0 0, .int .i64 cd]) (hB : Below wr.heap.size wr wx)
    (hR : RowIn lo wr i g cap Ts) (hsz : (Ts.map (sizeT 100)).sum ≤ i) (hgd : ∀ t, t ∈ Ts → goodT 100 t) : Arm lo i msk kd wr (.slice (some ⟨g, 0, none⟩) Ts.length cap) wx := by
  refine ⟨⟨kd, msk, ng, dg, sc, tx, [], cd⟩, [], Ts, g, cap, none, 0, rfl, rfl, rfl, rfl, hok, hbox, ?_, no_kids _ _ _, ?_, hB, by simpa using hsz, hgd, fun t ht => absurd ht (by simp)⟩
  · exact hR.ok.keep (Kept.of_below (ok := anyB) hB) (fun b hb ho => ⟨trivial, ho.1, ho.2, by omega⟩) trivial (Nat.le_refl _)
  · obtain ⟨css, _, _, hown, _⟩ := hR
    have := (hown.lt g rfl).2
    omega

theorem nine_set (a0 a1 a2 a3 a4 a5 a6 a7 a8 x : Value) (q : Nat) (hq : q < 9) : ∀ r, ((#[a0, a1, a2, a3, a4, a5, a6, a7, a8] : Array Value).set q x (by simpa using hq))[r]? = if r = q then some x else (#[a0, a1, a2, a3, a4, a5, a6, a7, a8] : Array Value)[r]? := by
  intro r
  rw [Array.getElem?_set]
  by_cases e : q = r
  · subst e; simp
  · rw [if_neg e, if_neg (fun e2 => e e2.symm)]

theorem Arm.kids {lo i msk : Nat} {kd : Int} (hkd : kd = 6 ∨ kd = 7) {wr X : World} {Ts : List Tr} {fr g1 cap1 g2 cap2 : Nat} (hfr : fr ≤ Ts.length) (hfr2 : Ts.length - fr ≤ 7)
    (hA : RowOk (fun b => lo ≤ b ∧ b < wr.heap.size) lo X i g2 cap2 (Ts.take fr)) (hK : RowOk (fun b => lo ≤ b ∧ b < wr.heap.size) lo X i g1 cap1 (Ts.drop fr))
    (hbox : Box X wr.heap.size #[.int .i64 kd, .int .u64 (msk : Int), .bool false, .string ⟨#[]⟩, .int .i64 0, .string ⟨#[]⟩, .slice none 0 0, .slice (some ⟨g1, 0, none⟩) (Ts.length - fr) cap1, .int .i64 0]) (hB : Below wr.heap.size wr X)
    (hne : g1 ≠ g2) (h1 : wr.heap.size < g1) (h2 : wr.heap.size < g2) (hwh : lo ≤ wr.heap.size) (hsz : (Ts.map (sizeT 100)).sum ≤ i) (hgd : ∀ t, t ∈ Ts → goodT 100 t) :
    Arm lo i msk kd wr (.slice (some ⟨g2, 0, none⟩) fr cap2) X := by
  have l1 : (Ts.take fr).length = fr := by rw [List.length_take]; omega
  have l2 : (Ts.drop fr).length = Ts.length - fr := List.length_drop
  refine ⟨⟨kd, msk, false, ⟨#[]⟩, 0, ⟨#[]⟩, [], 0⟩, Ts.drop fr, Ts.take fr, g2, cap2, some ⟨g1, 0, none⟩, cap1, by rw [l1], rfl, rfl, rfl, ?_, by rw [l2]; exact hbox, ?_, ?_, by omega, hB, ?_, fun t ht => hgd t (List.mem_of_mem_take ht), fun t ht => hgd t (List.mem_of_mem_drop ht)⟩
  · rw [l2]
    rcases hkd with rfl | rfl <;> simp [HdOk, hfr2]
  · exact hA.keep (Kept.refl anyB X) (fun b hb ho => ⟨trivial, ho.1, by omega, by omega⟩) trivial (Nat.le_refl _)
  · exact hK.kids ⟨by omega, hne, by omega⟩ (fun b hb ho => ⟨ho.1, by omega, by omega⟩)
  · rw [← List.sum_append, ← List.map_append, List.take_append_drop]
    exact hsz
/-- A row's cells, in a later world. -/
theorem RowIn.part {lo d g cap : Nat} {wr X : World} {Ts : List Tr} (h : RowIn lo wr d g cap Ts) (hB : Below wr.heap.size wr X) : ∃ css : List (List Value), css.length = Ts.length ∧ (∀ c, c ∈ css → c.length = 9 ∧ ∀ u, u ∈ c → u.oneCell' = true) ∧
    X.ownsRow lo 31 9 (.slice (some ⟨g, 0, none⟩) Ts.length cap) Ts.length css.flatten ∧ ∀ j, ∀ h1 : j < css.length, ∀ h2 : j < Ts.length, Lies (fun b => lo ≤ b ∧ b < wr.heap.size) X d (.agg (css[j]'h1).toArray) (Ts[j]'h2) :=
  h.ok.keep (ok' := fun b => lo ≤ b ∧ b < wr.heap.size) (Kept.of_below (ok := anyB) hB) (fun b hb ho => ⟨trivial, ho.1, hb⟩) trivial (Nat.le_refl _)
theorem RowIn.lt {lo d g cap : Nat} {w : World} {Ts : List Tr} (h : RowIn lo w d g cap Ts) : lo ≤ g ∧ g < w.heap.size ∧ Ts.length ≤ cap := by
  obtain ⟨css, _, _, hown, _⟩ := h
  have h1 := hown.lt g rfl
  refine ⟨h1.1, h1.2, ?_⟩
  rcases hown.2 with ⟨e, _⟩ | ⟨g', cap', cur, hv, _, _, hnc, _⟩
  · cases e
  · rw [(Value.slice.inj hv).2.2]
    exact hnc
theorem row_take {lo g cap n : Nat} {w : World} {css : List (List Value)} (hc : ∀ c, c ∈ css → c.length = 9) (hown : w.ownsRow lo 31 9 (.slice (some ⟨g, 0, none⟩) n cap) n css.flatten) (i : Nat) :
    ∀ j u, (css.take i).flatten[j]? = some u → w.cell? ((⟨g, 0, none⟩ : Addr).add j) = some u := by
  intro j u hj
  rw [flat_take css hc i, List.getElem?_take] at hj
  split at hj
  · exact hown.cells (g := g) rfl j u hj
  · cases hj
theorem part_one {css : List (List Value)} (h : ∀ c, c ∈ css → c.length = 9 ∧ ∀ u, u ∈ c → u.oneCell' = true) : ∀ u, u ∈ css.flatten → u.oneCell' = true := by
  intro u hu
  obtain ⟨c, hc, hu2⟩ := List.mem_flatten.1 hu
  exact (h c hc).2 u hu2
theorem nine_one (k m : Int) (ng : Bool) (dg : ByteArray) (sc : Int) (tx : ByteArray) (ka : Option Addr) (kn kc : Nat) (da : Option Addr) (dn dc : Nat) (cd : Int) : ∀ u, u ∈ [Value.int .i64 k, .int .u64 m, .bool ng, .string dg, .int .i64 sc, .string tx, .slice ka kn kc, .slice da dn dc, .int .i64 cd] → u.oneCell' = true := by
  intro u hu
  simp only [List.mem_cons, List.not_mem_nil, or_false] at hu
  rcases hu with rfl | rfl | rfl | rfl | rfl | rfl | rfl | rfl | rfl <;> rfl
/-- A node with its keys, ahead of the append. -/
def Arm2 (lo i : Nat) (wr : World) (g cap : Nat) (Ts : List Tr) (wx : World) : Prop := ∃ (h : Hd) (l : List Tr) (ka : Option Addr) (kc : Nat) (da : Option Addr) (dc : Nat),
  goodH h l.length ∧ Box wx wr.heap.size #[.int .i64 h.k, .int .u64 (h.m : Int), .bool h.ng, .string h.dg, .int .i64 h.sc, .string h.tx, .slice ka h.ks.length kc, .slice da l.length dc, .int .i64 h.cd] ∧
  RowIn lo wx i g cap Ts ∧ Lies (fun b => lo ≤ b ∧ b ≠ g) wx (i + 1) (.agg #[.int .i64 h.k, .int .u64 (h.m : Int), .bool h.ng, .string h.dg, .int .i64 h.sc, .string h.tx, .slice ka h.ks.length kc, .slice da l.length dc, .int .i64 h.cd]) (Tr.mk h l) ∧ Below wr.heap.size wr wx ∧
  (Ts.map (sizeT 100)).sum + (l.map (sizeT 100)).sum ≤ i ∧ (∀ t, t ∈ Ts → goodT 100 t) ∧ (∀ t, t ∈ l → goodT 100 t)
theorem cells_new (W : World) (c : List Value) (t : TypeId) : ∀ j u, c[j]? = some u → (W.alloc (.cells c.toArray t)).cell? ((⟨W.heap.size, 0, none⟩ : Addr).add j) = some u := by
  intro j u hj
  have e1 : (⟨W.heap.size, 0, none⟩ : Addr).add j = ⟨W.heap.size, j, none⟩ := by unfold Addr.add; split <;> simp_all
  rw [e1, World.cell?_alloc_at _ _ _ _ rfl]
  simpa using hj

set_option maxHeartbeats 20000000 in
set_option maxRecDepth 1000000 in
theorem built_any (a : Option Addr) (n c : Nat) (w : World) (hn : n ≤ 140737488355328) (hit : ∀ i, i < n → i < 80 → ItemAt w a i) :
    Calls Tryd.prog 12 #[.slice a n c] w fun e w' => ∃ (v : Value) (t : Tr), e = .returned v ∧ Lies (fun b => w.heap.size ≤ b) w' 100 v t ∧ goodT 100 t ∧ sizeT 100 t ≤ 80 ∧ Below w.heap.size w w' := by
  have HIT := khide hit
  clear hit
  go_enter Tryd.func12, Tryd.ntmps12
  go_wp2_with fail
  go_loopg [3, 4] 80 (fun gh V I wr => ∃ (i g cap : Nat) (Ts : List Tr), I = .int .i64 (i : Int) ∧ i + gh = 80 ∧ (Ts.map (sizeT 100)).sum ≤ i ∧ (∀ t, t ∈ Ts → goodT 100 t) ∧ V = .slice (some ⟨g, 0, none⟩) Ts.length cap ∧ RowIn (w.heap.size + 1) wr i g cap Ts ∧ Below (w.heap.size + 1) (w.alloc (.cells #[.int .i64 0, .int .u64 0, .bool false, .string ⟨#[]⟩, .int .i64 0, .string ⟨#[]⟩, .slice none 0 0, .slice none 0 0, .int .i64 0] 31)) wr)
  case atStart =>
    have hE := World.ownsRow_made (e := 31) (size := 9) (base := w.heap.size + 1) (w.alloc (.cells #[.int .i64 0, .int .u64 0, .bool false, .string ⟨#[]⟩, .int .i64 0, .string ⟨#[]⟩, .slice none 0 0, .slice none 0 0, .int .i64 0] 31)) #[] 0 (by simp) (by decide) rfl
    rw [show (w.alloc (.cells #[.int .i64 0, .int .u64 0, .bool false, .string ⟨#[]⟩, .int .i64 0, .string ⟨#[]⟩, .slice none 0 0, .slice none 0 0, .int .i64 0] 31)).heap.size = w.heap.size + 1 by simp] at hE
    exact ⟨0, w.heap.size + 1, 0, [], rfl, rfl, Nat.le_refl _, fun t ht => absurd ht (by simp), rfl, ⟨[], rfl, fun c hc => absurd hc (by simp), hE, fun j h1 h2 => absurd h1 (by simp)⟩, (Below.refl _ _).alloc (by simp) _⟩
  case round =>
    obtain ⟨i, g, cap, Ts, rfl, hi80, hsz, hgd, rfl, hR, hB⟩ := hrel
    by_cases hin : i < n
    · by_cases h80 : i < 80
      · obtain ⟨b, o, k, m, msk, nu, tx, ka, kc, ks, rfl, hb, hmsk, ⟨c0, c1, c2, c3, c4, c5⟩, hks, hkk⟩ := ItemAt.below ((Below.refl _ w).alloc (Nat.le_refl _) _ |>.trans (hB.mono (by simp))) (kunhide HIT i hin h80)
        have e1 : (i : Int) < 80 := by omega
        have e2 : (i : Int) < (n : Int) := by omega
        have hlen : Ts.length ≤ 80 := by have := len_le_sum (sizeT 100) (sizeT_pos 100) Ts; omega
        have HKK := khide hkk
        have HR := khide (And.intro hR (And.intro hsz hgd))
        have hwh : w.heap.size + 1 ≤ wr.heap.size := by have := hB.size; simpa using this
        have HBB := khide hB
        clear hkk hR hsz hgd hB
        obtain ⟨kd, hkd, hw⟩ := bits_71 k
        go_upto_block 2 with fail
        go_cut [3, 7, 8, 9, 10] from 12 to 110 (fun V3 _ _ _ _ wx => Arm (w.heap.size + 1) i msk kd wr V3 wx)
        case first =>
          as_aux_lemma =>
            rcases hkd with rfl | rfl | rfl | rfl | rfl | rfl | rfl | rfl
            · go_wp2_with fail
              go_meet
              case rel => exact Arm.leaf false _ 0 _ 1 0 (by simp [HdOk]) (Box.new _ _ _) ((Below.refl _ _).alloc (Nat.le_refl _) _) (kunhide HR).1 (kunhide HR).2.1 (kunhide HR).2.2
            · go_wp2_with fail
              go_meet
              case rel => exact Arm.leaf false _ 0 _ 2 0 (by simp [HdOk]) (Box.new _ _ _) ((Below.refl _ _).alloc (Nat.le_refl _) _) (kunhide HR).1 (kunhide HR).2.1 (kunhide HR).2.2
            · go_wp2_with fail
              go_meet
              case rel => exact Arm.leaf false _ 0 _ 3 0 (by simp [HdOk]) (Box.new _ _ _) ((Below.refl _ _).alloc (Nat.le_refl _) _) (kunhide HR).1 (kunhide HR).2.1 (kunhide HR).2.2
            · obtain ⟨ng, dg, sc, er, her, CP⟩ := parse_shape (shortB nu) (Nat.le_trans (shortB_size nu) (by omega))
              have HCP := khide CP
              clear CP
              go_wp2_with fail
              refine (short_any nu _).mono ?_
              rintro e W ⟨rfl, rfl⟩
              go_wp2_with fail
              refine (kunhide HCP _).mono ?_
              rintro e W1 ⟨rfl, hB1⟩
              have hbx := (Box.new wr _ _).kept (ok := fun b => b < wr.heap.size + 1) ((Kept.of_below hB1).weak (fun b hb ho => hb)) (Nat.lt_succ_self _)
              have HBX := khide hbx
              obtain ⟨b1, f1, hz⟩ := hbx
              have hB2 : Below wr.heap.size wr W1 := ((Below.refl _ wr).alloc (Nat.le_refl _) _).trans (hB1.mono (by simp))
              have HB2 := khide hB2
              clear hB2 hB1
              rcases her with ⟨rfl, hnum⟩ | her
              · have HNUM := khide hnum
                clear hnum
                go_wp2_with fail
                go_meet
                case rel =>
                  have hx := (((kunhide HBX).set 2 (.bool ng) (by simp) (c' := #[.int .i64 4, .int .u64 (msk : Int), .bool ng, .string ⟨#[]⟩, .int .i64 0, .string ⟨#[]⟩, .slice none 0 0, .slice none 0 0, .int .i64 0]) (nine_set _ _ _ _ _ _ _ _ _ _ 2 (by omega))).set 3 (.string dg) (by simp) (nine_set _ _ _ _ _ _ _ _ _ _ 3 (by omega))).set 4 (.int .i64 sc) (by simp) (nine_set _ _ _ _ _ _ _ _ _ _ 4 (by omega))
                  have hb := (((kunhide HB2).setCell (p := ⟨wr.heap.size, 2, none⟩) (Nat.le_refl _) (.bool ng)).setCell (p := ⟨wr.heap.size, 3, none⟩) (Nat.le_refl _) (.string dg)).setCell (p := ⟨wr.heap.size, 4, none⟩) (Nat.le_refl _) (.int .i64 sc)
                  refine Arm.leaf ng dg sc _ 4 0 (by simp [HdOk, kunhide HNUM]) (hx.kept (ok := anyB) (Kept.of_below ((Below.refl _ _).alloc (Nat.le_refl _) _)) trivial) (hb.alloc hb.size _) (kunhide HR).1 (kunhide HR).2.1 (kunhide HR).2.2
              · have hee : (er == 0) = false := by rcases her with rfl | rfl <;> decide
                go_wp2_with fail
                go_meet
                case rel =>
                  have hx := (((kunhide HBX).set 2 (.bool false) (by simp) (c' := #[.int .i64 4, .int .u64 (msk : Int), .bool false, .string ⟨#[]⟩, .int .i64 0, .string ⟨#[]⟩, .slice none 0 0, .slice none 0 0, .int .i64 0]) (nine_set _ _ _ _ _ _ _ _ _ _ 2 (by omega))).set 3 (.string ⟨#[55]⟩) (by simp) (nine_set _ _ _ _ _ _ _ _ _ _ 3 (by omega))).set 4 (.int .i64 0) (by simp) (nine_set _ _ _ _ _ _ _ _ _ _ 4 (by omega))
                  have hb := (((kunhide HB2).setCell (p := ⟨wr.heap.size, 2, none⟩) (Nat.le_refl _) (.bool false)).setCell (p := ⟨wr.heap.size, 3, none⟩) (Nat.le_refl _) (.string ⟨#[55]⟩)).setCell (p := ⟨wr.heap.size, 4, none⟩) (Nat.le_refl _) (.int .i64 0)
                  refine Arm.leaf false ⟨#[55]⟩ 0 _ 4 0 (by simp [HdOk, num_seven]) (hx.kept (ok := anyB) (Kept.of_below ((Below.refl _ _).alloc (Nat.le_refl _) _)) trivial) (hb.alloc hb.size _) (kunhide HR).1 (kunhide HR).2.1 (kunhide HR).2.2
            · have hwk : keyOk (wordB tx) := ⟨wordB_size _, wordB_valid _⟩
              go_wp2_with fail
              refine (word_any tx _).mono ?_
              rintro e W ⟨rfl, rfl⟩
              go_wp2_with fail
              go_meet
              case rel => exact Arm.leaf false _ 0 _ 5 0 (by simp [HdOk, hwk]) (Box.new _ _ _) ((Below.refl _ _).alloc (Nat.le_refl _) _) (kunhide HR).1 (kunhide HR).2.1 (kunhide HR).2.2
            · obtain ⟨q, hq8, hq⟩ := bits_7 m
              obtain ⟨fr, nk, hfr, hfr2, hmin, hfw⟩ : ∃ fr nk : Nat, fr ≤ Ts.length ∧ Ts.length - fr ≤ 7 ∧ min (q : Int) (Ts.length : Int) = (nk : Int) ∧ (Ts.length : Int) - (nk : Int) = (fr : Int) := ⟨Ts.length - min q Ts.length, min q Ts.length, by omega, by omega, by omega, by omega⟩
              have l1 : (Ts.take fr).length = fr := by rw [List.length_take]; omega
              have l2 : (Ts.drop fr).length = Ts.length - fr := List.length_drop
              obtain ⟨i0, hi, hz0, hz1, hz2⟩ := info_parts kinfo_val
              have hcap := (kunhide HR).1.lt.2.2
              have hBX : Below wr.heap.size wr ((wr.alloc (.cells #[.int .i64 6, .int .u64 (msk : Int), .bool false, .string ⟨#[]⟩, .int .i64 0, .string ⟨#[]⟩, .slice none 0 0, .slice none 0 0, .int .i64 0] 31)).alloc (.cells #[] 31)) := ((Below.refl _ wr).alloc (Nat.le_refl _) _).alloc (by simp) _
              have hE0 := World.ownsRow_made (e := 31) (size := 9) (base := w.heap.size + 1) (wr.alloc (.cells #[.int .i64 6, .int .u64 (msk : Int), .bool false, .string ⟨#[]⟩, .int .i64 0, .string ⟨#[]⟩, .slice none 0 0, .slice none 0 0, .int .i64 0] 31)) #[] 0 (by simp; omega) (by decide) rfl
              rw [show (wr.alloc (.cells #[.int .i64 6, .int .u64 (msk : Int), .bool false, .string ⟨#[]⟩, .int .i64 0, .string ⟨#[]⟩, .slice none 0 0, .slice none 0 0, .int .i64 0] 31)).heap.size = wr.heap.size + 1 by simp] at hE0
              have HE0 := khide hE0
              clear hE0
              obtain ⟨css, s1, s2, hown, s4⟩ := (kunhide HR).1.part hBX
              have n1 : (css.drop fr).flatten.length = (Ts.length - fr) * 9 := by rw [flat_len _ (fun c hc => (s2 c (List.mem_of_mem_drop hc)).1), List.length_drop, s1]
              have n2 := row_news (d := 0) (fun c hc => (s2 c hc).1) hown fr
              have n3 := part_one (fun c hc => s2 c (List.mem_of_mem_drop (i := fr) hc))
              have HS := khide (And.intro s1 (And.intro s2 s4))
              have HN := khide (And.intro n1 (And.intro n2 n3))
              have HBX := khide hBX
              clear s1 s2 s4 hown n1 n2 n3 hBX hq8
              by_cases hcf : fr = cap
              · subst hcf
                have l0 : Ts.length - fr = 0 := by omega
                go_wp2_with (at_builtin; go_loud (refine wpList_append_own2 _ rfl _ _ 28 rfl (w.heap.size + 1) 31 i0 (.agg #[.int .i64 0, .int .u64 0, .bool false, .string ⟨#[]⟩, .int .i64 0, .string ⟨#[]⟩, .slice none 0 0, .slice none 0 0, .int .i64 0]) 9 120 Tryd.underlying28 hi hz0 hz1 hz2 rfl (by decide) (wr.heap.size + 1) 0 0 [] rfl (kunhide HE0) _ _ _ (css.drop fr).flatten rfl (by rw [(kunhide HN).1, l0]) (fun j u hj => absurd hj (by rw [List.getElem?_eq_none (by rw [(kunhide HN).1]; omega)]; simp)) (kunhide HN).2.2 (by unfold maxLen; omega) (by omega) (by simp; omega) ?_))
                intro g1 cap1 X1 hown1 hgr1 hgg1
                have hB1 : Below wr.heap.size wr X1 := (kunhide HBX).grown hgr1 (by simp; omega) (fun q hq => by have := Option.some.inj hq; omega)
                have hbx1 : Box X1 wr.heap.size #[.int .i64 6, .int .u64 (msk : Int), .bool false, .string ⟨#[]⟩, .int .i64 0, .string ⟨#[]⟩, .slice none 0 0, .slice none 0 0, .int .i64 0] := ((Box.new wr _ _).kept (Kept.of_below (ok := anyB) ((Below.refl _ _).alloc (Nat.le_refl _) _)) trivial).kept (Kept.of_grown hgr1) (by intro e; have := Option.some.inj e; omega)
                have hlt1 := (hown1.lt g1 rfl).2
                have hgl1 : wr.heap.size < g1 := by
                  rcases hgg1 with e | e
                  · omega
                  · have : wr.heap.size + 1 + 1 ≤ g1 := by simpa using e
                    omega
                have hp1 : RowOk (fun b => w.heap.size + 1 ≤ b ∧ b < wr.heap.size) (w.heap.size + 1) X1 i g1 cap1 (Ts.drop fr) := by
                  obtain ⟨s1, s2, s4⟩ := kunhide HS
                  refine row_part9 (css' := css.drop fr) (by simp [s1]) (fun c hc => s2 c (List.mem_of_mem_drop hc)) ?_ ?_ hgr1 (by omega)
                  · intro j j1 j2
                    have := s4 (fr + j) (by simp at j1; omega) (by simp at j2; omega)
                    simpa only [List.getElem_drop] using this
                  · have := hown1
                    (try simp only [Nat.zero_add, List.nil_append] at this)
                    rw [l2, l0]
                    exact this
                have e3 : (X1.setCell ⟨wr.heap.size, 7, none⟩ (.slice (some ⟨g1, 0, none⟩) 0 cap1)).heap.size = X1.heap.size := by simp [World.setCell]
                have hB3 : Below wr.heap.size wr ((X1.setCell ⟨wr.heap.size, 7, none⟩ (.slice (some ⟨g1, 0, none⟩) 0 cap1)).alloc (.cells #[] 31)) := (hB1.setCell (p := ⟨wr.heap.size, 7, none⟩) (Nat.le_refl _) _).alloc (by rw [e3]; exact hB1.size) _
                have hE := World.ownsRow_made (e := 31) (size := 9) (base := w.heap.size + 1) (X1.setCell ⟨wr.heap.size, 7, none⟩ (.slice (some ⟨g1, 0, none⟩) 0 cap1)) #[] 0 (by rw [e3]; have := hB1.size; omega) (by decide) rfl
                rw [e3] at hE
                obtain ⟨css2, s1, s2, hownR, s4⟩ := (kunhide HR).1.part hB3
                have n1 : (css2.take fr).flatten.length = fr * 9 := by rw [flat_len _ (fun c hc => (s2 c (List.mem_of_mem_take hc)).1), List.length_take, s1]; omega
                have n2 := row_take (fun c hc => (s2 c hc).1) hownR fr
                have n3 := part_one (fun c hc => s2 c (List.mem_of_mem_take (i := fr) hc))
                have HS2 := khide (And.intro s1 (And.intro s2 s4))
                have HN2 := khide (And.intro n1 (And.intro n2 n3))
                have HE := khide hE
                have HBX1 := khide hbx1
                have HQ := khide (And.intro hB1 (And.intro hlt1 (And.intro hgl1 (And.intro hp1 (And.intro e3 hB3)))))
                have hB1s := hB1.size
                obtain ⟨b1, f1, hz⟩ := hbx1
                clear s1 s2 s4 hownR n1 n2 n3 hB1 hlt1 hgl1 hp1 hB3 hE e3 hown1 hgr1 hgg1
                go_wp2_with (at_builtin; go_loud (refine wpList_append_own2 _ rfl _ _ 28 rfl (w.heap.size + 1) 31 i0 (.agg #[.int .i64 0, .int .u64 0, .bool false, .string ⟨#[]⟩, .int .i64 0, .string ⟨#[]⟩, .slice none 0 0, .slice none 0 0, .int .i64 0]) 9 120 Tryd.underlying28 hi hz0 hz1 hz2 rfl (by decide) X1.heap.size 0 0 [] rfl (kunhide HE) _ _ _ (css2.take fr).flatten rfl (kunhide HN2).1 (kunhide HN2).2.1 (kunhide HN2).2.2 (by unfold maxLen; omega) (by omega) (by simp; omega) ?_))
                intro g2 cap2 X4 hown2 hgr2 hgg2
                obtain ⟨hB1, hlt1, hgl1, hp1, e3, hB3⟩ := kunhide HQ
                have hB4 : Below wr.heap.size wr X4 := hB3.grown hgr2 (by simp [World.setCell]; omega) (fun q hq => by have := Option.some.inj hq; omega)
                have hbx4 := (((kunhide HBX1).set 7 (.slice (some ⟨g1, 0, none⟩) 0 cap1) (by simp) (nine_set _ _ _ _ _ _ _ _ _ _ 7 (by omega))).kept (Kept.of_below (ok := anyB) ((Below.refl _ _).alloc (Nat.le_refl _) _)) trivial).kept (Kept.of_grown hgr2) (by intro e; have := Option.some.inj e; omega)
                have hgl2 : g1 < g2 := by
                  rcases hgg2 with e | e
                  · omega
                  · have : X1.heap.size + 1 ≤ g2 := by simpa [World.setCell] using e
                    omega
                have hp2 : RowOk (fun b => w.heap.size + 1 ≤ b ∧ b < wr.heap.size) (w.heap.size + 1) X4 i g2 cap2 (Ts.take fr) := by
                  obtain ⟨s1, s2, s4⟩ := kunhide HS2
                  refine row_part9 (css' := css2.take fr) (by simp [s1]) (fun c hc => s2 c (List.mem_of_mem_take hc)) ?_ ?_ hgr2 (by omega)
                  · intro j j1 j2
                    have := s4 j (by simp at j1; omega) (by simp at j2; omega)
                    simpa only [List.getElem_take] using this
                  · have := hown2
                    (try simp only [Nat.zero_add, List.nil_append] at this)
                    rw [l1]
                    exact this
                have hp3 : RowOk (fun b => w.heap.size + 1 ≤ b ∧ b < wr.heap.size) (w.heap.size + 1) X4 i g1 cap1 (Ts.drop fr) := by
                  have q1 := hp1.keep (ok' := fun b => w.heap.size + 1 ≤ b ∧ b < wr.heap.size) (setCell_kept (ok := fun b => b ≠ wr.heap.size) X1 ⟨wr.heap.size, 7, none⟩ (.slice (some ⟨g1, 0, none⟩) 0 cap1) (fun b hb => hb)) (fun b _ hb => ⟨by omega, hb⟩) (by omega) (Nat.le_refl _)
                  have q2 := q1.keep (ok' := fun b => w.heap.size + 1 ≤ b ∧ b < wr.heap.size) (Kept.of_below (ok := anyB) ((Below.refl _ _).alloc (o := .cells #[] 31) (Nat.le_refl _))) (fun b _ hb => ⟨trivial, hb⟩) trivial (Nat.le_refl _)
                  exact q2.keep (Kept.of_grown hgr2) (fun b hb2 hb => ⟨by intro e; have := Option.some.inj e; omega, hb⟩) (by intro e; have := Option.some.inj e; omega) (Nat.le_refl _)
                have HG := khide (Arm.kids (msk := msk) (kd := 6) (by decide) hfr hfr2 hp2 hp3 (by rw [l0]; exact hbx4) hB4 (by omega) hgl1 (by omega) hwh (kunhide HR).2.1 (kunhide HR).2.2)
                clear hown2 hgr2 hgg2 hB1 hlt1 hgl1 hp1 e3 hB3 hB4 hbx4 hp2 hp3 b1 f1 hz
                go_wp2_with fail
                go_meet
                case rel => exact kunhide HG
              · have hcf2 : ¬ cap = fr := fun e => hcf e.symm
                go_wp2_with (at_builtin; go_loud (refine wpList_append_own2 _ rfl _ _ 28 rfl (w.heap.size + 1) 31 i0 (.agg #[.int .i64 0, .int .u64 0, .bool false, .string ⟨#[]⟩, .int .i64 0, .string ⟨#[]⟩, .slice none 0 0, .slice none 0 0, .int .i64 0]) 9 120 Tryd.underlying28 hi hz0 hz1 hz2 rfl (by decide) (wr.heap.size + 1) 0 0 [] rfl (kunhide HE0) _ _ _ (css.drop fr).flatten rfl (kunhide HN).1 (kunhide HN).2.1 (kunhide HN).2.2 (by unfold maxLen; omega) (by omega) (by simp; omega) ?_))
                intro g1 cap1 X1 hown1 hgr1 hgg1
                have hB1 : Below wr.heap.size wr X1 := (kunhide HBX).grown hgr1 (by simp; omega) (fun q hq => by have := Option.some.inj hq; omega)
                have hbx1 : Box X1 wr.heap.size #[.int .i64 6, .int .u64 (msk : Int), .bool false, .string ⟨#[]⟩, .int .i64 0, .string ⟨#[]⟩, .slice none 0 0, .slice none 0 0, .int .i64 0] := ((Box.new wr _ _).kept (Kept.of_below (ok := anyB) ((Below.refl _ _).alloc (Nat.le_refl _) _)) trivial).kept (Kept.of_grown hgr1) (by intro e; have := Option.some.inj e; omega)
                have hlt1 := (hown1.lt g1 rfl).2
                have hgl1 : wr.heap.size < g1 := by
                  rcases hgg1 with e | e
                  · omega
                  · have : wr.heap.size + 1 + 1 ≤ g1 := by simpa using e
                    omega
                have hp1 : RowOk (fun b => w.heap.size + 1 ≤ b ∧ b < wr.heap.size) (w.heap.size + 1) X1 i g1 cap1 (Ts.drop fr) := by
                  obtain ⟨s1, s2, s4⟩ := kunhide HS
                  refine row_part9 (css' := css.drop fr) (by simp [s1]) (fun c hc => s2 c (List.mem_of_mem_drop hc)) ?_ ?_ hgr1 (by omega)
                  · intro j j1 j2
                    have := s4 (fr + j) (by simp at j1; omega) (by simp at j2; omega)
                    simpa only [List.getElem_drop] using this
                  · have := hown1
                    (try simp only [Nat.zero_add, List.nil_append] at this)
                    rw [l2]
                    exact this
                have e3 : (X1.setCell ⟨wr.heap.size, 7, none⟩ (.slice (some ⟨g1, 0, none⟩) (Ts.length - fr) cap1)).heap.size = X1.heap.size := by simp [World.setCell]
                have hB3 : Below wr.heap.size wr ((X1.setCell ⟨wr.heap.size, 7, none⟩ (.slice (some ⟨g1, 0, none⟩) (Ts.length - fr) cap1)).alloc (.cells #[] 31)) := (hB1.setCell (p := ⟨wr.heap.size, 7, none⟩) (Nat.le_refl _) _).alloc (by rw [e3]; exact hB1.size) _
                have hE := World.ownsRow_made (e := 31) (size := 9) (base := w.heap.size + 1) (X1.setCell ⟨wr.heap.size, 7, none⟩ (.slice (some ⟨g1, 0, none⟩) (Ts.length - fr) cap1)) #[] 0 (by rw [e3]; have := hB1.size; omega) (by decide) rfl
                rw [e3] at hE
                obtain ⟨css2, s1, s2, hownR, s4⟩ := (kunhide HR).1.part hB3
                have n1 : (css2.take fr).flatten.length = fr * 9 := by rw [flat_len _ (fun c hc => (s2 c (List.mem_of_mem_take hc)).1), List.length_take, s1]; omega
                have n2 := row_take (fun c hc => (s2 c hc).1) hownR fr
                have n3 := part_one (fun c hc => s2 c (List.mem_of_mem_take (i := fr) hc))
                have HS2 := khide (And.intro s1 (And.intro s2 s4))
                have HN2 := khide (And.intro n1 (And.intro n2 n3))
                have HE := khide hE
                have HBX1 := khide hbx1
                have HQ := khide (And.intro hB1 (And.intro hlt1 (And.intro hgl1 (And.intro hp1 (And.intro e3 hB3)))))
                have hB1s := hB1.size
                obtain ⟨b1, f1, hz⟩ := hbx1
                clear s1 s2 s4 hownR n1 n2 n3 hB1 hlt1 hgl1 hp1 hB3 hE e3 hown1 hgr1 hgg1
                go_wp2_with (at_builtin; go_loud (refine wpList_append_own2 _ rfl _ _ 28 rfl (w.heap.size + 1) 31 i0 (.agg #[.int .i64 0, .int .u64 0, .bool false, .string ⟨#[]⟩, .int .i64 0, .string ⟨#[]⟩, .slice none 0 0, .slice none 0 0, .int .i64 0]) 9 120 Tryd.underlying28 hi hz0 hz1 hz2 rfl (by decide) X1.heap.size 0 0 [] rfl (kunhide HE) _ _ _ (css2.take fr).flatten rfl (kunhide HN2).1 (kunhide HN2).2.1 (kunhide HN2).2.2 (by unfold maxLen; omega) (by omega) (by simp; omega) ?_))
                intro g2 cap2 X4 hown2 hgr2 hgg2
                obtain ⟨hB1, hlt1, hgl1, hp1, e3, hB3⟩ := kunhide HQ
                have hB4 : Below wr.heap.size wr X4 := hB3.grown hgr2 (by simp [World.setCell]; omega) (fun q hq => by have := Option.some.inj hq; omega)
                have hbx4 := (((kunhide HBX1).set 7 (.slice (some ⟨g1, 0, none⟩) (Ts.length - fr) cap1) (by simp) (nine_set _ _ _ _ _ _ _ _ _ _ 7 (by omega))).kept (Kept.of_below (ok := anyB) ((Below.refl _ _).alloc (Nat.le_refl _) _)) trivial).kept (Kept.of_grown hgr2) (by intro e; have := Option.some.inj e; omega)
                have hgl2 : g1 < g2 := by
                  rcases hgg2 with e | e
                  · omega
                  · have : X1.heap.size + 1 ≤ g2 := by simpa [World.setCell] using e
                    omega
                have hp2 : RowOk (fun b => w.heap.size + 1 ≤ b ∧ b < wr.heap.size) (w.heap.size + 1) X4 i g2 cap2 (Ts.take fr) := by
                  obtain ⟨s1, s2, s4⟩ := kunhide HS2
                  refine row_part9 (css' := css2.take fr) (by simp [s1]) (fun c hc => s2 c (List.mem_of_mem_take hc)) ?_ ?_ hgr2 (by omega)
                  · intro j j1 j2
                    have := s4 j (by simp at j1; omega) (by simp at j2; omega)
                    simpa only [List.getElem_take] using this
                  · have := hown2
                    (try simp only [Nat.zero_add, List.nil_append] at this)
                    rw [l1]
                    exact this
                have hp3 : RowOk (fun b => w.heap.size + 1 ≤ b ∧ b < wr.heap.size) (w.heap.size + 1) X4 i g1 cap1 (Ts.drop fr) := by
                  have q1 := hp1.keep (ok' := fun b => w.heap.size + 1 ≤ b ∧ b < wr.heap.size) (setCell_kept (ok := fun b => b ≠ wr.heap.size) X1 ⟨wr.heap.size, 7, none⟩ (.slice (some ⟨g1, 0, none⟩) (Ts.length - fr) cap1) (fun b hb => hb)) (fun b _ hb => ⟨by omega, hb⟩) (by omega) (Nat.le_refl _)
                  have q2 := q1.keep (ok' := fun b => w.heap.size + 1 ≤ b ∧ b < wr.heap.size) (Kept.of_below (ok := anyB) ((Below.refl _ _).alloc (o := .cells #[] 31) (Nat.le_refl _))) (fun b _ hb => ⟨trivial, hb⟩) trivial (Nat.le_refl _)
                  exact q2.keep (Kept.of_grown hgr2) (fun b hb2 hb => ⟨by intro e; have := Option.some.inj e; omega, hb⟩) (by intro e; have := Option.some.inj e; omega) (Nat.le_refl _)
                have HG := khide (Arm.kids (msk := msk) (kd := 6) (by decide) hfr hfr2 hp2 hp3 hbx4 hB4 (by omega) hgl1 (by omega) hwh (kunhide HR).2.1 (kunhide HR).2.2)
                clear hown2 hgr2 hgg2 hB1 hlt1 hgl1 hp1 e3 hB3 hB4 hbx4 hp2 hp3 b1 f1 hz
                go_wp2_with fail
                go_meet
                case rel => exact kunhide HG
            · obtain ⟨q, hq8, hq⟩ := bits_7 m
              obtain ⟨fr, nk, hfr, hfr2, hmin, hfw⟩ : ∃ fr nk : Nat, fr ≤ Ts.length ∧ Ts.length - fr ≤ 7 ∧ min (q : Int) (Ts.length : Int) = (nk : Int) ∧ (Ts.length : Int) - (nk : Int) = (fr : Int) := ⟨Ts.length - min q Ts.length, min q Ts.length, by omega, by omega, by omega, by omega⟩
              have l1 : (Ts.take fr).length = fr := by rw [List.length_take]; omega
              have l2 : (Ts.drop fr).length = Ts.length - fr := List.length_drop
              obtain ⟨i0, hi, hz0, hz1, hz2⟩ := info_parts kinfo_val
              have hcap := (kunhide HR).1.lt.2.2
              have hBX : Below wr.heap.size wr ((wr.alloc (.cells #[.int .i64 7, .int .u64 (msk : Int), .bool false, .string ⟨#[]⟩, .int .i64 0, .string ⟨#[]⟩, .slice none 0 0, .slice none 0 0, .int .i64 0] 31)).alloc (.cells #[] 31)) := ((Below.refl _ wr).alloc (Nat.le_refl _) _).alloc (by simp) _
              have hE0 := World.ownsRow_made (e := 31) (size := 9) (base := w.heap.size + 1) (wr.alloc (.cells #[.int .i64 7, .int .u64 (msk : Int), .bool false, .string ⟨#[]⟩, .int .i64 0, .string ⟨#[]⟩, .slice none 0 0, .slice none 0 0, .int .i64 0] 31)) #[] 0 (by simp; omega) (by decide) rfl
              rw [show (wr.alloc (.cells #[.int .i64 7, .int .u64 (msk : Int), .bool false, .string ⟨#[]⟩, .int .i64 0, .string ⟨#[]⟩, .slice none 0 0, .slice none 0 0, .int .i64 0] 31)).heap.size = wr.heap.size + 1 by simp] at hE0
              have HE0 := khide hE0
              clear hE0
              obtain ⟨css, s1, s2, hown, s4⟩ := (kunhide HR).1.part hBX
              have n1 : (css.drop fr).flatten.length = (Ts.length - fr) * 9 := by rw [flat_len _ (fun c hc => (s2 c (List.mem_of_mem_drop hc)).1), List.length_drop, s1]
              have n2 := row_news (d := 0) (fun c hc => (s2 c hc).1) hown fr
              have n3 := part_one (fun c hc => s2 c (List.mem_of_mem_drop (i := fr) hc))
              have HS := khide (And.intro s1 (And.intro s2 s4))
              have HN := khide (And.intro n1 (And.intro n2 n3))
              have HBX := khide hBX
              clear s1 s2 s4 hown n1 n2 n3 hBX hq8
              by_cases hcf : fr = cap
              · subst hcf
                have l0 : Ts.length - fr = 0 := by omega
                go_wp2_with (at_builtin; go_loud (refine wpList_append_own2 _ rfl _ _ 28 rfl (w.heap.size + 1) 31 i0 (.agg #[.int .i64 0, .int .u64 0, .bool false, .string ⟨#[]⟩, .int .i64 0, .string ⟨#[]⟩, .slice none 0 0, .slice none 0 0, .int .i64 0]) 9 120 Tryd.underlying28 hi hz0 hz1 hz2 rfl (by decide) (wr.heap.size + 1) 0 0 [] rfl (kunhide HE0) _ _ _ (css.drop fr).flatten rfl (by rw [(kunhide HN).1, l0]) (fun j u hj => absurd hj (by rw [List.getElem?_eq_none (by rw [(kunhide HN).1]; omega)]; simp)) (kunhide HN).2.2 (by unfold maxLen; omega) (by omega) (by simp; omega) ?_))
                intro g1 cap1 X1 hown1 hgr1 hgg1
                have hB1 : Below wr.heap.size wr X1 := (kunhide HBX).grown hgr1 (by simp; omega) (fun q hq => by have := Option.some.inj hq; omega)
                have hbx1 : Box X1 wr.heap.size #[.int .i64 7, .int .u64 (msk : Int), .bool false, .string ⟨#[]⟩, .int .i64 0, .string ⟨#[]⟩, .slice none 0 0, .slice none 0 0, .int .i64 0] := ((Box.new wr _ _).kept (Kept.of_below (ok := anyB) ((Below.refl _ _).alloc (Nat.le_refl _) _)) trivial).kept (Kept.of_grown hgr1) (by intro e; have := Option.some.inj e; omega)
                have hlt1 := (hown1.lt g1 rfl).2
                have hgl1 : wr.heap.size < g1 := by
                  rcases hgg1 with e | e
                  · omega
                  · have : wr.heap.size + 1 + 1 ≤ g1 := by simpa using e
                    omega
                have hp1 : RowOk (fun b => w.heap.size + 1 ≤ b ∧ b < wr.heap.size) (w.heap.size + 1) X1 i g1 cap1 (Ts.drop fr) := by
                  obtain ⟨s1, s2, s4⟩ := kunhide HS
                  refine row_part9 (css' := css.drop fr) (by simp [s1]) (fun c hc => s2 c (List.mem_of_mem_drop hc)) ?_ ?_ hgr1 (by omega)
                  · intro j j1 j2
                    have := s4 (fr + j) (by simp at j1; omega) (by simp at j2; omega)
                    simpa only [List.getElem_drop] using this
                  · have := hown1
                    (try simp only [Nat.zero_add, List.nil_append] at this)
                    rw [l2, l0]
                    exact this
                have e3 : (X1.setCell ⟨wr.heap.size, 7, none⟩ (.slice (some ⟨g1, 0, none⟩) 0 cap1)).heap.size = X1.heap.size := by simp [World.setCell]
                have hB3 : Below wr.heap.size wr ((X1.setCell ⟨wr.heap.size, 7, none⟩ (.slice (some ⟨g1, 0, none⟩) 0 cap1)).alloc (.cells #[] 31)) := (hB1.setCell (p := ⟨wr.heap.size, 7, none⟩) (Nat.le_refl _) _).alloc (by rw [e3]; exact hB1.size) _
                have hE := World.ownsRow_made (e := 31) (size := 9) (base := w.heap.size + 1) (X1.setCell ⟨wr.heap.size, 7, none⟩ (.slice (some ⟨g1, 0, none⟩) 0 cap1)) #[] 0 (by rw [e3]; have := hB1.size; omega) (by decide) rfl
                rw [e3] at hE
                obtain ⟨css2, s1, s2, hownR, s4⟩ := (kunhide HR).1.part hB3
                have n1 : (css2.take fr).flatten.length = fr * 9 := by rw [flat_len _ (fun c hc => (s2 c (List.mem_of_mem_take hc)).1), List.length_take, s1]; omega
                have n2 := row_take (fun c hc => (s2 c hc).1) hownR fr
                have n3 := part_one (fun c hc => s2 c (List.mem_of_mem_take (i := fr) hc))
                have HS2 := khide (And.intro s1 (And.intro s2 s4))
                have HN2 := khide (And.intro n1 (And.intro n2 n3))
                have HE := khide hE
                have HBX1 := khide hbx1
                have HQ := khide (And.intro hB1 (And.intro hlt1 (And.intro hgl1 (And.intro hp1 (And.intro e3 hB3)))))
                have hB1s := hB1.size
                obtain ⟨b1, f1, hz⟩ := hbx1
                clear s1 s2 s4 hownR n1 n2 n3 hB1 hlt1 hgl1 hp1 hB3 hE e3 hown1 hgr1 hgg1
                go_wp2_with (at_builtin; go_loud (refine wpList_append_own2 _ rfl _ _ 28 rfl (w.heap.size + 1) 31 i0 (.agg #[.int .i64 0, .int .u64 0, .bool false, .string ⟨#[]⟩, .int .i64 0, .string ⟨#[]⟩, .slice none 0 0, .slice none 0 0, .int .i64 0]) 9 120 Tryd.underlying28 hi hz0 hz1 hz2 rfl (by decide) X1.heap.size 0 0 [] rfl (kunhide HE) _ _ _ (css2.take fr).flatten rfl (kunhide HN2).1 (kunhide HN2).2.1 (kunhide HN2).2.2 (by unfold maxLen; omega) (by omega) (by simp; omega) ?_))
                intro g2 cap2 X4 hown2 hgr2 hgg2
                obtain ⟨hB1, hlt1, hgl1, hp1, e3, hB3⟩ := kunhide HQ
                have hB4 : Below wr.heap.size wr X4 := hB3.grown hgr2 (by simp [World.setCell]; omega) (fun q hq => by have := Option.some.inj hq; omega)
                have hbx4 := (((kunhide HBX1).set 7 (.slice (some ⟨g1, 0, none⟩) 0 cap1) (by simp) (nine_set _ _ _ _ _ _ _ _ _ _ 7 (by omega))).kept (Kept.of_below (ok := anyB) ((Below.refl _ _).alloc (Nat.le_refl _) _)) trivial).kept (Kept.of_grown hgr2) (by intro e; have := Option.some.inj e; omega)
                have hgl2 : g1 < g2 := by
                  rcases hgg2 with e | e
                  · omega
                  · have : X1.heap.size + 1 ≤ g2 := by simpa [World.setCell] using e
                    omega
                have hp2 : RowOk (fun b => w.heap.size + 1 ≤ b ∧ b < wr.heap.size) (w.heap.size + 1) X4 i g2 cap2 (Ts.take fr) := by
                  obtain ⟨s1, s2, s4⟩ := kunhide HS2
                  refine row_part9 (css' := css2.take fr) (by simp [s1]) (fun c hc => s2 c (List.mem_of_mem_take hc)) ?_ ?_ hgr2 (by omega)
                  · intro j j1 j2
                    have := s4 j (by simp at j1; omega) (by simp at j2; omega)
                    simpa only [List.getElem_take] using this
                  · have := hown2
                    (try simp only [Nat.zero_add, List.nil_append] at this)
                    rw [l1]
                    exact this
                have hp3 : RowOk (fun b => w.heap.size + 1 ≤ b ∧ b < wr.heap.size) (w.heap.size + 1) X4 i g1 cap1 (Ts.drop fr) := by
                  have q1 := hp1.keep (ok' := fun b => w.heap.size + 1 ≤ b ∧ b < wr.heap.size) (setCell_kept (ok := fun b => b ≠ wr.heap.size) X1 ⟨wr.heap.size, 7, none⟩ (.slice (some ⟨g1, 0, none⟩) 0 cap1) (fun b hb => hb)) (fun b _ hb => ⟨by omega, hb⟩) (by omega) (Nat.le_refl _)
                  have q2 := q1.keep (ok' := fun b => w.heap.size + 1 ≤ b ∧ b < wr.heap.size) (Kept.of_below (ok := anyB) ((Below.refl _ _).alloc (o := .cells #[] 31) (Nat.le_refl _))) (fun b _ hb => ⟨trivial, hb⟩) trivial (Nat.le_refl _)
                  exact q2.keep (Kept.of_grown hgr2) (fun b hb2 hb => ⟨by intro e; have := Option.some.inj e; omega, hb⟩) (by intro e; have := Option.some.inj e; omega) (Nat.le_refl _)
                have HG := khide (Arm.kids (msk := msk) (kd := 7) (by decide) hfr hfr2 hp2 hp3 (by rw [l0]; exact hbx4) hB4 (by omega) hgl1 (by omega) hwh (kunhide HR).2.1 (kunhide HR).2.2)
                clear hown2 hgr2 hgg2 hB1 hlt1 hgl1 hp1 e3 hB3 hB4 hbx4 hp2 hp3 b1 f1 hz
                go_wp2_with fail
                go_meet
                case rel => exact kunhide HG
              · have hcf2 : ¬ cap = fr := fun e => hcf e.symm
                go_wp2_with (at_builtin; go_loud (refine wpList_append_own2 _ rfl _ _ 28 rfl (w.heap.size + 1) 31 i0 (.agg #[.int .i64 0, .int .u64 0, .bool false, .string ⟨#[]⟩, .int .i64 0, .string ⟨#[]⟩, .slice none 0 0, .slice none 0 0, .int .i64 0]) 9 120 Tryd.underlying28 hi hz0 hz1 hz2 rfl (by decide) (wr.heap.size + 1) 0 0 [] rfl (kunhide HE0) _ _ _ (css.drop fr).flatten rfl (kunhide HN).1 (kunhide HN).2.1 (kunhide HN).2.2 (by unfold maxLen; omega) (by omega) (by simp; omega) ?_))
                intro g1 cap1 X1 hown1 hgr1 hgg1
                have hB1 : Below wr.heap.size wr X1 := (kunhide HBX).grown hgr1 (by simp; omega) (fun q hq => by have := Option.some.inj hq; omega)
                have hbx1 : Box X1 wr.heap.size #[.int .i64 7, .int .u64 (msk : Int), .bool false, .string ⟨#[]⟩, .int .i64 0, .string ⟨#[]⟩, .slice none 0 0, .slice none 0 0, .int .i64 0] := ((Box.new wr _ _).kept (Kept.of_below (ok := anyB) ((Below.refl _ _).alloc (Nat.le_refl _) _)) trivial).kept (Kept.of_grown hgr1) (by intro e; have := Option.some.inj e; omega)
                have hlt1 := (hown1.lt g1 rfl).2
                have hgl1 : wr.heap.size < g1 := by
                  rcases hgg1 with e | e
                  · omega
                  · have : wr.heap.size + 1 + 1 ≤ g1 := by simpa using e
                    omega
                have hp1 : RowOk (fun b => w.heap.size + 1 ≤ b ∧ b < wr.heap.size) (w.heap.size + 1) X1 i g1 cap1 (Ts.drop fr) := by
                  obtain ⟨s1, s2, s4⟩ := kunhide HS
                  refine row_part9 (css' := css.drop fr) (by simp [s1]) (fun c hc => s2 c (List.mem_of_mem_drop hc)) ?_ ?_ hgr1 (by omega)
                  · intro j j1 j2
                    have := s4 (fr + j) (by simp at j1; omega) (by simp at j2; omega)
                    simpa only [List.getElem_drop] using this
                  · have := hown1
                    (try simp only [Nat.zero_add, List.nil_append] at this)
                    rw [l2]
                    exact this
                have e3 : (X1.setCell ⟨wr.heap.size, 7, none⟩ (.slice (some ⟨g1, 0, none⟩) (Ts.length - fr) cap1)).heap.size = X1.heap.size := by simp [World.setCell]
                have hB3 : Below wr.heap.size wr ((X1.setCell ⟨wr.heap.size, 7, none⟩ (.slice (some ⟨g1, 0, none⟩) (Ts.length - fr) cap1)).alloc (.cells #[] 31)) := (hB1.setCell (p := ⟨wr.heap.size, 7, none⟩) (Nat.le_refl _) _).alloc (by rw [e3]; exact hB1.size) _
                have hE := World.ownsRow_made (e := 31) (size := 9) (base := w.heap.size + 1) (X1.setCell ⟨wr.heap.size, 7, none⟩ (.slice (some ⟨g1, 0, none⟩) (Ts.length - fr) cap1)) #[] 0 (by rw [e3]; have := hB1.size; omega) (by decide) rfl
                rw [e3] at hE
                obtain ⟨css2, s1, s2, hownR, s4⟩ := (kunhide HR).1.part hB3
                have n1 : (css2.take fr).flatten.length = fr * 9 := by rw [flat_len _ (fun c hc => (s2 c (List.mem_of_mem_take hc)).1), List.length_take, s1]; omega
                have n2 := row_take (fun c hc => (s2 c hc).1) hownR fr
                have n3 := part_one (fun c hc => s2 c (List.mem_of_mem_take (i := fr) hc))
                have HS2 := khide (And.intro s1 (And.intro s2 s4))
                have HN2 := khide (And.intro n1 (And.intro n2 n3))
                have HE := khide hE
                have HBX1 := khide hbx1
                have HQ := khide (And.intro hB1 (And.intro hlt1 (And.intro hgl1 (And.intro hp1 (And.intro e3 hB3)))))
                have hB1s := hB1.size
                obtain ⟨b1, f1, hz⟩ := hbx1
                clear s1 s2 s4 hownR n1 n2 n3 hB1 hlt1 hgl1 hp1 hB3 hE e3 hown1 hgr1 hgg1
                go_wp2_with (at_builtin; go_loud (refine wpList_append_own2 _ rfl _ _ 28 rfl (w.heap.size + 1) 31 i0 (.agg #[.int .i64 0, .int .u64 0, .bool false, .string ⟨#[]⟩, .int .i64 0, .string ⟨#[]⟩, .slice none 0 0, .slice none 0 0, .int .i64 0]) 9 120 Tryd.underlying28 hi hz0 hz1 hz2 rfl (by decide) X1.heap.size 0 0 [] rfl (kunhide HE) _ _ _ (css2.take fr).flatten rfl (kunhide HN2).1 (kunhide HN2).2.1 (kunhide HN2).2.2 (by unfold maxLen; omega) (by omega) (by simp; omega) ?_))
                intro g2 cap2 X4 hown2 hgr2 hgg2
                obtain ⟨hB1, hlt1, hgl1, hp1, e3, hB3⟩ := kunhide HQ
                have hB4 : Below wr.heap.size wr X4 := hB3.grown hgr2 (by simp [World.setCell]; omega) (fun q hq => by have := Option.some.inj hq; omega)
                have hbx4 := (((kunhide HBX1).set 7 (.slice (some ⟨g1, 0, none⟩) (Ts.length - fr) cap1) (by simp) (nine_set _ _ _ _ _ _ _ _ _ _ 7 (by omega))).kept (Kept.of_below (ok := anyB) ((Below.refl _ _).alloc (Nat.le_refl _) _)) trivial).kept (Kept.of_grown hgr2) (by intro e; have := Option.some.inj e; omega)
                have hgl2 : g1 < g2 := by
                  rcases hgg2 with e | e
                  · omega
                  · have : X1.heap.size + 1 ≤ g2 := by simpa [World.setCell] using e
                    omega
                have hp2 : RowOk (fun b => w.heap.size + 1 ≤ b ∧ b < wr.heap.size) (w.heap.size + 1) X4 i g2 cap2 (Ts.take fr) := by
                  obtain ⟨s1, s2, s4⟩ := kunhide HS2
                  refine row_part9 (css' := css2.take fr) (by simp [s1]) (fun c hc => s2 c (List.mem_of_mem_take hc)) ?_ ?_ hgr2 (by omega)
                  · intro j j1 j2
                    have := s4 j (by simp at j1; omega) (by simp at j2; omega)
                    simpa only [List.getElem_take] using this
                  · have := hown2
                    (try simp only [Nat.zero_add, List.nil_append] at this)
                    rw [l1]
                    exact this
                have hp3 : RowOk (fun b => w.heap.size + 1 ≤ b ∧ b < wr.heap.size) (w.heap.size + 1) X4 i g1 cap1 (Ts.drop fr) := by
                  have q1 := hp1.keep (ok' := fun b => w.heap.size + 1 ≤ b ∧ b < wr.heap.size) (setCell_kept (ok := fun b => b ≠ wr.heap.size) X1 ⟨wr.heap.size, 7, none⟩ (.slice (some ⟨g1, 0, none⟩) (Ts.length - fr) cap1) (fun b hb => hb)) (fun b _ hb => ⟨by omega, hb⟩) (by omega) (Nat.le_refl _)
                  have q2 := q1.keep (ok' := fun b => w.heap.size + 1 ≤ b ∧ b < wr.heap.size) (Kept.of_below (ok := anyB) ((Below.refl _ _).alloc (o := .cells #[] 31) (Nat.le_refl _))) (fun b _ hb => ⟨trivial, hb⟩) trivial (Nat.le_refl _)
                  exact q2.keep (Kept.of_grown hgr2) (fun b hb2 hb => ⟨by intro e; have := Option.some.inj e; omega, hb⟩) (by intro e; have := Option.some.inj e; omega) (Nat.le_refl _)
                have HG := khide (Arm.kids (msk := msk) (kd := 7) (by decide) hfr hfr2 hp2 hp3 hbx4 hB4 (by omega) hgl1 (by omega) hwh (kunhide HR).2.1 (kunhide HR).2.2)
                clear hown2 hgr2 hgg2 hB1 hlt1 hgl1 hp1 e3 hB3 hB4 hbx4 hp2 hp3 b1 f1 hz
                go_wp2_with fail
                go_meet
                case rel => exact kunhide HG
            · go_wp2_with fail
              go_meet
              case rel => exact Arm.leaf false _ 0 _ 8 40 (by simp [HdOk]) (Box.new _ _ _) ((Below.refl _ _).alloc (Nat.le_refl _) _) (kunhide HR).1 (kunhide HR).2.1 (kunhide HR).2.2
        case rest =>
            obtain ⟨h, l, Ts2, g2, cap2, da, dc, rfl, hk, hks0, hm, hok, hbx, hR2, hK2, hg2, hB2, hs2, hgd2, hgl2⟩ := hcut
            obtain ⟨kd', msk', ng, dg, sc, tx, ks', cd⟩ := h
            obtain rfl : kd' = kd := hk
            obtain rfl : ks' = [] := hks0
            obtain rfl : msk' = msk := hm
            replace hbx : Box wc wr.heap.size #[.int .i64 kd', .int .u64 (msk' : Int), .bool ng, .string dg, .int .i64 sc, .string tx, .slice none 0 0, .slice da l.length dc, .int .i64 cd] := hbx
            have hl7 : l.length ≤ 7 := hok.2.2.1
            obtain ⟨b1, f1, hz⟩ := id hbx
            have hBN : Below wr.heap.size wr wc := hB2
            have HA := khide (And.intro hok (And.intro hbx (And.intro hR2 (And.intro hK2 (And.intro hB2 (And.intro hs2 (And.intro hgd2 hgl2)))))))
            have CN : ∀ W, Below wr.heap.size wr W → Calls Tryd.prog 38 #[.slice ka ks.length kc, .int .i64 (l.length : Int)] W fun e w' => ∃ (a' : Option Addr) (cap' : Nat) (out : List ByteArray), e = .returned (.slice a' l.length cap') ∧
                StrsIn (fun b => W.heap.size ≤ b) w' (.slice a' out.length cap') out ∧ Hid (out.length = l.length) ∧ out.Nodup ∧ (∀ x, x ∈ out → keyOk x) ∧ Below W.heap.size W w' := by
              intro W hW
              refine (named_any anyB ka ks.length kc ks l.length W rfl hks hl7 (fun j hj => ?_)).mono ?_
              · obtain ⟨b', o', e, _, hb', hc'⟩ := kunhide HKK j hj
                exact ⟨b', o', e, trivial, Nat.lt_of_lt_of_le hb' hW.size, by rw [hW.cell (by exact hb')]; exact hc'⟩
              · rintro e w' ⟨v', out, rfl, hst, h1, h2, h3, h4⟩
                obtain ⟨a', cap', rfl, hst2⟩ := id hst
                exact ⟨a', cap', out, by rw [h1], hst, khide h1, h2, h3, h4⟩
            have HCN := khide CN
            clear hbx hR2 hK2 hB2 hs2 hgd2 hgl2 hok CN
            go_upto_if 96 with fail
            go_cut [] from 12 to 110 (fun wx => Arm2 (w.heap.size + 1) i wr g2 cap2 Ts2 wx)
            case first =>
              as_aux_lemma =>
                by_cases hk7 : kd' = 7
                · subst hk7
                  have hS : Below wr.heap.size wr wc.drew := hBN.drew
                  have HBX := khide (kunhide HA).2.1
                  replace c5 : wc.cell? ⟨b, o + i * 6 + 5, none⟩ = some (.slice ka ks.length kc) := by rw [hBN.cell (by exact hb)]; exact c5
                  go_upto_region 24 with fail
                  go_region_with (go_at_call 38; refine (kunhide HCN _ hS).mono ?_; rintro e w1 ⟨a', cap', out, rfl, hst, hol, hnd, hko, hb1⟩; have hbx1 := ((kunhide HBX).kept (Kept.of_below (ok := anyB) ((Below.refl _ wc).drew)) trivial).kept (Kept.of_below (ok := anyB) hb1) trivial; clear b1 f1 hz; have HBX1 := khide hbx1; obtain ⟨b1, f1, hz⟩ := hbx1)
                  all_goals
                    have HO := khide (And.intro hst (And.intro hol (And.intro hnd (And.intro hko hb1))))
                    clear hst hol hnd hko hb1
                    go_wp2_with fail
                    go_meet
                    case rel =>
                      obtain ⟨hst, hol, hnd, hko, hb1⟩ := kunhide HO
                      replace hol := kunhide hol
                      obtain ⟨hok, hbx, hR2, hK2, hB2, hs2, hgd2, hgl2⟩ := kunhide HA
                      have hg2w : g2 < wc.heap.size := by obtain ⟨_, _, _, hown, _⟩ := hR2; exact (hown.lt g2 rfl).2
                      have hg2l : w.heap.size + 1 ≤ g2 := by obtain ⟨_, _, _, hown, _⟩ := hR2; exact (hown.lt g2 rfl).1
                      have hwl : w.heap.size + 1 ≤ wc.heap.size := by omega
                      have hwd : wc.drew.heap.size = wc.heap.size := rfl
                      have K1 : Kept anyB wc w1 := (Kept.of_below ((Below.refl _ wc).drew)).trans (Kept.of_below hb1)
                      have K2 : Kept (fun b => b ≠ wr.heap.size) w1 (w1.setCell ⟨wr.heap.size, 6, none⟩ (.slice a' l.length cap')) := setCell_kept _ _ _ (fun b hb => hb)
                      have K3 : Kept (fun b => w.heap.size + 1 ≤ b ∧ b ≠ g2 ∧ b ≠ wr.heap.size) wc (w1.setCell ⟨wr.heap.size, 6, none⟩ (.slice a' l.length cap')) := (K1.weak (fun _ _ _ => trivial)).trans (K2.weak (fun b _ hb => hb.2.2))
                      have hbx7 : Box (w1.setCell ⟨wr.heap.size, 6, none⟩ (.slice a' l.length cap')) wr.heap.size #[.int .i64 7, .int .u64 (msk' : Int), .bool ng, .string dg, .int .i64 sc, .string tx, .slice a' out.length cap', .slice da l.length dc, .int .i64 cd] := by
                        rw [hol]
                        exact (kunhide HBX1).set 6 _ (by simp) (nine_set _ _ _ _ _ _ _ _ _ _ 6 (by omega))
                      refine ⟨⟨7, msk', ng, dg, sc, tx, out, cd⟩, l, a', cap', da, dc, ⟨hok, fun _ => ⟨hol, hnd, hko⟩, fun e => absurd rfl e⟩, hbx7, ?_, ?_, ?_, hs2, hgd2, hgl2⟩
                      · exact (hR2.keep (ok' := fun b => w.heap.size + 1 ≤ b ∧ b ≠ g2 ∧ b ≠ wr.heap.size) K1 (fun b _ hb => ⟨trivial, hb⟩) trivial (Nat.le_refl _)).keep K2 (fun b _ hb => ⟨hb.2.2, hb.1, hb.2.1⟩) hg2 (Nat.le_refl _)
                      · refine ⟨_, l, _, _, rfl, rfl, hmsk, hst.keep (ok' := fun b => w.heap.size + 1 ≤ b ∧ b ≠ g2) (K2.weak (ok := fun b => wc.drew.heap.size ≤ b) (fun b _ hb => by have hb3 : wc.heap.size ≤ b := hb; have hbz := hbx.2.2; omega)) (fun b _ hb => by have hb2 : wc.heap.size ≤ b := hb; exact ⟨by omega, by omega⟩), hK2.keep (fun _ _ p => p.keep K3 (fun b _ hb => ⟨hb.1, hb.2.1⟩)) K3 (fun b _ hb => ⟨hb.1, hb.2.1⟩)⟩
                      · exact ((hB2.drew).trans (hb1.mono (by rw [hwd]; exact hB2.size))).setCell (p := ⟨wr.heap.size, 6, none⟩) (Nat.le_refl _) _
                · have hkf : (kd' == 7) = false := beq_eq_false_iff_ne.2 hk7
                  go_wp2_with fail
                  go_meet
                  case rel =>
                    obtain ⟨hok, hbx, hR2, hK2, hB2, hs2, hgd2, hgl2⟩ := kunhide HA
                    refine ⟨⟨kd', msk', ng, dg, sc, tx, [], cd⟩, l, none, 0, da, dc, ⟨hok, fun e => absurd e hk7, fun _ => rfl⟩, hbx, ?_, ?_, hB2, hs2, hgd2, hgl2⟩
                    · exact hR2.keep (Kept.refl anyB _) (fun b _ hb => ⟨trivial, hb.1, hb.2.1⟩) trivial (Nat.le_refl _)
                    · exact ⟨_, l, _, _, rfl, rfl, hmsk, ⟨none, 0, rfl, ⟨Nat.le_refl _, fun _ => rfl⟩, fun i hi => absurd hi (by simp)⟩, hK2.keep (fun _ _ p => p.weak (fun b _ hb => ⟨hb.1, hb.2.1⟩)) (Kept.refl anyB _ |>.weak (fun _ _ _ => trivial)) (fun b _ hb => ⟨hb.1, hb.2.1⟩)⟩
            case rest =>
                clear b1 f1 hz hg2 hBN hl7
                obtain ⟨hh, l2, ka2, kc2, da2, dc2, hgood, hbx, hR, hL, hB2, hs2, hgd2, hgl2⟩ := hcut
                obtain ⟨i0, hi, hz0, hz1, hz2⟩ := info_parts kinfo_val
                have hlen2 : Ts2.length ≤ 80 := by have := len_le_sum (sizeT 100) (sizeT_pos 100) Ts2; omega
                have hAl : Below wc.heap.size wc (wc.alloc (.cells #[.int .i64 hh.k, .int .u64 (hh.m : Int), .bool hh.ng, .string hh.dg, .int .i64 hh.sc, .string hh.tx, .slice ka2 hh.ks.length kc2, .slice da2 l2.length dc2, .int .i64 hh.cd] 31)) := (Below.refl _ wc).alloc (Nat.le_refl _) _
                have hg2l := hR.lt
                obtain ⟨css, s1, s2, hown, s4⟩ := hR.keep (Kept.of_below hAl) (i + 1) (by omega)
                have hLX := hL.below hAl
                have HS := khide (And.intro s1 (And.intro s2 (And.intro s4 (And.intro hLX (And.intro hg2l (And.intro hgood (And.intro hs2 (And.intro hgd2 hgl2))))))))
                have HOWN := khide hown
                have HB2 := khide hB2
                have hwcs := hB2.size
                obtain ⟨b1, f1, hz⟩ := hbx
                clear s1 s2 s4 hLX hg2l hgood hs2 hgd2 hgl2 hown hB2 hR hL hAl
                go_wp2_with (at_builtin; go_loud (refine wpList_append_own2 _ rfl _ _ 28 rfl (w.heap.size + 1) 31 i0 (.agg #[.int .i64 0, .int .u64 0, .bool false, .string ⟨#[]⟩, .int .i64 0, .string ⟨#[]⟩, .slice none 0 0, .slice none 0 0, .int .i64 0]) 9 120 Tryd.underlying28 hi hz0 hz1 hz2 rfl (by decide) g2 cap2 Ts2.length css.flatten rfl (kunhide HOWN) ⟨wc.heap.size, 0, none⟩ 1 1 [.int .i64 hh.k, .int .u64 (hh.m : Int), .bool hh.ng, .string hh.dg, .int .i64 hh.sc, .string hh.tx, .slice ka2 hh.ks.length kc2, .slice da2 l2.length dc2, .int .i64 hh.cd] rfl rfl (cells_new _ _ _) (nine_one _ _ _ _ _ _ _ _ _ _ _ _ _) (by unfold maxLen; omega) (by omega) (by simp; omega) ?_))
                intro g3 cap3 X3 hown3 hgr3 hgg3
                obtain ⟨s1, s2, s4, hLX, hg2l, hgood, hs2, hgd2, hgl2⟩ := kunhide HS
                have hRM := RowIn.more (cap := cap2) s1 s2 s4 ⟨rfl, nine_one _ _ _ _ _ _ _ _ _ _ _ _ _⟩ hLX hown3 hgr3 (by simpa using hgg3)
                have hBW : Below (w.heap.size + 1) (w.alloc (.cells #[.int .i64 0, .int .u64 0, .bool false, .string ⟨#[]⟩, .int .i64 0, .string ⟨#[]⟩, .slice none 0 0, .slice none 0 0, .int .i64 0] 31)) X3 := (((kunhide HBB).trans ((kunhide HB2).mono hwh)).alloc (by have := (kunhide HB2).size; omega) _).grown hgr3 (by have := (kunhide HB2).size; simp; omega) (fun q hq => by have := Option.some.inj hq; omega)
                have hsT : sizeT 100 (Tr.mk hh l2) ≤ 1 + (l2.map (sizeT 100)).sum := by
                  have := map_sum_le (sizeT 99) (sizeT 100) (sizeT_more 99) l2
                  show 1 + (l2.map (sizeT 99)).sum ≤ _
                  omega
                have hG : goodT 100 (Tr.mk hh l2) := ⟨hgood, fun k hk => goodT_less 99 k (hgl2 k hk)⟩
                have HF := khide (show gk - 1 < gk ∧ (i + 1) + (gk - 1) = 80 ∧ ((Ts2 ++ [Tr.mk hh l2]).map (sizeT 100)).sum ≤ i + 1 ∧ (∀ t, t ∈ Ts2 ++ [Tr.mk hh l2] → goodT 100 t) ∧ RowIn (w.heap.size + 1) X3 (i + 1) g3 cap3 (Ts2 ++ [Tr.mk hh l2]) ∧ Below (w.heap.size + 1) (w.alloc (.cells #[.int .i64 0, .int .u64 0, .bool false, .string ⟨#[]⟩, .int .i64 0, .string ⟨#[]⟩, .slice none 0 0, .slice none 0 0, .int .i64 0] 31)) X3 from
                  ⟨by omega, by omega, by rw [List.map_append, List.sum_append]; simp only [List.map_cons, List.map_nil, List.sum_cons, List.sum_nil]; omega, fun t ht => by
                    rcases List.mem_append.1 ht with ht | ht
                    · exact hgd2 t ht
                    · rw [List.mem_singleton.1 ht]; exact hG, hRM, hBW⟩)
                clear s1 s2 s4 hLX hg2l hgood hs2 hgd2 hgl2 hRM hBW hsT hG hown3 hgr3 hgg3 b1 f1 hz
                go_wp2_with fail
                go_roundg (gk - 1)
                case measure => exact (kunhide HF).1
                case rel => exact ⟨i + 1, g3, cap3, Ts2 ++ [Tr.mk hh l2], by go_num, (kunhide HF).2.1, (kunhide HF).2.2.1, (kunhide HF).2.2.2.1, by simp, (kunhide HF).2.2.2.2.1, (kunhide HF).2.2.2.2.2⟩
      · --DONE
        have e1 : (i : Int) < (n : Int) := by omega
        have e2 : ¬ (i : Int) < 80 := by omega
        have hlen : Ts.length ≤ 80 := by have := len_le_sum (sizeT 100) (sizeT_pos 100) Ts; omega
        have hBW : Below (w.alloc (.cells #[.int .i64 0, .int .u64 0, .bool false, .string ⟨#[]⟩, .int .i64 0, .string ⟨#[]⟩, .slice none 0 0, .slice none 0 0, .int .i64 0] 31)).heap.size (w.alloc (.cells #[.int .i64 0, .int .u64 0, .bool false, .string ⟨#[]⟩, .int .i64 0, .string ⟨#[]⟩, .slice none 0 0, .slice none 0 0, .int .i64 0] 31)) wr := by simpa using hB
        have hbR := (Box.new w _ 31).kept (ok := fun b => b < w.heap.size + 1) ((Kept.of_below hBW).weak (fun b hb ho => hb)) (Nat.lt_succ_self _)
        have HRS : Hid (∀ r, r < 9 → (wr.cell? ⟨w.heap.size, r, none⟩).isSome = true) := fun r hr => by rw [hbR.1 r, Array.getElem?_eq_getElem (by simpa using hr)]; rfl
        have HB9 := khide (((Below.refl _ w).alloc (Nat.le_refl _) _).trans (hB.mono (by omega)))
        obtain ⟨rb, rf, rz⟩ := hbR
        clear hB hBW
        by_cases h0 : Ts.length = 0
        · obtain rfl := List.eq_nil_of_length_eq_zero h0
          clear h0 hlen hsz hgd hR
          go_wp2_with fail
          change bodyPost _ _ _ _ _ (wr.setCells w.heap.size 0 [.int .i64 1, .int .u64 0, .bool false, .string ⟨#[]⟩, .int .i64 0, .string ⟨#[]⟩, .slice none 0 0, .slice none 0 0, .int .i64 0])
          have hres := res9 wr w.heap.size (.int .i64 1) (.int .u64 0) (.bool false) (.string ⟨#[]⟩) (.int .i64 0) (.string ⟨#[]⟩) (.slice none 0 0) (.slice none 0 0) (.int .i64 0) (kunhide HRS)
          have hBV := setCells_below (kunhide HB9) (G := w.heap.size) (Nat.le_refl _) 0 [.int .i64 1, .int .u64 0, .bool false, .string ⟨#[]⟩, .int .i64 0, .string ⟨#[]⟩, .slice none 0 0, .slice none 0 0, .int .i64 0]
          have hKV := setCells_kept (ok := fun b => w.heap.size + 1 ≤ b) wr w.heap.size 0 [.int .i64 1, .int .u64 0, .bool false, .string ⟨#[]⟩, .int .i64 0, .string ⟨#[]⟩, .slice none 0 0, .slice none 0 0, .int .i64 0] (fun b hb e => by omega)
          generalize wr.setCells w.heap.size 0 [.int .i64 1, .int .u64 0, .bool false, .string ⟨#[]⟩, .int .i64 0, .string ⟨#[]⟩, .slice none 0 0, .slice none 0 0, .int .i64 0] = V at hres hBV hKV ⊢
          obtain ⟨r0, r1, r2, r3, r4, r5, r6, r7, r8⟩ := hres
          refine bodyPost_ret (v := .agg #[.int .i64 1, .int .u64 0, .bool false, .string ⟨#[]⟩, .int .i64 0, .string ⟨#[]⟩, .slice none 0 0, .slice none 0 0, .int .i64 0]) (by simp [results, Tryd.results12, go_sem, r0, r1, r2, r3, r4, r5, r6, r7, r8]) rfl ⟨_, rfl, Tr.mk ⟨1, 0, false, ⟨#[]⟩, 0, ⟨#[]⟩, [], 0⟩ [], ?_, ?_, ?_, hBV⟩
          · exact ⟨_, [], _, _, rfl, rfl, (by decide), ⟨none, 0, rfl, ⟨Nat.le_refl _, fun _ => rfl⟩, fun i hi => absurd hi (by simp)⟩, no_kids _ _ _⟩
          · exact ⟨⟨by simp [HdOk, Tr.hd_mk, Tr.kd_mk], fun e => absurd e (by decide), fun _ => rfl⟩, fun k hk => absurd hk (by simp [Tr.kd_mk])⟩
          · decide
        · obtain ⟨N, hN⟩ : ∃ N, Ts.length = N + 1 := ⟨Ts.length - 1, by omega⟩
          have hW : wrap64 ((Ts.length : Int) - 1) = (N : Int) := by rw [hN]; unfold wrap64; omega
          have hne : ((Ts.length : Int) == 0) = false := beq_eq_false_iff_ne.2 (by omega)
          have hNl : N < Ts.length := by omega
          have hgl := hR.lt
          obtain ⟨a0, c0, e0, _, hkid⟩ := (hR.ok.kids (ok' := fun b => w.heap.size + 1 ≤ b) hgl.1 (fun b _ hb => hb.1))
          cases e0
          obtain ⟨b', o', hd, ka, kn, kc, da, dn, dc, e0, hbl, ⟨x0, x1, x2, x3, x4, x5, x6, x7, x8⟩, hlk⟩ := kid_kept hkid (Kept.refl _ wr) N hNl
          cases e0
          rw [Nat.zero_add] at x0 x1 x2 x3 x4 x5 x6 x7 x8
          have HL := khide (And.intro hlk (And.intro (hgd _ (List.getElem_mem hNl)) (at_le_sum (sizeT 100) Ts N hNl)))
          clear hkid hlk hR hgd hgl
          go_wp2_with fail
          change bodyPost _ _ _ _ _ (wr.setCells w.heap.size 0 [.int .i64 hd.k, .int .u64 (hd.m : Int), .bool hd.ng, .string hd.dg, .int .i64 hd.sc, .string hd.tx, .slice ka kn kc, .slice da dn dc, .int .i64 hd.cd])
          have hres := res9 wr w.heap.size (.int .i64 hd.k) (.int .u64 (hd.m : Int)) (.bool hd.ng) (.string hd.dg) (.int .i64 hd.sc) (.string hd.tx) (.slice ka kn kc) (.slice da dn dc) (.int .i64 hd.cd) (kunhide HRS)
          have hBV := setCells_below (kunhide HB9) (G := w.heap.size) (Nat.le_refl _) 0 [.int .i64 hd.k, .int .u64 (hd.m : Int), .bool hd.ng, .string hd.dg, .int .i64 hd.sc, .string hd.tx, .slice ka kn kc, .slice da dn dc, .int .i64 hd.cd]
          have hKV := setCells_kept (ok := fun b => w.heap.size + 1 ≤ b) wr w.heap.size 0 [.int .i64 hd.k, .int .u64 (hd.m : Int), .bool hd.ng, .string hd.dg, .int .i64 hd.sc, .string hd.tx, .slice ka kn kc, .slice da dn dc, .int .i64 hd.cd] (fun b hb e => by omega)
          generalize wr.setCells w.heap.size 0 [.int .i64 hd.k, .int .u64 (hd.m : Int), .bool hd.ng, .string hd.dg, .int .i64 hd.sc, .string hd.tx, .slice ka kn kc, .slice da dn dc, .int .i64 hd.cd] = V at hres hBV hKV ⊢
          obtain ⟨r0, r1, r2, r3, r4, r5, r6, r7, r8⟩ := hres
          refine bodyPost_ret (v := .agg #[.int .i64 hd.k, .int .u64 (hd.m : Int), .bool hd.ng, .string hd.dg, .int .i64 hd.sc, .string hd.tx, .slice ka kn kc, .slice da dn dc, .int .i64 hd.cd]) (by simp [results, Tryd.results12, go_sem, r0, r1, r2, r3, r4, r5, r6, r7, r8]) rfl ⟨_, rfl, Ts[N]'hNl, ?_, ?_, ?_, hBV⟩
          · exact ((kunhide HL).1.more (m := 100) (by omega)).keep hKV (fun b _ hb => by have hb2 : w.heap.size + 1 ≤ b := hb; show w.heap.size ≤ b; omega)
          · exact (kunhide HL).2.1
          · exact Nat.le_trans (kunhide HL).2.2 (by omega)
    · --DONE
      have e1 : ¬ (i : Int) < (n : Int) := by omega
      have hlen : Ts.length ≤ 80 := by have := len_le_sum (sizeT 100) (sizeT_pos 100) Ts; omega
      have hBW : Below (w.alloc (.cells #[.int .i64 0, .int .u64 0, .bool false, .string ⟨#[]⟩, .int .i64 0, .string ⟨#[]⟩, .slice none 0 0, .slice none 0 0, .int .i64 0] 31)).heap.size (w.alloc (.cells #[.int .i64 0, .int .u64 0, .bool false, .string ⟨#[]⟩, .int .i64 0, .string ⟨#[]⟩, .slice none 0 0, .slice none 0 0, .int .i64 0] 31)) wr := by simpa using hB
      have hbR := (Box.new w _ 31).kept (ok := fun b => b < w.heap.size + 1) ((Kept.of_below hBW).weak (fun b hb ho => hb)) (Nat.lt_succ_self _)
      have HRS : Hid (∀ r, r < 9 → (wr.cell? ⟨w.heap.size, r, none⟩).isSome = true) := fun r hr => by rw [hbR.1 r, Array.getElem?_eq_getElem (by simpa using hr)]; rfl
      have HB9 := khide (((Below.refl _ w).alloc (Nat.le_refl _) _).trans (hB.mono (by omega)))
      obtain ⟨rb, rf, rz⟩ := hbR
      clear hB hBW
      by_cases h0 : Ts.length = 0
      · obtain rfl := List.eq_nil_of_length_eq_zero h0
        clear h0 hlen hsz hgd hR
        go_wp2_with fail
        change bodyPost _ _ _ _ _ (wr.setCells w.heap.size 0 [.int .i64 1, .int .u64 0, .bool false, .string ⟨#[]⟩, .int .i64 0, .string ⟨#[]⟩, .slice none 0 0, .slice none 0 0, .int .i64 0])
        have hres := res9 wr w.heap.size (.int .i64 1) (.int .u64 0) (.bool false) (.string ⟨#[]⟩) (.int .i64 0) (.string ⟨#[]⟩) (.slice none 0 0) (.slice none 0 0) (.int .i64 0) (kunhide HRS)
        have hBV := setCells_below (kunhide HB9) (G := w.heap.size) (Nat.le_refl _) 0 [.int .i64 1, .int .u64 0, .bool false, .string ⟨#[]⟩, .int .i64 0, .string ⟨#[]⟩, .slice none 0 0, .slice none 0 0, .int .i64 0]
        have hKV := setCells_kept (ok := fun b => w.heap.size + 1 ≤ b) wr w.heap.size 0 [.int .i64 1, .int .u64 0, .bool false, .string ⟨#[]⟩, .int .i64 0, .string ⟨#[]⟩, .slice none 0 0, .slice none 0 0, .int .i64 0] (fun b hb e => by omega)
        generalize wr.setCells w.heap.size 0 [.int .i64 1, .int .u64 0, .bool false, .string ⟨#[]⟩, .int .i64 0, .string ⟨#[]⟩, .slice none 0 0, .slice none 0 0, .int .i64 0] = V at hres hBV hKV ⊢
        obtain ⟨r0, r1, r2, r3, r4, r5, r6, r7, r8⟩ := hres
        refine bodyPost_ret (v := .agg #[.int .i64 1, .int .u64 0, .bool false, .string ⟨#[]⟩, .int .i64 0, .string ⟨#[]⟩, .slice none 0 0, .slice none 0 0, .int .i64 0]) (by simp [results, Tryd.results12, go_sem, r0, r1, r2, r3, r4, r5, r6, r7, r8]) rfl ⟨_, rfl, Tr.mk ⟨1, 0, false, ⟨#[]⟩, 0, ⟨#[]⟩, [], 0⟩ [], ?_, ?_, ?_, hBV⟩
        · exact ⟨_, [], _, _, rfl, rfl, (by decide), ⟨none, 0, rfl, ⟨Nat.le_refl _, fun _ => rfl⟩, fun i hi => absurd hi (by simp)⟩, no_kids _ _ _⟩
        · exact ⟨⟨by simp [HdOk, Tr.hd_mk, Tr.kd_mk], fun e => absurd e (by decide), fun _ => rfl⟩, fun k hk => absurd hk (by simp [Tr.kd_mk])⟩
        · decide
      · obtain ⟨N, hN⟩ : ∃ N, Ts.length = N + 1 := ⟨Ts.length - 1, by omega⟩
        have hW : wrap64 ((Ts.length : Int) - 1) = (N : Int) := by rw [hN]; unfold wrap64; omega
        have hne : ((Ts.length : Int) == 0) = false := beq_eq_false_iff_ne.2 (by omega)
        have hNl : N < Ts.length := by omega
        have hgl := hR.lt
        obtain ⟨a0, c0, e0, _, hkid⟩ := (hR.ok.kids (ok' := fun b => w.heap.size + 1 ≤ b) hgl.1 (fun b _ hb => hb.1))
        cases e0
        obtain ⟨b', o', hd, ka, kn, kc, da, dn, dc, e0, hbl, ⟨x0, x1, x2, x3, x4, x5, x6, x7, x8⟩, hlk⟩ := kid_kept hkid (Kept.refl _ wr) N hNl
        cases e0
        rw [Nat.zero_add] at x0 x1 x2 x3 x4 x5 x6 x7 x8
        have HL := khide (And.intro hlk (And.intro (hgd _ (List.getElem_mem hNl)) (at_le_sum (sizeT 100) Ts N hNl)))
        clear hkid hlk hR hgd hgl
        go_wp2_with fail
        change bodyPost _ _ _ _ _ (wr.setCells w.heap.size 0 [.int .i64 hd.k, .int .u64 (hd.m : Int), .bool hd.ng, .string hd.dg, .int .i64 hd.sc, .string hd.tx, .slice ka kn kc, .slice da dn dc, .int .i64 hd.cd])
        have hres := res9 wr w.heap.size (.int .i64 hd.k) (.int .u64 (hd.m : Int)) (.bool hd.ng) (.string hd.dg) (.int .i64 hd.sc) (.string hd.tx) (.slice ka kn kc) (.slice da dn dc) (.int .i64 hd.cd) (kunhide HRS)
        have hBV := setCells_below (kunhide HB9) (G := w.heap.size) (Nat.le_refl _) 0 [.int .i64 hd.k, .int .u64 (hd.m : Int), .bool hd.ng, .string hd.dg, .int .i64 hd.sc, .string hd.tx, .slice ka kn kc, .slice da dn dc, .int .i64 hd.cd]
        have hKV := setCells_kept (ok := fun b => w.heap.size + 1 ≤ b) wr w.heap.size 0 [.int .i64 hd.k, .int .u64 (hd.m : Int), .bool hd.ng, .string hd.dg, .int .i64 hd.sc, .string hd.tx, .slice ka kn kc, .slice da dn dc, .int .i64 hd.cd] (fun b hb e => by omega)
        generalize wr.setCells w.heap.size 0 [.int .i64 hd.k, .int .u64 (hd.m : Int), .bool hd.ng, .string hd.dg, .int .i64 hd.sc, .string hd.tx, .slice ka kn kc, .slice da dn dc, .int .i64 hd.cd] = V at hres hBV hKV ⊢
        obtain ⟨r0, r1, r2, r3, r4, r5, r6, r7, r8⟩ := hres
        refine bodyPost_ret (v := .agg #[.int .i64 hd.k, .int .u64 (hd.m : Int), .bool hd.ng, .string hd.dg, .int .i64 hd.sc, .string hd.tx, .slice ka kn kc, .slice da dn dc, .int .i64 hd.cd]) (by simp [results, Tryd.results12, go_sem, r0, r1, r2, r3, r4, r5, r6, r7, r8]) rfl ⟨_, rfl, Ts[N]'hNl, ?_, ?_, ?_, hBV⟩
        · exact ((kunhide HL).1.more (m := 100) (by omega)).keep hKV (fun b _ hb => by have hb2 : w.heap.size + 1 ≤ b := hb; show w.heap.size ≤ b; omega)
        · exact (kunhide HL).2.1
        · exact Nat.le_trans (kunhide HL).2.2 (by omega)
end Go.Proofs.YtppkknmgdahniaaDoor
