/- What is proved here: a copy's row of kids lies in a block of its own that may be written to. What is proved here: package tree's Same is true of one tree, walked; what the document's own With makes of a value. -/
import Derived.Test.YtnagecbepidfiaaGreatDoorZDb
import Derived.Deep.LoopGhost
import Derived.Test.YtnagecbepidfiaaGreatDoorZHf
import Derived.Test.YtnagecbepidfiaaGreatDoorZBe
import Derived.OwnWalk
import Derived.BigFrame
import Derived.Deep.RegionHeld3
namespace Go.Proofs.YtnagecbepidfiaaGreatDoor
set_option maxRecDepth 100000
open Go.RowKit
set_option linter.unusedVariables false
set_option linter.unusedSimpArgs false

/-- The row of kids lies in a new block that may be written to. -/
def FreeRow (lo : Nat) (W : World) (v : Value) : Prop := ∀ cs b o n c, v = .agg cs → cs[7]? = some (.slice (some ⟨b, o, none⟩) n c) → lo ≤ b ∧ b < W.heap.size ∧ ∀ r, W.frozen? ⟨b, r, none⟩ = false
theorem FreeRow.nil (lo : Nat) (W : World) (x0 x1 x2 x3 x4 x5 x6 x8 : Value) (n c : Nat) : FreeRow lo W (.agg #[x0, x1, x2, x3, x4, x5, x6, .slice none n c, x8]) := by
  intro cs b o n c e h
  obtain rfl := Value.agg.inj e
  simp at h
theorem FreeRow.one {lo : Nat} {W W0 : World} {G n c : Nat} {t : TypeId} {x0 x1 x2 x3 x4 x5 x6 x8 : Value} (hlo : lo ≤ G) (h0 : W0.heap.size ≤ W.heap.size) (hh : ∃ cur, W.heap[G]? = some (.cells cur t (0, 0))) : FreeRow lo W (.agg #[x0, x1, x2, x3, x4, x5, x6, .slice (some ⟨G, 0, none⟩) n c, x8]) := by
  intro cs b o n c e h
  obtain rfl := Value.agg.inj e
  simp at h
  obtain ⟨⟨rfl, _⟩, _⟩ := h
  obtain ⟨cur, hh⟩ := hh
  exact ⟨hlo, (Array.getElem?_eq_some_iff.1 hh).1, fun r => by simp [World.frozen?, hh]⟩
theorem FreeRow.keep {lo lo' k : Nat} {W V : World} {v : Value} (h : FreeRow lo W v) (hK : Kept (fun b => k ≤ b) W V) (hk : k ≤ lo) (hl : lo' ≤ lo) : FreeRow lo' V v := by
  intro cs b o n c e he
  obtain ⟨h1, h2, h3⟩ := h cs b o n c e he
  exact ⟨by omega, Nat.lt_of_lt_of_le h2 hK.1, fun r => by rw [← h3 r]; exact World.frozen?_of_block (a := ⟨b, r, .none⟩) (hK.2 b (Nat.le_trans hk h1) h2)⟩

end Go.Proofs.YtnagecbepidfiaaGreatDoor

namespace Go.Proofs.YtnagecbepidfiaaGreatDoor
set_option maxRecDepth 100000
open Go.RowKit
set_option linter.unusedVariables false
set_option linter.unusedSimpArgs false

end Go.Proofs.YtnagecbepidfiaaGreatDoor
/- What is proved here: a copy of a labelled value lies in blocks of its own, each row of kids in another one that may be written to; condition: not too many keys and kids anywhere. -/
namespace Go.Proofs.YtnagecbepidfiaaGreatDoor.Pol
set_option maxRecDepth 100000
open Go.RowKit
set_option linter.unusedVariables false
set_option linter.unusedSimpArgs false

/-- The value v is the tree t, at most n levels deep, in blocks from lo to below hi: each row of kids in a block of its own, that may be written to, keys ahead of it, what lies below it behind it, kid by kid. -/
def Own (w : World) : Nat → Nat → Nat → Value → Tr → Prop
  | 0, _, _, _, _ => False
  | n + 1, lo, hi, v, t => ∃ h l kv dv, t = Tr.mk h l ∧ v = .agg (nine h kv dv) ∧ h.m < 18446744073709551616 ∧ ∃ G, lo ≤ G ∧ G ≤ hi ∧ StrsIn (fun b => lo ≤ b ∧ b < G) w kv h.ks ∧ ∃ a cap, dv = .slice a l.length cap ∧ CapOk a l.length cap ∧
      (l.length = 0 ∨ (a = some ⟨G, 0, none⟩ ∧ G < w.heap.size ∧ G < hi ∧ (∀ r, w.frozen? ⟨G, r, none⟩ = false) ∧ ∃ s : Nat → Nat, s 0 = G + 1 ∧ s l.length ≤ hi ∧ (∀ i, i < l.length → s i ≤ s (i + 1)) ∧
        ∀ i, ∀ h : i < l.length, ∃ cs, Row9 w G (i * 9) cs ∧ Own w n (s i) (s (i + 1)) (.agg cs) (l[i]'h)))
theorem _root_.Go.Proofs.YtnagecbepidfiaaGreatDoor.StrsIn.weak2 {ok ok' : Nat → Prop} {w : World} {kv : Value} {ks : List ByteArray} (h : StrsIn ok w kv ks) (hi : ∀ b, ok b → ok' b) : StrsIn ok' w kv ks := h.keep (Kept.refl _ _) (fun b _ hb => hi b hb)
theorem s_mono {s : Nat → Nat} {n : Nat} (h : ∀ i, i < n → s i ≤ s (i + 1)) (i : Nat) : ∀ j, i ≤ j → j ≤ n → s i ≤ s j
  | 0, hi, _ => by obtain rfl : i = 0 := by omega
                   exact Nat.le_refl _
  | j + 1, hi, hj => by
    by_cases e : i = j + 1
    · subst e; exact Nat.le_refl _
    · exact Nat.le_trans (s_mono h i j (by omega) (by omega)) (h j (by omega))
theorem Own.keep {ok : Nat → Prop} {w w' : World} (hK : Kept ok w w') : ∀ {n lo hi : Nat} {v : Value} {t : Tr}, (∀ b, lo ≤ b → b < hi → ok b) → Own w n lo hi v t → Own w' n lo hi v t
  | 0, _, _, _, _, _, h => h.elim
  | n + 1, lo, hi, v, t, ho, ⟨h, l, kv, dv, e1, e2, e3, G, h1, h2, h3, a, cap, e4, e5, h4⟩ => by
    refine ⟨h, l, kv, dv, e1, e2, e3, G, h1, h2, ?_, a, cap, e4, e5, ?_⟩
    · exact (h3.weak2 (ok' := fun b => ok b ∧ (lo ≤ b ∧ b < G)) (fun b hb => ⟨ho b hb.1 (by omega), hb⟩)).keep (hK.weak (ok := fun b => ok b ∧ (lo ≤ b ∧ b < G)) (fun b _ hb => hb.1)) (fun b _ hb => hb.2)
    · refine h4.imp_right ?_
      rintro ⟨f1, f2, f3, f4, s, s0, s1, s2, f5⟩
      have hGo : ok G := ho G h1 f3
      have eG := hK.2 G hGo f2
      refine ⟨f1, Nat.lt_of_lt_of_le f2 hK.1, f3, fun r => by rw [← f4 r]; exact World.frozen?_of_block (a := ⟨G, r, none⟩) eG, s, s0, s1, s2, fun i hi => ?_⟩
      obtain ⟨cs, r, p⟩ := f5 i hi
      have m1 := s_mono s2 0 i (by omega) (by omega)
      have m2 := s_mono s2 (i + 1) l.length (by omega) (by omega)
      exact ⟨cs, r.keep hGo f2 hK, Own.keep hK (fun b b1 b2 => ho b (by omega) (by omega)) p⟩
theorem Own.weak {w : World} {n lo hi lo' hi' : Nat} {v : Value} {t : Tr} (h1 : lo' ≤ lo) (h2 : hi ≤ hi') (h : Own w n lo hi v t) : Own w n lo' hi' v t := by
  cases n with
  | zero => exact h.elim
  | succ n =>
    obtain ⟨h, l, kv, dv, e1, e2, e3, G, g1, g2, g3, a, cap, e4, e5, h4⟩ := h
    refine ⟨h, l, kv, dv, e1, e2, e3, G, by omega, by omega, g3.weak2 (fun b hb => ⟨by omega, hb.2⟩), a, cap, e4, e5, h4.imp_right ?_⟩
    rintro ⟨f1, f2, f3, f4, s, s0, s1, s2, f5⟩
    exact ⟨f1, f2, by omega, f4, s, s0, by omega, s2, f5⟩
theorem Own.lies {w : World} : ∀ {n lo hi : Nat} {v : Value} {t : Tr}, Own w n lo hi v t → Lies (fun b => lo ≤ b ∧ b < hi) w n v t
  | 0, _, _, _, _, h => h.elim
  | n + 1, lo, hi, v, t, ⟨h, l, kv, dv, e1, e2, e3, G, h1, h2, h3, a, cap, e4, e5, h4⟩ => by
    refine ⟨h, l, kv, dv, e1, e2, e3, h3.weak2 (fun b hb => ⟨hb.1, by omega⟩), a, cap, e4, e5, fun i hi => ?_⟩
    obtain ⟨f1, f2, f3, f4, s, s0, s1, s2, f5⟩ := h4.resolve_left (by omega)
    obtain ⟨cs, r, p⟩ := f5 i hi
    have m1 := s_mono s2 0 i (by omega) (by omega)
    have m2 := s_mono s2 (i + 1) l.length (by omega) (by omega)
    exact ⟨G, 0, cs, f1, ⟨h1, f3⟩, f2, by rw [Nat.zero_add]; exact r, p.lies.weak (fun b _ hb => ⟨by omega, by omega⟩)⟩
/-- What lies in a row that is being filled. -/
def FilledO (w : World) (n G k : Nat) (l : List Tr) : Prop :=
  (∃ cur, w.heap[G]? = some (.cells cur 42 (0, 0)) ∧ cur.size = l.length * 9) ∧
  ∃ s : Nat → Nat, s 0 = G + 1 ∧ (∀ i, i < k → s i ≤ s (i + 1)) ∧ s k ≤ w.heap.size ∧ ∀ j, j < k → ∀ h : j < l.length, ∃ cs, Row9 w G (j * 9) cs ∧ Own w n (s j) (s (j + 1)) (.agg cs) (l[j]'h)
theorem FilledO.below {w w' : World} {n G k : Nat} {l : List Tr} (h : FilledO w n G k l) (hb : Below w.heap.size w w') : FilledO w' n G k l := by
  obtain ⟨⟨cur, h1, h2⟩, s, s0, s1, s2, h3⟩ := h
  have hG : G < w.heap.size := (Array.getElem?_eq_some_iff.1 h1).1
  refine ⟨⟨cur, by rw [hb.block G hG]; exact h1, h2⟩, s, s0, s1, Nat.le_trans s2 hb.size, fun j hj hl => ?_⟩
  obtain ⟨cs, r, p⟩ := h3 j hj hl
  exact ⟨cs, r.keep (ok := anyB) trivial hG (Kept.of_below hb), p.keep (ok := anyB) (Kept.of_below hb) (fun _ _ _ => trivial)⟩
theorem FilledO.room {w : World} {n G k : Nat} {l : List Tr} (h : FilledO w n G k l) (i : Nat) (hi : i < l.length) : ∀ r, r < 9 → (∃ v, w.cell? ⟨G, i * 9 + r, none⟩ = some v) ∧ w.frozen? ⟨G, i * 9 + r, none⟩ = false := by
  obtain ⟨⟨cur, h1, h2⟩, _⟩ := h
  intro r hr
  have hlt : i * 9 + r < cur.size := by omega
  exact ⟨⟨cur[i * 9 + r]'hlt, by simp [World.cell?, h1, Array.getElem?_eq_getElem hlt]⟩, by simp [World.frozen?, h1]⟩
theorem FilledO.store {w : World} {n G k : Nat} {l : List Tr} (h : FilledO w n G k l) (hk : k < l.length) (vs : List Value) (hv : vs.length = 9) (hl : ∃ lo, G < lo ∧ (∃ w0, FilledO w0 n G k l ∧ Below w0.heap.size w0 w ∧ w0.heap.size ≤ lo) ∧ Own w n lo w.heap.size (.agg vs.toArray) (l[k]'hk)) :
    FilledO (w.setCells G (k * 9) vs) n G (k + 1) l := by
  have hroom := h.room k hk
  obtain ⟨lo, hGlo, ⟨w0, hf0, hb0, hlo0⟩, hl⟩ := hl
  obtain ⟨⟨cur, h1, h2⟩, _⟩ := h
  have hG0 : G < w0.heap.size := by
    obtain ⟨⟨c, c1, _⟩, _⟩ := hf0
    exact (Array.getElem?_eq_some_iff.1 c1).1
  obtain ⟨_, s, s0, s1, s2, h3⟩ := hf0
  obtain ⟨a1, a2, a3, a4, a5, a6⟩ := set9_props w G (k * 9) vs cur 42 h1 (by omega)
  have hG : G < w.heap.size := (Array.getElem?_eq_some_iff.1 h1).1
  have hkept : Kept (fun b => b ≠ G) w (w.setCells G (k * 9) vs) := ⟨by rw [a1]; exact Nat.le_refl _, fun b hb _ => a5 b hb⟩
  have hmono := s_mono s1
  refine ⟨by obtain ⟨c, c1, c2⟩ := a6; exact ⟨c, c1, by omega⟩, fun j => if j ≤ k then s j else w.heap.size, by simp [s0], fun i hi => ?_, by show (if k + 1 ≤ k then s (k + 1) else w.heap.size) ≤ _; rw [if_neg (by omega), a1]; exact Nat.le_refl _, fun j hj hjl => ?_⟩
  · show (if i ≤ k then s i else w.heap.size) ≤ (if i + 1 ≤ k then s (i + 1) else w.heap.size)
    rw [if_pos (by omega)]
    split
    · exact s1 i (by omega)
    · obtain rfl : i = k := by omega
      exact Nat.le_trans s2 hb0.size
  · show ∃ cs, _ ∧ Own _ n (if j ≤ k then s j else w.heap.size) (if j + 1 ≤ k then s (j + 1) else w.heap.size) _ _
    rw [if_pos (by omega)]
    by_cases e : j = k
    · subst e
      rw [if_neg (by omega)]
      have m0 := hmono 0 j (by omega) (by omega)
      refine ⟨vs.toArray, ?_, (hl.weak (lo' := s j) (hi' := w.heap.size) (by omega) (Nat.le_refl _)).keep hkept (fun b b1 b2 => by omega)⟩
      intro r hr
      have hr9 : r < vs.length := by simpa using hr
      rw [World.cell?_setCells_in G vs (j * 9) w (fun i hi => by obtain ⟨⟨v, hv2⟩, _⟩ := hroom i (by omega); rw [hv2]; rfl) r hr9]
      simp
    · rw [if_pos (by omega)]
      obtain ⟨cs, r0, p0⟩ := h3 j (by omega) hjl
      have r := r0.keep (ok := anyB) trivial hG0 (Kept.of_below hb0)
      have p := p0.keep (ok := anyB) (Kept.of_below hb0) (fun _ _ _ => trivial)
      have m0 := hmono 0 j (by omega) (by omega)
      refine ⟨cs, ?_, p.keep hkept (fun b b1 b2 => by omega)⟩
      intro q hq
      obtain ⟨m, hd, l2, kv, dv, _, _, e3, _⟩ := p.lies.open
      have hq9 : q < 9 := by
        have := Value.agg.inj e3
        rw [this] at hq
        simpa [nine] using hq
      rw [World.cell?_setCells_out G vs (k * 9) w _ (fun _ _ => by show j * 9 + q < k * 9 ∨ k * 9 + vs.length ≤ j * 9 + q; omega)]
      exact r q hq
set_option maxHeartbeats 2000000 in
set_option maxRecDepth 1000000 in
theorem eachkid_own (n : Nat) (v : Value) (h : Hd) (l : List Tr) (w : World) (hl : Lies anyB w (n + 1) v (Tr.mk h l)) (hn : l.length ≤ 1000000) (hkn : h.ks.length ≤ 1000000)
    (C : ∀ v t W, t ∈ l → Lies anyB W n v t → Calls Tryz.prog 60 #[v] W fun e W' => ∃ v', e = .returned v' ∧ Own W' n W.heap.size W'.heap.size v' t ∧ Below W.heap.size W W') :
    Calls Tryz.prog 92 #[v, .func (Fn.func 60) #[] #[]] w fun e w' => ∃ v', e = .returned v' ∧ Own w' (n + 1) w.heap.size w'.heap.size v' (Tr.mk h l) ∧ Below w.heap.size w w' := by
  have hl' := hl
  obtain ⟨h', l', ka, kc, da, dc, e1, rfl, hm64, hkc, hdc, hks, hkid⟩ := hl.node
  obtain ⟨rfl, rfl⟩ := Tr.mk_inj e1
  obtain ⟨i0, hi, hz0, hz1, hz2⟩ := info_parts kinfo_val
  have hq : ∀ W, (binOp .eql 40 (.slice da l.length dc) (.slice none 0 0)).run Tryz.prog W = .ok (.bool da.isNone) W := fun W => Lib.run_eql_slice_nil W _ _ da l.length dc 0 0 Tryz.underlying40
  have CK : ∀ W, Below w.heap.size w W → Calls Tryz.prog 119 #[.slice ka h.ks.length kc] W fun e w' => ∃ v', e = .returned v' ∧ StrsIn (fun b => W.heap.size ≤ b) w' v' h.ks ∧ Below W.heap.size W w' :=
    fun W hB => clones_any anyB _ h.ks W (StrsIn.keep ⟨ka, kc, rfl, hkc, hks⟩ (Kept.of_below hB) (fun _ _ h => h)) hkn
  have HC := khide C
  have HCK := khide CK
  have HKID := khide hkid
  clear C CK hl hl' hks hkid e1
  cases da with
  | none =>
    replace hq : ∀ W, (binOp .eql 40 (.slice none l.length dc) (.slice none 0 0)).run Tryz.prog W = .ok (.bool true) W := hq
    go_enter Tryz.func92, Tryz.ntmps92
    go_wp2_with fail
    refine (kunhide HCK _ (((Below.refl _ w).alloc (Nat.le_refl _) _).alloc (by simp) _)).mono ?_
    rintro e W1 ⟨kv', rfl, hst, hB1⟩
    obtain ⟨b1, b2, f1, f2, hz, hB⟩ := box2 w _ _ _ _ W1 hB1
    obtain ⟨ka2, kc2, rfl, hkc2, hks2⟩ := hst
    have HK2 := khide hks2
    have HB := khide hB
    have HB1 := khide hB1
    clear hks2 hB hB1
    go_wp2_with fail
    change bodyPost _ _ _ _ _ ((W1.setCell ⟨w.heap.size, 6, none⟩ (.slice ka2 h.ks.length kc2)).setCells (w.heap.size + 1) 0 [.int .i64 h.k, .int .u64 (h.m : Int), .bool h.ng, .string h.dg, .int .i64 h.sc, .string h.tx, .slice ka2 h.ks.length kc2, .slice none l.length dc, .int .i64 h.cd])
    have hres := res9 (W1.setCell ⟨w.heap.size, 6, none⟩ (.slice ka2 h.ks.length kc2)) (w.heap.size + 1) (.int .i64 h.k) (.int .u64 (h.m : Int)) (.bool h.ng) (.string h.dg) (.int .i64 h.sc) (.string h.tx) (.slice ka2 h.ks.length kc2) (.slice none l.length dc) (.int .i64 h.cd)
      (fun r hr => by
        rw [World.cell?_setCell_other _ _ _ _ (fun e => by have := (Addr.mk.inj e).1; omega), b2 r]
        rw [Array.getElem?_eq_getElem (by simpa using hr)]
        rfl)
    have hBV := setCells_below ((kunhide HB).setCell (p := ⟨w.heap.size, 6, none⟩) (Nat.le_refl _) (.slice ka2 h.ks.length kc2)) (G := w.heap.size + 1) (by omega) 0 [.int .i64 h.k, .int .u64 (h.m : Int), .bool h.ng, .string h.dg, .int .i64 h.sc, .string h.tx, .slice ka2 h.ks.length kc2, .slice none l.length dc, .int .i64 h.cd]
    have hKV : Kept (fun b => w.heap.size + 2 ≤ b) W1 ((W1.setCell ⟨w.heap.size, 6, none⟩ (.slice ka2 h.ks.length kc2)).setCells (w.heap.size + 1) 0 [.int .i64 h.k, .int .u64 (h.m : Int), .bool h.ng, .string h.dg, .int .i64 h.sc, .string h.tx, .slice ka2 h.ks.length kc2, .slice none l.length dc, .int .i64 h.cd]) :=
      (setCell_kept _ _ _ (fun b hb e => by have e2 : b = w.heap.size := e; omega)).trans (setCells_kept _ _ _ _ (fun b hb e => by omega))
    generalize (W1.setCell ⟨w.heap.size, 6, none⟩ (.slice ka2 h.ks.length kc2)).setCells (w.heap.size + 1) 0 [.int .i64 h.k, .int .u64 (h.m : Int), .bool h.ng, .string h.dg, .int .i64 h.sc, .string h.tx, .slice ka2 h.ks.length kc2, .slice none l.length dc, .int .i64 h.cd] = V at hres hBV hKV ⊢
    obtain ⟨r0, r1, r2, r3, r4, r5, r6, r7, r8⟩ := hres
    have hl0 : l = [] := by
      have h1 := hdc.1
      have h2 := hdc.2 rfl
      exact List.eq_nil_of_length_eq_zero (by omega)
    have hks3 := StrsIn.keep (ok := fun b => w.heap.size + 2 ≤ b) (ok' := fun b => w.heap.size ≤ b ∧ b < V.heap.size) ⟨ka2, kc2, rfl, hkc2, by simpa using kunhide HK2⟩ hKV (fun b hbl hb => ⟨by omega, Nat.lt_of_lt_of_le hbl hKV.1⟩)
    refine bodyPost_ret (v := .agg #[.int .i64 h.k, .int .u64 (h.m : Int), .bool h.ng, .string h.dg, .int .i64 h.sc, .string h.tx, .slice ka2 h.ks.length kc2, .slice none l.length dc, .int .i64 h.cd]) (by simp [results, Tryz.results92, go_sem, r0, r1, r2, r3, r4, r5, r6, r7, r8]) rfl ⟨_, rfl, ?_, hBV⟩
    subst hl0
    exact ⟨h, [], _, _, rfl, rfl, hm64, V.heap.size, hBV.size, Nat.le_refl _, hks3, none, dc, rfl, hdc, .inl rfl⟩
  | some a =>
    replace hq : ∀ W, (binOp .eql 40 (.slice (some a) l.length dc) (.slice none 0 0)).run Tryz.prog W = .ok (.bool false) W := hq
    go_enter Tryz.func92, Tryz.ntmps92
    go_wp2_with fail
    refine (kunhide HCK _ (((Below.refl _ w).alloc (Nat.le_refl _) _).alloc (by simp) _)).mono ?_
    rintro e W1 ⟨kv', rfl, hst, hB1⟩
    obtain ⟨b1, b2, f1, f2, hz, hB⟩ := box2 w _ _ _ _ W1 hB1
    obtain ⟨ka2, kc2, rfl, hkc2, hks2⟩ := hst
    have HK2 := khide hks2
    have HB := khide hB
    have HB1 := khide hB1
    have hn9 : ((l.length : Nat) : Int) ≤ 1000000 := by omega
    clear hks2 hB hB1
    go_wp2_with (at_make; refine wpList_make_full _ rfl (.tmp 18) (.tmp 18) 40 rfl w.heap.size 42 i0 (.agg #[.int .i64 0, .int .u64 0, .bool false, .string ⟨#[]⟩, .int .i64 0, .string ⟨#[]⟩, .slice none 0 0, .slice none 0 0, .int .i64 0]) 9 Tryz.underlying40 hi hz0 hz1 .i64 .i64 _ _ l.length rfl rfl rfl rfl (by rw [hz2]; omega) (by unfold maxLen; omega) (by have := (kunhide HB).size; simp [World.setCell]; omega) ?_)
    intro w2 hown hgrow
    obtain ⟨x1, x2, x3⟩ := box_set W1 w.heap.size 6 _ _ (.slice ka2 h.ks.length kc2) (by simp) b1 b2
    have hXsz : (W1.setCell ⟨w.heap.size, 6, none⟩ (.slice ka2 h.ks.length kc2)).heap.size = W1.heap.size := by simp [World.setCell]
    have hX2 : ∀ wr, Below W1.heap.size w2 wr → ∀ b o, b < W1.heap.size → wr.cell? ⟨b, o, none⟩ = (W1.setCell ⟨w.heap.size, 6, none⟩ (.slice ka2 h.ks.length kc2)).cell? ⟨b, o, none⟩ := by
      intro wr hwr b o hb
      rw [hwr.cell (p := ⟨b, o, none⟩) hb]
      exact World.cell?_of_block (a := ⟨b, o, none⟩) (hgrow.block b (by rw [hXsz]; exact hb) (by simp))
    have hXf : ∀ wr, Below W1.heap.size w2 wr → ∀ b o, b < W1.heap.size → wr.frozen? ⟨b, o, none⟩ = W1.frozen? ⟨b, o, none⟩ := by
      intro wr hwr b o hb
      rw [hwr.frozen (p := ⟨b, o, none⟩) hb]
      have e := World.frozen?_of_block (a := ⟨b, o, none⟩) (hgrow.block b (by rw [hXsz]; exact hb) (by simp))
      rw [e, World.frozen?_setCell]
    have hBX : Below w.heap.size w w2 := ((kunhide HB).setCell (p := ⟨w.heap.size, 6, none⟩) (Nat.le_refl _) _).grown hgrow (by rw [hXsz]; omega) (fun j hj => by cases hj)
    have hG : w2.heap[W1.heap.size]? = some (.cells (madeCells #[.int .i64 0, .int .u64 0, .bool false, .string ⟨#[]⟩, .int .i64 0, .string ⟨#[]⟩, .slice none 0 0, .slice none 0 0, .int .i64 0] (l.length * 9)) 42 (0, 0)) ∨ ∃ cur, w2.heap[W1.heap.size]? = some (.cells cur 42 (0, 0)) ∧ cur.size = l.length * 9 := by
      rcases hown.2 with ⟨e, _⟩ | ⟨g, cap, cur, e, hg, hh, hnn, hmm, hss, htt⟩
      · cases e
      · have e2 := Value.slice.inj e
        obtain ⟨e3, e4, e5⟩ := e2
        have e6 := Option.some.inj e3
        obtain ⟨rfl, _, _⟩ := Addr.mk.inj e6
        exact .inr ⟨cur, hh, by rw [hss, ← e5]⟩
    have hF0 : FilledO w2 n W1.heap.size 0 l := by
      have hW2s : W1.heap.size < w2.heap.size := by
        rcases hG with h | ⟨cur, h, _⟩ <;> exact (Array.getElem?_eq_some_iff.1 h).1
      refine ⟨?_, fun _ => W1.heap.size + 1, rfl, fun i hi => Nat.le_refl _, hW2s, fun j hj => by omega⟩
      rcases hG with hG | hG
      · exact ⟨_, hG, by simp [madeCells]⟩
      · exact hG
    have hks3 : StrsIn (fun b => w.heap.size + 2 ≤ b ∧ b < W1.heap.size) W1 (.slice ka2 h.ks.length kc2) h.ks := StrsIn.keep (ok := fun b => w.heap.size + 2 ≤ b) ⟨ka2, kc2, rfl, hkc2, by simpa using kunhide HK2⟩ (Kept.refl _ _) (fun b hb h => ⟨h, hb⟩)
    have d7 : w2.cell? ⟨w.heap.size, 7, none⟩ = some (.slice (some a) l.length dc) := (hX2 w2 (Below.refl _ _) w.heap.size 7 (by omega)).trans (x1 7 (by omega))
    have hXB : ∀ wr, Below W1.heap.size w2 wr → ∀ b, b < W1.heap.size → b ≠ w.heap.size → wr.heap[b]? = W1.heap[b]? := by
      intro wr hwr b hb hbs
      rw [hwr.block b hb, hgrow.block b (by rw [hXsz]; exact hb) (by simp), Below.heap_setCell _ _ _ _ hbs]
    have HXB := khide hXB
    have HX2 := khide hX2
    have HXF := khide hXf
    have HX1 := khide x1
    have HX3 := khide x3
    have HXX := khide x2
    have HBX := khide hBX
    have HF0 := khide hF0
    have HKS := khide hks3
    have HF1 := khide f1
    have HF2 := khide f2
    have HZ := khide hz
    clear hXB x1 x2 x3 hX2 hXf hBX hG hF0 hgrow hown hks3 b1 b2 f1 f2 hXsz HK2 hz
    go_wp2_with fail
    go_loopw [23] (fun i wr => ∃ k : Nat, i = .int .i64 (k : Int) ∧ k ≤ l.length ∧ Below W1.heap.size w2 wr ∧ FilledO wr n W1.heap.size k l) (fun i _ => l.length - (intOf i).toNat)
    case atStart => exact ⟨0, rfl, by omega, Below.refl _ _, kunhide HF0⟩
    case round =>
      obtain ⟨k, rfl, hk9, hBr, hFr⟩ := hrel
      have hBwr : Below w.heap.size w wr := (kunhide HBX).trans (hBr.mono (by have := kunhide HZ; omega))
      by_cases hlt : k < l.length
      · obtain ⟨b, o, hd2, ka3, kn3, kc3, da3, dn3, dc3, hao, hb, ⟨c0, c1, c2, c3, c4, c5, c6, c7, c8⟩, hlies⟩ := kid_at (kunhide HKID) hBwr k hlt
        obtain rfl := Option.some.inj hao
        clear hao
        have HBR := khide hBr
        have HFR := khide hFr
        have HBW := khide hBwr
        have hgsz : W1.heap.size < wr.heap.size := by
          obtain ⟨⟨cur, h1, _⟩, _⟩ := hFr
          exact (Array.getElem?_eq_some_iff.1 h1).1
        have HGS := khide hgsz
        clear d7 hBr hFr hBwr hgsz
        go_wp2_with fail
        refine (kunhide HC _ (l[k]'hlt) _ (List.getElem_mem hlt) (Lies.below ((Below.refl _ _).alloc (Nat.le_refl _) _) hlies)).mono ?_
        rintro e W2 ⟨v', rfl, hlv, hB2⟩
        have hFW : FilledO W2 n W1.heap.size k l := ((kunhide HFR).below ((Below.refl _ _).alloc (Nat.le_refl _) _)).below hB2
        obtain ⟨hd4, ka4, kn4, kc4, da4, dn4, dc4, rfl⟩ := hlv.lies.shape
        have hroom := hFW.room k hlt
        obtain ⟨⟨g0, y0⟩, z0⟩ := hroom 0 (by omega)
        obtain ⟨⟨g1, y1⟩, z1⟩ := hroom 1 (by omega)
        obtain ⟨⟨g2, y2⟩, z2⟩ := hroom 2 (by omega)
        obtain ⟨⟨g3, y3⟩, z3⟩ := hroom 3 (by omega)
        obtain ⟨⟨g4, y4⟩, z4⟩ := hroom 4 (by omega)
        obtain ⟨⟨g5, y5⟩, z5⟩ := hroom 5 (by omega)
        obtain ⟨⟨g6, y6⟩, z6⟩ := hroom 6 (by omega)
        obtain ⟨⟨g7, y7⟩, z7⟩ := hroom 7 (by omega)
        obtain ⟨⟨g8, y8⟩, z8⟩ := hroom 8 (by omega)
        rw [Nat.add_zero] at y0 z0
        have hlv2 : ∃ lo, W1.heap.size < lo ∧ (∃ w0, FilledO w0 n W1.heap.size k l ∧ Below w0.heap.size w0 W2 ∧ w0.heap.size ≤ lo) ∧ Own W2 n lo W2.heap.size (.agg [.int .i64 hd4.k, .int .u64 (hd4.m : Int), .bool hd4.ng, .string hd4.dg, .int .i64 hd4.sc, .string hd4.tx, .slice ka4 kn4 kc4, .slice da4 dn4 dc4, .int .i64 hd4.cd].toArray) (l[k]'hlt) :=
          ⟨_, by have := kunhide HGS; simp; omega, ⟨_, (kunhide HFR).below ((Below.refl _ _).alloc (Nat.le_refl _) _), hB2, Nat.le_refl _⟩, hlv⟩
        have hBW2 : Below W1.heap.size w2 W2 := (kunhide HBR).trans (((Below.refl W1.heap.size wr).alloc (by have := kunhide HGS; omega) _).trans (hB2.mono (by have := kunhide HGS; simp; omega)))
        have HFW := khide hFW
        have HLV := khide hlv2
        have HBW2 := khide hBW2
        clear hroom hFW hlv hlv2 hBW2 hB2 c0 c1 c2 c3 c4 c5 c6 c7 c8 hlies
        go_wp2_with fail
        go_roundw
        case rel => exact ⟨k + 1, by go_num, hlt, setCells_below (kunhide HBW2) (Nat.le_refl _) (k * 9) [.int .i64 hd4.k, .int .u64 (hd4.m : Int), .bool hd4.ng, .string hd4.dg, .int .i64 hd4.sc, .string hd4.tx, .slice ka4 kn4 kc4, .slice da4 dn4 dc4, .int .i64 hd4.cd], (kunhide HFW).store hlt [.int .i64 hd4.k, .int .u64 (hd4.m : Int), .bool hd4.ng, .string hd4.dg, .int .i64 hd4.sc, .string hd4.tx, .slice ka4 kn4 kc4, .slice da4 dn4 dc4, .int .i64 hd4.cd] rfl (kunhide HLV)⟩
        case measure => simp [intOf]; omega
      · obtain rfl : k = l.length := by omega
        have e0 : wr.cell? ⟨w.heap.size, 0, none⟩ = some (.int .i64 h.k) := (kunhide HX2 wr hBr w.heap.size 0 (by have := kunhide HZ; omega)).trans (kunhide HX1 0 (by omega))
        have e1 : wr.cell? ⟨w.heap.size, 1, none⟩ = some (.int .u64 (h.m : Int)) := (kunhide HX2 wr hBr w.heap.size 1 (by have := kunhide HZ; omega)).trans (kunhide HX1 1 (by omega))
        have e2 : wr.cell? ⟨w.heap.size, 2, none⟩ = some (.bool h.ng) := (kunhide HX2 wr hBr w.heap.size 2 (by have := kunhide HZ; omega)).trans (kunhide HX1 2 (by omega))
        have e3 : wr.cell? ⟨w.heap.size, 3, none⟩ = some (.string h.dg) := (kunhide HX2 wr hBr w.heap.size 3 (by have := kunhide HZ; omega)).trans (kunhide HX1 3 (by omega))
        have e4 : wr.cell? ⟨w.heap.size, 4, none⟩ = some (.int .i64 h.sc) := (kunhide HX2 wr hBr w.heap.size 4 (by have := kunhide HZ; omega)).trans (kunhide HX1 4 (by omega))
        have e5 : wr.cell? ⟨w.heap.size, 5, none⟩ = some (.string h.tx) := (kunhide HX2 wr hBr w.heap.size 5 (by have := kunhide HZ; omega)).trans (kunhide HX1 5 (by omega))
        have e6 : wr.cell? ⟨w.heap.size, 6, none⟩ = some (.slice ka2 h.ks.length kc2) := (kunhide HX2 wr hBr w.heap.size 6 (by have := kunhide HZ; omega)).trans (kunhide HXX)
        have e7 : wr.cell? ⟨w.heap.size, 7, none⟩ = some (.slice (some a) l.length dc) := (kunhide HX2 wr hBr w.heap.size 7 (by have := kunhide HZ; omega)).trans (kunhide HX1 7 (by omega))
        have e8 : wr.cell? ⟨w.heap.size, 8, none⟩ = some (.int .i64 h.cd) := (kunhide HX2 wr hBr w.heap.size 8 (by have := kunhide HZ; omega)).trans (kunhide HX1 8 (by omega))
        have r9 : ∀ r, wr.cell? ⟨w.heap.size + 1, r, none⟩ = _ := fun r => (kunhide HX2 wr hBr (w.heap.size + 1) r (kunhide HZ)).trans (kunhide HX3 r)
        have z1 : ∀ r, wr.frozen? ⟨w.heap.size, r, none⟩ = false := fun r => (kunhide HXF wr hBr w.heap.size r (by have := kunhide HZ; omega)).trans (kunhide HF1 r)
        have z2 : ∀ r, wr.frozen? ⟨w.heap.size + 1, r, none⟩ = false := fun r => (kunhide HXF wr hBr (w.heap.size + 1) r (kunhide HZ)).trans (kunhide HF2 r)
        have HBR := khide hBr
        have HFR := khide hFr
        have HBW := khide hBwr
        clear d7 hBr hFr hBwr
        go_wp2_with fail
        change bodyPost _ _ _ _ _ ((wr.setCell ⟨w.heap.size, 7, none⟩ (.slice (some ⟨W1.heap.size, 0, none⟩) l.length l.length)).setCells (w.heap.size + 1) 0 [.int .i64 h.k, .int .u64 (h.m : Int), .bool h.ng, .string h.dg, .int .i64 h.sc, .string h.tx, .slice ka2 h.ks.length kc2, .slice (some ⟨W1.heap.size, 0, none⟩) l.length l.length, .int .i64 h.cd])
        have hres := res9 (wr.setCell ⟨w.heap.size, 7, none⟩ (.slice (some ⟨W1.heap.size, 0, none⟩) l.length l.length)) (w.heap.size + 1) (.int .i64 h.k) (.int .u64 (h.m : Int)) (.bool h.ng) (.string h.dg) (.int .i64 h.sc) (.string h.tx) (.slice ka2 h.ks.length kc2) (.slice (some ⟨W1.heap.size, 0, none⟩) l.length l.length) (.int .i64 h.cd)
          (fun r hr => by
            rw [World.cell?_setCell_other _ _ _ _ (fun e => by have := (Addr.mk.inj e).1; omega), r9 r]
            rw [Array.getElem?_eq_getElem (by simpa using hr)]
            rfl)
        have hBV := setCells_below ((kunhide HBW).setCell (p := ⟨w.heap.size, 7, none⟩) (Nat.le_refl _) (.slice (some ⟨W1.heap.size, 0, none⟩) l.length l.length)) (G := w.heap.size + 1) (by omega) 0 [.int .i64 h.k, .int .u64 (h.m : Int), .bool h.ng, .string h.dg, .int .i64 h.sc, .string h.tx, .slice ka2 h.ks.length kc2, .slice (some ⟨W1.heap.size, 0, none⟩) l.length l.length, .int .i64 h.cd]
        have hKV : Kept (fun b => w.heap.size + 2 ≤ b) wr ((wr.setCell ⟨w.heap.size, 7, none⟩ (.slice (some ⟨W1.heap.size, 0, none⟩) l.length l.length)).setCells (w.heap.size + 1) 0 [.int .i64 h.k, .int .u64 (h.m : Int), .bool h.ng, .string h.dg, .int .i64 h.sc, .string h.tx, .slice ka2 h.ks.length kc2, .slice (some ⟨W1.heap.size, 0, none⟩) l.length l.length, .int .i64 h.cd]) :=
          (setCell_kept _ _ _ (fun b hb e => by have e2 : b = w.heap.size := e; omega)).trans (setCells_kept _ _ _ _ (fun b hb e => by omega))
        generalize (wr.setCell ⟨w.heap.size, 7, none⟩ (.slice (some ⟨W1.heap.size, 0, none⟩) l.length l.length)).setCells (w.heap.size + 1) 0 [.int .i64 h.k, .int .u64 (h.m : Int), .bool h.ng, .string h.dg, .int .i64 h.sc, .string h.tx, .slice ka2 h.ks.length kc2, .slice (some ⟨W1.heap.size, 0, none⟩) l.length l.length, .int .i64 h.cd] = V at hres hBV hKV ⊢
        obtain ⟨r0, r1, r2, r3, r4, r5, r6, r7, r8⟩ := hres
        have hKwr : Kept (fun b => w.heap.size + 2 ≤ b ∧ b < W1.heap.size) W1 wr := by
          refine ⟨Nat.le_trans (Nat.le_of_lt ?_) (kunhide HBR).size, fun b hb hbl => ?_⟩
          · have := kunhide HFR
            obtain ⟨⟨cur, h1, _⟩, _⟩ := kunhide HF0
            exact (Array.getElem?_eq_some_iff.1 h1).1
          · exact kunhide HXB wr (kunhide HBR) b hb.2 (by omega)
        have hks3 : StrsIn (fun b => w.heap.size ≤ b ∧ b < W1.heap.size) V (.slice ka2 h.ks.length kc2) h.ks := ((kunhide HKS).keep hKwr (fun b _ hb => hb)).keep (hKV.weak (fun b _ hb => hb.1)) (fun b _ hb => (show w.heap.size ≤ b ∧ b < W1.heap.size by omega))
        refine bodyPost_ret (v := .agg #[.int .i64 h.k, .int .u64 (h.m : Int), .bool h.ng, .string h.dg, .int .i64 h.sc, .string h.tx, .slice ka2 h.ks.length kc2, .slice (some ⟨W1.heap.size, 0, none⟩) l.length l.length, .int .i64 h.cd]) (by simp [results, Tryz.results92, go_sem, r0, r1, r2, r3, r4, r5, r6, r7, r8]) rfl ⟨_, rfl, ?_, hBV⟩
        obtain ⟨⟨cur, hh, _⟩, s, s0, s1, s2, hfill⟩ := kunhide HFR
        have hgl : W1.heap.size < wr.heap.size := (Array.getElem?_eq_some_iff.1 hh).1
        have hz1 := kunhide HZ
        have hvz := hKV.1
        refine ⟨h, l, _, _, rfl, rfl, hm64, W1.heap.size, by omega, by omega, hks3, _, _, rfl, ⟨Nat.le_refl _, fun e => by cases e⟩, .inr ⟨rfl, by omega, by omega, fun r => ?_, s, s0, by omega, s1, fun i hi => ?_⟩⟩
        · have e := hKV.2 W1.heap.size (show w.heap.size + 2 ≤ W1.heap.size by omega) hgl
          simp [World.frozen?, e, hh]
        · obtain ⟨cs, hrow, hlie⟩ := hfill i hi hi
          have m1 := s_mono s1 0 i (by omega) (by omega)
          exact ⟨cs, hrow.keep (ok := fun b => w.heap.size + 2 ≤ b) (by show w.heap.size + 2 ≤ W1.heap.size; omega) hgl hKV, hlie.keep hKV (fun b b1 b2 => by show w.heap.size + 2 ≤ b; omega)⟩
set_option maxHeartbeats 2000000 in
set_option maxRecDepth 1000000 in
theorem clone_own : ∀ (n : Nat) (v : Value) (t : Tr) (w : World), Lies anyB w n v t → okT n t →
    Calls Tryz.prog 60 #[v] w fun e w' => ∃ v', e = .returned v' ∧ Own w' n w.heap.size w'.heap.size v' t ∧ Below w.heap.size w w'
  | 0, _, _, _, h, _ => h.elim
  | n + 1, v, t, w, hl, ho => by
    obtain ⟨h, l, ka, kc, da, dc, rfl, rfl, hm64, hkc, hdc, hks, hkid⟩ := hl.node
    have IH := clone_own n
    have C : ∀ W, Below w.heap.size w W → Calls Tryz.prog 92 #[.agg #[.int .i64 h.k, .int .u64 (h.m : Int), .bool h.ng, .string h.dg, .int .i64 h.sc, .string h.tx, .slice ka h.ks.length kc, .slice da l.length dc, .int .i64 h.cd], .func (Fn.func 60) #[] #[]] W
        fun e w' => ∃ v', e = .returned v' ∧ Own w' (n + 1) W.heap.size w'.heap.size v' (Tr.mk h l) ∧ Below W.heap.size W w' := by
      intro W hW
      exact eachkid_own n _ h l W (hl.below hW) ho.2.1 ho.1 (fun v t W hm hlt => IH v t W hlt (ho.2.2 t hm))
    have HC := khide C
    clear C IH hl ho hks hkid
    go_enter Tryz.func60, Tryz.ntmps60
    go_wp2_with fail
    refine (kunhide HC _ (((Below.refl _ w).alloc (Nat.le_refl _) _).alloc (by simp) _)).mono ?_
    rintro e W ⟨v', rfl, hlv, hB1⟩
    obtain ⟨rs, rf, hB, hz⟩ := res_ready w _ _ _ _ W hB1 rfl
    obtain ⟨hd4, ka4, kn4, kc4, da4, dn4, dc4, rfl⟩ := hlv.lies.shape
    have HRS := khide rs
    obtain ⟨g0, y0⟩ := isSome_some (rs 0 (by omega))
    obtain ⟨g1, y1⟩ := isSome_some (rs 1 (by omega))
    obtain ⟨g2, y2⟩ := isSome_some (rs 2 (by omega))
    obtain ⟨g3, y3⟩ := isSome_some (rs 3 (by omega))
    obtain ⟨g4, y4⟩ := isSome_some (rs 4 (by omega))
    obtain ⟨g5, y5⟩ := isSome_some (rs 5 (by omega))
    obtain ⟨g6, y6⟩ := isSome_some (rs 6 (by omega))
    obtain ⟨g7, y7⟩ := isSome_some (rs 7 (by omega))
    obtain ⟨g8, y8⟩ := isSome_some (rs 8 (by omega))
    have HLV := khide hlv
    have HB := khide hB
    clear rs hlv hB hB1
    go_wp2_with fail
    change bodyPost _ _ _ _ _ (W.setCells (w.heap.size + 1) 0 [.int .i64 hd4.k, .int .u64 (hd4.m : Int), .bool hd4.ng, .string hd4.dg, .int .i64 hd4.sc, .string hd4.tx, .slice ka4 kn4 kc4, .slice da4 dn4 dc4, .int .i64 hd4.cd])
    have hres := res9 W (w.heap.size + 1) (.int .i64 hd4.k) (.int .u64 (hd4.m : Int)) (.bool hd4.ng) (.string hd4.dg) (.int .i64 hd4.sc) (.string hd4.tx) (.slice ka4 kn4 kc4) (.slice da4 dn4 dc4) (.int .i64 hd4.cd) (kunhide HRS)
    have hBV := setCells_below (kunhide HB) (G := w.heap.size + 1) (by omega) 0 [.int .i64 hd4.k, .int .u64 (hd4.m : Int), .bool hd4.ng, .string hd4.dg, .int .i64 hd4.sc, .string hd4.tx, .slice ka4 kn4 kc4, .slice da4 dn4 dc4, .int .i64 hd4.cd]
    have hKV := setCells_kept (ok := fun b => w.heap.size + 2 ≤ b) W (w.heap.size + 1) 0 [.int .i64 hd4.k, .int .u64 (hd4.m : Int), .bool hd4.ng, .string hd4.dg, .int .i64 hd4.sc, .string hd4.tx, .slice ka4 kn4 kc4, .slice da4 dn4 dc4, .int .i64 hd4.cd] (fun b hb e => by omega)
    generalize W.setCells (w.heap.size + 1) 0 [.int .i64 hd4.k, .int .u64 (hd4.m : Int), .bool hd4.ng, .string hd4.dg, .int .i64 hd4.sc, .string hd4.tx, .slice ka4 kn4 kc4, .slice da4 dn4 dc4, .int .i64 hd4.cd] = V at hres hBV hKV ⊢
    obtain ⟨r0, r1, r2, r3, r4, r5, r6, r7, r8⟩ := hres
    refine bodyPost_ret (v := .agg #[.int .i64 hd4.k, .int .u64 (hd4.m : Int), .bool hd4.ng, .string hd4.dg, .int .i64 hd4.sc, .string hd4.tx, .slice ka4 kn4 kc4, .slice da4 dn4 dc4, .int .i64 hd4.cd]) (by simp [results, Tryz.results60, go_sem, r0, r1, r2, r3, r4, r5, r6, r7, r8]) rfl ⟨_, rfl, ?_, hBV⟩
    exact ((kunhide HLV).weak (lo' := w.heap.size + 2) (hi' := V.heap.size) (by simp) hKV.1).keep hKV (fun b b1 b2 => b1) |>.weak (by omega) (Nat.le_refl _)
end Go.Proofs.YtnagecbepidfiaaGreatDoor.Pol
/- What is proved here: the step from a node to a kid of it, and what the visit of a node sets, walked; conditions: as each theorem states. -/
namespace Go.Proofs.YtnagecbepidfiaaGreatDoor.Pol
set_option maxRecDepth 100000
open Go.RowKit Go.Proofs.YtnagecbepidfiaaGreatDoor.Nc Go.Proofs.YtnagecbepidfiaaGreatDoor.Np Go.Proofs.YtnagecbepidfiaaGreatDoor.Nq
set_option linter.unusedVariables false
set_option linter.unusedSimpArgs false

/-- The step from a node to its kid at a place. -/
def stepT (h : Hd) (i : Nat) : Pm.St := if h.k = 6 then ⟨2, ⟨#[]⟩, i⟩ else if h.k = 7 then (if hi : i < h.ks.length then ⟨1, h.ks[i]'hi, 0⟩ else ⟨0, ⟨#[]⟩, 0⟩) else ⟨0, ⟨#[]⟩, 0⟩
/-- A box that holds a policy that lies. -/
def PBox (w : World) (pb : Nat) (p : Po) : Prop := ∃ a n c b m d, ∃ tok : ByteArray, Five w pb (.slice a n c) (.slice b m d) (.string tok) (.int .i64 p.fuel) (.int .i64 p.quota) ∧ PolIn w (.agg #[.slice a n c, .slice b m d, .string tok, .int .i64 p.fuel, .int .i64 p.quota]) p
theorem PBox.step {w w' : World} {pb : Nat} {p : Po} (h : PBox w pb p) (hb : Below w.heap.size w w') : PBox w' pb p := by
  obtain ⟨a, n, c, b, m, d, tok, h1, h2⟩ := h
  exact ⟨a, n, c, b, m, d, tok, h1.step hb, h2.step hb⟩
theorem own_steps {w : World} {base m : Nat} {v : Value} {L : List Pm.St} (h : w.ownsRow base 57 3 v m (Np.rowS L)) : ∃ aa ac, v = .slice aa m ac ∧ L.length = m ∧ Np.StepsIn w aa m L := by
  have hl : L.length = m := by have := h.1; rw [Np.rowS_len] at this; omega
  rcases id h.2 with ⟨e, e2⟩ | ⟨g, cap, cur, e, _⟩
  · exact ⟨none, 0, by rw [e, e2], hl, hl, .inl e2⟩
  · subst e
    exact ⟨_, cap, rfl, hl, hl, .inr ⟨g, 0, rfl, Np.rowst_of h⟩⟩
set_option maxHeartbeats 1000000 in
theorem visit_any (pb b o : Nat) (p : Po) (aa : Option Addr) (ac m9 : Nat) (at9 : List Pm.St) (hm9 : m9 ≤ 1000) (hml : p.marks.length ≤ 1000) (hpl : ∀ m ∈ p.marks, m.path.length ≤ 1000) (q : Nat) (hq : maskL at9 p.marks = q) (w : World) (hP : PBox w pb p) (ha : Np.StepsIn w aa m9 at9)
    (x : Value) (hb : b < w.heap.size) (hc : w.cell? ⟨b, o + 1, none⟩ = some x) (hf : w.frozen? ⟨b, o + 1, none⟩ = false) :
    Calls Tryz.prog 62 #[.pointer (some ⟨b, o, none⟩), .slice aa m9 ac, .pointer (some ⟨pb, 0, none⟩)] w fun e w' => e = .returned (.tuple #[]) ∧ ∃ W, Below w.heap.size w W ∧ w' = W.setCell ⟨b, o + 1, none⟩ (.int .u64 (q : Int)) := by
  obtain ⟨a, n, c, b2, m, d, tok, hF, hI⟩ := hP
  obtain ⟨-, x0, x1, x2, x3, x4, -⟩ := id hF
  have C := maskAt_any _ p aa ac m9 at9 hm9 hml hpl q hq w hI ha
  clear hI ha hF hq hpl
  go_enter Tryz.func62, Tryz.ntmps62
  go_wp2_with fail
  refine C.mono ?_
  rintro e W ⟨rfl, hB⟩
  have d1 : W.cell? ⟨b, o + 1, none⟩ = some x := (hB.cell (p := ⟨b, o + 1, none⟩) hb).trans hc
  have d2 : W.frozen? ⟨b, o + 1, none⟩ = false := (hB.frozen (p := ⟨b, o + 1, none⟩) hb).trans hf
  go_wp2
  go_returns
  exact ⟨rfl, W, hB, rfl⟩
set_option maxHeartbeats 1000000 in
theorem stepTo_any (b o : Nat) (h : Hd) (ka : Option Addr) (kc i : Nat) (hi : i ≤ 1000000) (hk : h.ks.length ≤ 1000000) (w : World) (c0 : w.cell? ⟨b, o, none⟩ = some (.int .i64 h.k)) (c6 : w.cell? ⟨b, o + 6, none⟩ = some (.slice ka h.ks.length kc))
    (hb : b < w.heap.size) (hs : ∀ i, ∀ hi : i < h.ks.length, ∃ g o, ka = some ⟨g, o, none⟩ ∧ g < w.heap.size ∧ w.cell? ⟨g, o + i, none⟩ = some (.string (h.ks[i]'hi))) :
    Calls Tryz.prog 93 #[.pointer (some ⟨b, o, none⟩), .int .i64 (i : Int)] w fun e w' => e = .returned (Np.valS (stepT h i)) ∧ Below w.heap.size w w' := by
  have hB1 : Below w.heap.size w (w.alloc (.cells #[.int .i64 0, .string ⟨#[]⟩, .int .i64 0] 57)) := (Below.refl _ _).alloc (Nat.le_refl _) _
  have c0' := (hB1.cell (p := ⟨b, o, none⟩) hb).trans c0
  have c6' := (hB1.cell (p := ⟨b, o + 6, none⟩) hb).trans c6
  have hne : b ≠ w.heap.size := by omega
  by_cases h6 : h.k = 6
  · have hst : stepT h i = ⟨2, ⟨#[]⟩, i⟩ := by unfold stepT; rw [if_pos h6]
    rw [hst]
    unfold Np.valS
    rw [h6] at c0 c0'
    clear hst hs
    go_enter Tryz.func93, Tryz.ntmps93
    go_wp2
    go_returns
    exact ⟨rfl, by go_grown⟩
  · have d6 : decide (h.k = 6) = false := decide_eq_false h6
    by_cases h7 : h.k = 7
    · by_cases hik : i < h.ks.length
      · have hst : stepT h i = ⟨1, h.ks[i]'hik, 0⟩ := by unfold stepT; rw [if_neg h6, if_pos h7, dif_pos hik]
        rw [hst]
        unfold Np.valS
        obtain ⟨g, o2, rfl, hg, hcell⟩ := hs i hik
        obtain ⟨s, hsE⟩ : ∃ s, h.ks[i]'hik = s := ⟨_, rfl⟩
        rw [hsE] at hcell ⊢
        have hcell' := (hB1.cell (p := ⟨g, o2 + i, none⟩) hg).trans hcell
        rw [h7] at c0 c0'
        have hik' : (i : Int) < (h.ks.length : Int) := by omega
        clear hst hs hsE
        go_enter Tryz.func93, Tryz.ntmps93
        go_wp2
        go_returns
        exact ⟨rfl, by go_grown⟩
      · have hst : stepT h i = ⟨0, ⟨#[]⟩, 0⟩ := by unfold stepT; rw [if_neg h6, if_pos h7, dif_neg hik]
        rw [hst]
        unfold Np.valS
        rw [h7] at c0 c0'
        have hik' : decide ((i : Int) < (h.ks.length : Int)) = false := decide_eq_false (by omega)
        clear hst hs
        go_enter Tryz.func93, Tryz.ntmps93
        go_wp2
        go_returns
        exact ⟨rfl, by go_grown⟩
    · have d7 : decide (h.k = 7) = false := decide_eq_false h7
      have hst : stepT h i = ⟨0, ⟨#[]⟩, 0⟩ := by unfold stepT; rw [if_neg h6, if_neg h7]
      rw [hst]
      unfold Np.valS
      clear hst hs
      go_enter Tryz.func93, Tryz.ntmps93
      go_wp2
      go_returns
      exact ⟨rfl, by go_grown⟩
end Go.Proofs.YtnagecbepidfiaaGreatDoor.Pol
/- What is proved here: a row of the call's own that grows by any other row, with the number of its block; rows of steps among them; conditions: as each theorem states. -/
namespace Go.Proofs.YtnagecbepidfiaaGreatDoor.Np
set_option maxRecDepth 100000
open Go.RowKit
set_option linter.unusedVariables false
set_option linter.unusedSimpArgs false

theorem run_append_own2 {P : Program} (w : World) (base : Nat) (t ty e : TypeId) (i : TypeInfo) (z : Value) (size bytes : Nat) (ht : P.underlying t = some (.slice e)) (hi : P.info? e = some i) (hz : i.zero = some z)
    (hsize : i.size = size) (hby : i.bytes = bytes) (hzs : z.cells.size = size) (hsz : 0 < size)
    (g cap n : Nat) (xs : List Value) (hown : w.ownsRow base e size (.slice (some ⟨g, 0, none⟩) n cap) n xs)
    (a : Addr) (m c : Nat) (news : List Value) (hl : news.length = m * size) (hnews : ∀ j u, news[j]? = some u → w.cell? (a.add j) = some u) (h1 : ∀ u ∈ news, u.oneCell' = true)
    (h63 : n + m ≤ maxLen) (hbytes : (n + m) * bytes ≤ 140737488355328) (hbase : base ≤ w.heap.size) :
    ∃ g' cap' w', (Builtin.append_ #[t, t] ty #[.slice (some ⟨g, 0, none⟩) n cap, .slice (some a) m c]).run P w = .ok (.slice (some ⟨g', 0, none⟩) (n + m) cap') w' ∧
      w'.ownsRow base e size (.slice (some ⟨g', 0, none⟩) (n + m) cap') (n + m) (xs ++ news) ∧ w.grownBy w' (some g) ∧ (g' = g ∨ w.heap.size ≤ g') := by
  rcases hown.2 with ⟨h, _⟩ | ⟨g', cap', cur, hv, hbg, hg, hnc, hcm, hcs, htake⟩
  · cases h
  · have e1 := Value.slice.inj hv
    obtain ⟨rfl, _, _⟩ := Addr.mk.inj (Option.some.inj e1.1)
    obtain rfl := e1.2.2
    by_cases hroom : n + m ≤ cap
    · obtain ⟨w', r1, r2, r3⟩ := run_append_fits (P := P) w base t ty e i size ht hi hsize g n cap xs hown a m c news hl hnews h1 hroom
      exact ⟨g, cap, w', r1, r2, r3, .inl rfl⟩
    · obtain ⟨v', w', r1, r2, r3⟩ := run_append_arg_grows (P := P) w t ty e i z size bytes ht hi hz hsize hby hzs hsz ⟨g, 0, none⟩ n cap xs hown.1 (hown.cells (g := g) rfl) a m c news hl hnews (by omega) h63 hbytes
      rcases r2.2 with ⟨_, h0⟩ | ⟨g2, cap2, cur2, hv2, hbg2, hg2, hnc2, hcm2, hcs2, ht2⟩
      · omega
      · subst hv2
        refine ⟨g2, cap2, w', r1, ⟨r2.1, .inr ⟨g2, cap2, cur2, rfl, by omega, hg2, hnc2, hcm2, hcs2, ht2⟩⟩, ⟨r3.os, r3.tape, r3.output, r3.size, fun k hk _ => r3.block k hk (by simp)⟩, .inr hbg2⟩
theorem wpList_append_own2 {P : Program} (w : World) {ops : Array Oper} {rest : List Oper} {o : Oper} {a : Act} {Q : Exit → Act → World → Prop} (hgd : o.guard = none) (s x : Operand) (t : TypeId)
    (ho : o.op = .call { callee := .builtin .append, args := #[s, x], argTypes := #[t, t] })
    (base : Nat) (e : TypeId) (i : TypeInfo) (z : Value) (size bytes : Nat) (ht : P.underlying t = some (.slice e)) (hi : P.info? e = some i) (hz : i.zero = some z)
    (hsize : i.size = size) (hby : i.bytes = bytes) (hzs : z.cells.size = size) (hsz : 0 < size)
    (g cap n : Nat) (xs : List Value) (hs : a.eval s = .slice (some ⟨g, 0, none⟩) n cap) (hown : w.ownsRow base e size (.slice (some ⟨g, 0, none⟩) n cap) n xs)
    (ad : Addr) (m c : Nat) (news : List Value) (hx : a.eval x = .slice (some ad) m c) (hl : news.length = m * size) (hnews : ∀ j u, news[j]? = some u → w.cell? (ad.add j) = some u) (h1 : ∀ u ∈ news, u.oneCell' = true)
    (h63 : n + m ≤ maxLen) (hbytes : (n + m) * bytes ≤ 140737488355328) (hbase : base ≤ w.heap.size)
    (h : ∀ g' cap' w', w'.ownsRow base e size (.slice (some ⟨g', 0, none⟩) (n + m) cap') (n + m) (xs ++ news) → w.grownBy w' (some g) → (g' = g ∨ w.heap.size ≤ g') → wpList P ops Q rest (a.put o.dst (.slice (some ⟨g', 0, none⟩) (n + m) cap')) w') :
    wpList P ops Q (o :: rest) a w := by
  refine wpList_plain hgd fun K hK => ?_
  obtain ⟨g', cap', w', hr, h2, h3, h4⟩ := run_append_own2 (P := P) w base t o.type e i z size bytes ht hi hz hsize hby hzs hsz g cap n xs hown ad m c news hl hnews h1 h63 hbytes hbase
  unfold Oper.wp execOp
  simp only [ho, resolve, invoke, builtin, Sem.run_bind, Sem.run_pure, Result.andThen_ok, List.map_toArray, List.map_cons, List.map_nil, hs, hx, hr]
  exact hK _ _ (h g' cap' w' h2 h3 h4)


theorem RowSt.news {w : World} {b o : Nat} {L : List Pm.St} (h : RowSt w b o L) : ∀ j u, (rowS L)[j]? = some u → w.cell? ((⟨b, o, none⟩ : Addr).add j) = some u := by
  intro j u hj
  have hl : j < (rowS L).length := (List.getElem?_eq_some_iff.1 hj).1
  rw [rowS_len] at hl
  have hi : j / 3 < L.length := by omega
  have hr : j % 3 < 3 := Nat.mod_lt _ (by decide)
  have e := rowS_at L (j / 3) (j % 3) hr hi
  rw [show j / 3 * 3 + j % 3 = j by omega, hj] at e
  have ea : (⟨b, o, none⟩ : Addr).add j = ⟨b, o + j, none⟩ := by unfold Addr.add; split <;> simp_all
  rw [ea]
  obtain ⟨c0, c1, c2⟩ := h.2 (j / 3) hi
  rcases (show j % 3 = 0 ∨ j % 3 = 1 ∨ j % 3 = 2 by omega) with m | m | m
  · rw [m] at e
    rw [show o + j = o + j / 3 * 3 by omega, c0]; exact e.symm
  · rw [m] at e
    rw [show o + j = o + j / 3 * 3 + 1 by omega, c1]; exact e.symm
  · rw [m] at e
    rw [show o + j = o + j / 3 * 3 + 2 by omega, c2]; exact e.symm
theorem RowSt.below {w w' : World} {b o S : Nat} {L : List Pm.St} (h : RowSt w b o L) (hb : b < S) (hB : Below S w w') : RowSt w' b o L :=
  ⟨Nat.lt_of_lt_of_le h.1 hB.size, fun i hi => ⟨(hB.cell (p := ⟨b, _, none⟩) hb).trans (h.2 i hi).1, (hB.cell (p := ⟨b, _, none⟩) hb).trans (h.2 i hi).2.1, (hB.cell (p := ⟨b, _, none⟩) hb).trans (h.2 i hi).2.2⟩⟩
theorem own_none (w : World) (base : Nat) (hb : base ≤ w.heap.size) : (w.alloc (.cells #[] 57)).ownsRow base 57 3 (.slice (some ⟨w.heap.size, 0, none⟩) 0 0) 0 (rowS []) :=
  ⟨rfl, .inr ⟨w.heap.size, 0, #[], rfl, hb, heap_alloc_new w _, Nat.le_refl _, by unfold maxLen; omega, rfl, rfl⟩⟩
end Go.Proofs.YtnagecbepidfiaaGreatDoor.Np
/- What is proved here: a row of steps behind one of the call's own, at a step of a region that draws its order; conditions: as each theorem states. -/
namespace Go.Proofs.YtnagecbepidfiaaGreatDoor.Np
set_option maxRecDepth 100000
open Go.RowKit
set_option linter.unusedVariables false
set_option linter.unusedSimpArgs false

theorem oper_append_steps (w : World) {o : Oper} {a : Act} {K : Act → World → Prop} {Q : Exit → Act → World → Prop} (s x : Operand)
    (ho : o.op = .call { callee := .builtin .append, args := #[s, x], argTypes := #[52, 52] })
    (base g cap n : Nat) (X : List Pm.St) (hs : a.eval s = .slice (some ⟨g, 0, none⟩) n cap) (hown : w.ownsRow base 57 3 (.slice (some ⟨g, 0, none⟩) n cap) n (rowS X))
    (b ob m c : Nat) (Y : List Pm.St) (hx : a.eval x = .slice (some ⟨b, ob, none⟩) m c) (hl : Y.length = m) (hY : RowSt w b ob Y)
    (hnm : n + m ≤ 1000) (hbase : base ≤ w.heap.size)
    (h : ∀ g' cap' w', w'.ownsRow base 57 3 (.slice (some ⟨g', 0, none⟩) (n + m) cap') (n + m) (rowS (X ++ Y)) → w.grownBy w' (some g) → (g' = g ∨ w.heap.size ≤ g') → K (a.put o.dst (.slice (some ⟨g', 0, none⟩) (n + m) cap')) w') :
    Oper.wp Tryz.prog o a w K Q := by
  obtain ⟨i0, hi, hz0, hz1, hz2⟩ := info_parts infoS
  obtain ⟨g', cap', w', hr, h2, h3, h4⟩ := run_append_own2 (P := Tryz.prog) w base 52 o.type 57 i0 (.agg #[.int .i64 0, .string ⟨#[]⟩, .int .i64 0]) 3 32 Tryz.underlying52 hi hz0 hz1 hz2 rfl (by decide) g cap n (rowS X) hown ⟨b, ob, none⟩ m c (rowS Y) (by rw [rowS_len, hl]) hY.news rowS_one (by unfold maxLen; omega) (by omega) hbase
  unfold Oper.wp execOp
  simp only [ho, resolve, invoke, builtin, Sem.run_bind, Sem.run_pure, Result.andThen_ok, List.map_toArray, List.map_cons, List.map_nil, hs, hx, hr]
  exact h g' cap' w' (by rw [rowS_app]; exact h2) h3 h4
theorem RowSt.grown {w w' : World} {b o g : Nat} {L : List Pm.St} (h : RowSt w b o L) (hg : w.grownBy w' (some g)) (hne : b ≠ g) : RowSt w' b o L := by
  have e : w'.heap[b]? = w.heap[b]? := hg.block b h.1 (fun e => hne (Option.some.inj e))
  exact ⟨Nat.lt_of_lt_of_le h.1 hg.size, fun i hi => ⟨(World.cell?_of_block (w := w) e).trans (h.2 i hi).1, (World.cell?_of_block (w := w) e).trans (h.2 i hi).2.1, (World.cell?_of_block (w := w) e).trans (h.2 i hi).2.2⟩⟩
theorem own_alloc {w : World} {base g k cap : Nat} {xs : List Value} (h : w.ownsRow base 57 3 (.slice (some ⟨g, 0, none⟩) k cap) k xs) (o : Obj) : (w.alloc o).ownsRow base 57 3 (.slice (some ⟨g, 0, none⟩) k cap) k xs := ownS_step h ((Below.refl _ _).alloc (Nat.le_refl _) o)
end Go.Proofs.YtnagecbepidfiaaGreatDoor.Np
/- What is proved here: eachNode with the visit of Label, walked: each node of a tree that lies in blocks of its own has the masks of its place; conditions: the policy lies, and as the theorem states. -/
namespace Go.Proofs.YtnagecbepidfiaaGreatDoor.Pol
set_option maxRecDepth 100000
open Go.RowKit Go.Proofs.YtnagecbepidfiaaGreatDoor.Nc Go.Proofs.YtnagecbepidfiaaGreatDoor.Np Go.Proofs.YtnagecbepidfiaaGreatDoor.Nq
set_option linter.unusedVariables false
set_option linter.unusedSimpArgs false

def lk (l : List Tr) (i : Nat) : Tr := (l[i]?).getD (Tr.mk Hd.none [])
theorem lk_at {l : List Tr} {i : Nat} (h : i < l.length) : lk l i = l[i]'h := by unfold lk; rw [List.getElem?_eq_getElem h]; rfl
/-- A tree with the masks of its places. -/
def labelT (M : List Mk) : Nat → List Pm.St → Tr → Tr
  | 0, _, t => t
  | n + 1, a, t => Tr.mk { Tr.hd t with m := maskL a M } ((Tr.kd t).mapIdx fun i k => labelT M n (a ++ [stepT (Tr.hd t) i]) k)
/-- A row of kids, each with blocks of its own. -/
def KidsL (w : World) (n G : Nat) (s : Nat → Nat) (f : Nat → Tr) (N : Nat) : Prop := G < w.heap.size ∧ (∀ r, w.frozen? ⟨G, r, none⟩ = false) ∧ ∀ i, i < N → ∃ cs, Row9 w G (i * 9) cs ∧ Own w n (s i) (s (i + 1)) (.agg cs) (f i)
theorem KidsL.keep {w w' : World} {n G N hi : Nat} {s : Nat → Nat} {f : Nat → Tr} {ok : Nat → Prop} (h : KidsL w n G s f N) (s0 : s 0 = G + 1) (s1 : s N ≤ hi) (s2 : ∀ i, i < N → s i ≤ s (i + 1)) (hK : Kept ok w w') (hG : ∀ b, G ≤ b → b < hi → ok b) (hGh : G < hi) : KidsL w' n G s f N := by
  obtain ⟨h1, h2, h3⟩ := h
  have hGo := hG G (Nat.le_refl _) hGh
  refine ⟨Nat.lt_of_lt_of_le h1 hK.1, fun r => by rw [← h2 r]; exact World.frozen?_of_block (a := ⟨G, r, none⟩) (hK.2 G hGo h1), fun i hi => ?_⟩
  obtain ⟨cs, r, p⟩ := h3 i hi
  have m1 := s_mono s2 0 i (by omega) (by omega)
  have m2 := s_mono s2 (i + 1) N (by omega) (by omega)
  exact ⟨cs, r.keep hGo h1 hK, p.keep hK (fun b b1 b2 => hG b (by omega) (by omega))⟩
theorem Own.size9 {w : World} {n lo hi : Nat} {cs : Array Value} {t : Tr} (h : Own w n lo hi (.agg cs) t) : cs.size = 9 := by
  obtain ⟨m, hd, l2, kv, dv, _, _, e3, _⟩ := h.lies.open
  rw [Value.agg.inj e3]
  rfl
/-- One kid turned. -/
theorem KidsL.upd {w w' : World} {n G N hi k : Nat} {s : Nat → Nat} {f : Nat → Tr} {cs' : Array Value} {t' : Tr} {r : Option Nat} (h : KidsL w n G s f N) (hk : k < N) (s0 : s 0 = G + 1) (s1 : s N ≤ hi) (s2 : ∀ i, i < N → s i ≤ s (i + 1))
    (hK : Kept (fun c => (c < s k ∨ s (k + 1) ≤ c) ∧ c ≠ G ∧ r ≠ some c) w w') (hr : ∀ c, r = some c → c < G ∨ hi ≤ c)
    (hc : ∀ q, q ≠ k * 9 + 1 → w'.cell? ⟨G, q, none⟩ = w.cell? ⟨G, q, none⟩) (hf : ∀ q, w'.frozen? ⟨G, q, none⟩ = false) (hrow : Row9 w' G (k * 9) cs') (ho : Own w' n (s k) (s (k + 1)) (.agg cs') t') :
    KidsL w' n G s (fun i => if i = k then t' else f i) N := by
  obtain ⟨h1, h2, h3⟩ := h
  refine ⟨Nat.lt_of_lt_of_le h1 hK.1, hf, fun i hi => ?_⟩
  show ∃ cs, _ ∧ Own _ _ _ _ _ (if i = k then t' else f i)
  by_cases e : i = k
  · subst e
    rw [if_pos rfl]
    exact ⟨cs', hrow, ho⟩
  · rw [if_neg e]
    obtain ⟨cs, r0, p⟩ := h3 i hi
    have h9 := p.size9
    have m1 := s_mono s2 0 i (by omega) (by omega)
    have m2 := s_mono s2 (i + 1) N (by omega) (by omega)
    refine ⟨cs, fun j hj => ?_, p.keep hK (fun b b1 b2 => ⟨?_, by omega, fun e2 => ?_⟩)⟩
    · rw [hc _ (by omega)]
      exact r0 j hj
    · rcases Nat.lt_or_ge i k with hik | hik
      · have := s_mono s2 (i + 1) k (by omega) (by omega)
        omega
      · have := s_mono s2 (k + 1) i (by omega) (by omega)
        omega
    · have := hr b e2
      omega
theorem own_kept {w w' : World} {base n : Nat} {e : TypeId} {size : Nat} {v : Value} {xs : List Value} (h : w.ownsRow base e size v n xs) (hk : ∀ g, v.ownBlock = some g → w'.heap[g]? = w.heap[g]?) : w'.ownsRow base e size v n xs := by
  refine ⟨h.1, ?_⟩
  rcases h.2 with h | ⟨g, cap, cur, hv, hg, hh, r⟩
  · exact .inl h
  · exact .inr ⟨g, cap, cur, hv, hg, by rw [hk g (by rw [hv]; rfl)]; exact hh, r⟩
/-- What is owned of a row that grew in place. -/
theorem own_back {w : World} {base g n m cap cap' : Nat} {L M : List Pm.St} (h : w.ownsRow base 57 3 (.slice (some ⟨g, 0, none⟩) (n + m) cap) (n + m) (Np.rowS (L ++ M))) (hl : L.length = n) (hc : cap' = cap) : w.ownsRow base 57 3 (.slice (some ⟨g, 0, none⟩) n cap') n (Np.rowS L) := by
  subst hc
  refine ⟨by rw [Np.rowS_len, hl], ?_⟩
  rcases h.2 with ⟨h, _⟩ | ⟨g', cap', cur, hv, hg, hh, h1, h2, h3, h4⟩
  · cases h
  · have e := Value.slice.inj hv
    obtain ⟨rfl, _, _⟩ := Addr.mk.inj (Option.some.inj e.1)
    obtain rfl := e.2.2
    refine .inr ⟨_, _, cur, rfl, hg, hh, by omega, h2, h3, ?_⟩
    have e3 : (Np.rowS (L ++ M)).take (n * 3) = Np.rowS L := by rw [Np.rowS_app, List.take_append_of_le_length (by rw [Np.rowS_len]; omega), List.take_of_length_le (by rw [Np.rowS_len]; omega)]
    rw [← e3, ← h4, List.take_take, Nat.min_eq_left (by omega)]
theorem row1_new (w : World) (t : Pm.St) (ty : TypeId) : Np.RowSt (w.alloc (.cells #[.int .i64 t.k, .string t.s, .int .i64 t.n] ty)) w.heap.size 0 [t] := by
  refine ⟨by simp, fun i hi => ?_⟩
  obtain rfl : i = 0 := by simp at hi; omega
  exact ⟨World.cell?_alloc_at _ _ _ _ rfl, World.cell?_alloc_at _ _ _ _ rfl, World.cell?_alloc_at _ _ _ _ rfl⟩
/-- A step more behind a row of steps, at a step of a region that draws its order: in place, or in a new block. -/
theorem step_append_st (w : World) {ops : Array Oper} {o : Oper} {a : Act} {K : Act → World → Prop} {Q : Exit → Act → World → Prop} {E : Prop} (hgd : o.guard = none) (s x : Operand)
    (ho : o.op = .call { callee := .builtin .append, args := #[s, x], argTypes := #[52, 52] })
    (base : Nat) (v : Value) (n : Nat) (X : List Pm.St) (hs : a.eval s = v) (hown : w.ownsRow base 57 3 v n (Np.rowS X))
    (b c : Nat) (t : Pm.St) (hx : a.eval x = .slice (some ⟨b, 0, none⟩) 1 c) (hY : Np.RowSt w b 0 [t]) (hnm : n ≤ 1000) (hbase : base ≤ w.heap.size)
    (h : ∀ g' cap' w', w'.ownsRow base 57 3 (.slice (some ⟨g', 0, none⟩) (n + 1) cap') (n + 1) (Np.rowS (X ++ [t])) → w.grownBy w' v.ownBlock → (v = .slice (some ⟨g', 0, none⟩) n cap' ∨ (w.heap.size ≤ g' ∧ w.grownBy w' none)) → g' < w'.heap.size → K (a.put o.dst (.slice (some ⟨g', 0, none⟩) (n + 1) cap')) w') :
    if Region.wanted o (yielded ops a.tmps) = true then Oper.wp Tryz.prog o a w K Q else E := by
  have hw : Region.wanted o (yielded ops a.tmps) = true := by simp [Region.wanted, hgd]
  rw [if_pos hw]
  obtain ⟨i0, hi, hz0, hz1, hz2⟩ := info_parts Np.infoS
  have hnews := hY.news
  have key : ∃ g' cap' w', (Builtin.append_ #[52, 52] o.type #[v, .slice (some ⟨b, 0, none⟩) 1 c]).run Tryz.prog w = .ok (.slice (some ⟨g', 0, none⟩) (n + 1) cap') w' ∧
      w'.ownsRow base 57 3 (.slice (some ⟨g', 0, none⟩) (n + 1) cap') (n + 1) (Np.rowS X ++ Np.rowS [t]) ∧ w.grownBy w' v.ownBlock ∧ (v = .slice (some ⟨g', 0, none⟩) n cap' ∨ (w.heap.size ≤ g' ∧ w.grownBy w' none)) ∧ g' < w'.heap.size := by
    rcases id hown.2 with ⟨e, e2⟩ | ⟨g, cap, cur, hv, hbg, hg, hnc, hcm, hcs, htake⟩
    · obtain ⟨g, cap, w', r1, r2, r3, r4, r5⟩ := run_append_lies (P := Tryz.prog) w 52 o.type base 57 i0 (.agg #[.int .i64 0, .string ⟨#[]⟩, .int .i64 0]) 3 32 Tryz.underlying52 hi hz0 hz1 hz2 rfl (by decide) v n (Np.rowS X) hown ⟨b, 0, none⟩ 1 c (Np.rowS [t]) rfl hnews Np.rowS_one (by decide) (by unfold maxLen; omega) (by omega) hbase _ rfl
      have r6 : w.grownBy w' none := by rw [e] at r3; exact r3
      refine ⟨g, cap, w', r1, r2, r3, .inr ⟨?_, r6⟩, r5⟩
      rcases r4 with r4 | r4
      · rw [e] at r4; cases r4
      · omega
    · subst hv
      by_cases hroom : n + 1 ≤ cap
      · obtain ⟨w', r1, r2, r3⟩ := run_append_fits (P := Tryz.prog) w base 52 o.type 57 i0 3 Tryz.underlying52 hi hz1 g n cap (Np.rowS X) hown ⟨b, 0, none⟩ 1 c (Np.rowS [t]) rfl hnews Np.rowS_one hroom
        refine ⟨g, cap, w', r1, r2, r3, .inl rfl, Nat.lt_of_lt_of_le (Array.getElem?_eq_some_iff.1 hg).1 r3.size⟩
      · obtain ⟨v', w', r1, r2, r3⟩ := run_append_arg_grows (P := Tryz.prog) w 52 o.type 57 i0 (.agg #[.int .i64 0, .string ⟨#[]⟩, .int .i64 0]) 3 32 Tryz.underlying52 hi hz0 hz1 hz2 rfl (by decide) ⟨g, 0, none⟩ n cap (Np.rowS X) hown.1 (hown.cells (g := g) rfl) ⟨b, 0, none⟩ 1 c (Np.rowS [t]) rfl hnews (by omega) (by unfold maxLen; omega) (by omega)
        rcases id r2.2 with ⟨_, h0⟩ | ⟨g2, cap2, cur2, hv2, hbg2, hg2, hnc2, hcm2, hcs2, ht2⟩
        · omega
        · subst hv2
          exact ⟨g2, cap2, w', r1, ⟨r2.1, .inr ⟨g2, cap2, cur2, rfl, by omega, hg2, hnc2, hcm2, hcs2, ht2⟩⟩, ⟨r3.os, r3.tape, r3.output, r3.size, fun k hk _ => r3.block k hk (by simp)⟩, .inr ⟨hbg2, r3⟩, (Array.getElem?_eq_some_iff.1 hg2).1⟩
  obtain ⟨g', cap', w', hr, h2, h3, h4, h5⟩ := key
  unfold Oper.wp execOp
  simp only [ho, resolve, invoke, builtin, Sem.run_bind, Sem.run_pure, Result.andThen_ok, List.map_toArray, List.map_cons, List.map_nil, hs, hx, hr]
  exact h g' cap' w' (by rw [Np.rowS_app]; exact h2) h3 h4 h5
end Go.Proofs.YtnagecbepidfiaaGreatDoor.Pol
/- What is proved here: a block of three cells; a row of steps behind one of the call's own, at a step of a region that draws its order; conditions: as each theorem states. -/
namespace Go.Proofs.YtnagecbepidfiaaGreatDoor.Pol
set_option maxRecDepth 100000
open Go.RowKit Go.Proofs.YtnagecbepidfiaaGreatDoor.Nc Go.Proofs.YtnagecbepidfiaaGreatDoor.Np Go.Proofs.YtnagecbepidfiaaGreatDoor.Nq
set_option linter.unusedVariables false
set_option linter.unusedSimpArgs false

theorem step_append_gen (w : World) {ops : Array Oper} {o : Oper} {a : Act} {K : Act → World → Prop} {Q : Exit → Act → World → Prop} {E : Prop} (hgd : o.guard = none) (s x : Operand)
    (ho : o.op = .call { callee := .builtin .append, args := #[s, x], argTypes := #[52, 52] })
    (base g cap n : Nat) (X : List Pm.St) (hs : a.eval s = .slice (some ⟨g, 0, none⟩) n cap) (hown : w.ownsRow base 57 3 (.slice (some ⟨g, 0, none⟩) n cap) n (rowS X))
    (b ob m c : Nat) (Y : List Pm.St) (hx : a.eval x = .slice (some ⟨b, ob, none⟩) m c) (hl : Y.length = m) (hY : RowSt w b ob Y)
    (nm : Nat) (he : n + m = nm) (hnm : nm ≤ 1000) (hbase : base ≤ w.heap.size)
    (h : ∀ g' cap' w', w'.ownsRow base 57 3 (.slice (some ⟨g', 0, none⟩) nm cap') nm (rowS (X ++ Y)) → w.grownBy w' (some g) → K (a.put o.dst (.slice (some ⟨g', 0, none⟩) nm cap')) w') :
    if Region.wanted o (yielded ops a.tmps) = true then Oper.wp Tryz.prog o a w K Q else E := by
  subst he
  have hw : Region.wanted o (yielded ops a.tmps) = true := by simp [Region.wanted, hgd]
  rw [if_pos hw]
  exact oper_append_steps w s x ho base g cap n X hs hown b ob m c Y hx hl hY hnm hbase (fun g' cap' w' h1 h2 _ => h g' cap' w' h1 h2)
/-- A block of three cells that may be written. -/
structure Three (w : World) (b : Nat) (v0 v1 v2 : Value) : Prop where
  lt : b < w.heap.size
  c0 : w.cell? ⟨b, 0, none⟩ = some v0
  c1 : w.cell? ⟨b, 1, none⟩ = some v1
  c2 : w.cell? ⟨b, 2, none⟩ = some v2
  f : ∀ i, w.frozen? ⟨b, i, none⟩ = false
theorem Three.new (w : World) (v0 v1 v2 : Value) (ty : TypeId) : Three (w.alloc (.cells #[v0, v1, v2] ty)) w.heap.size v0 v1 v2 :=
  ⟨by simp, World.cell?_alloc_at _ _ _ _ rfl, World.cell?_alloc_at _ _ _ _ rfl, World.cell?_alloc_at _ _ _ _ rfl, fun i => World.frozen?_alloc_new _ _ _ _⟩
theorem Three.step {w w' : World} {b : Nat} {v0 v1 v2 : Value} (h : Three w b v0 v1 v2) (hb : Below w.heap.size w w') : Three w' b v0 v1 v2 :=
  ⟨Nat.lt_of_lt_of_le h.lt hb.size, (hb.cell (p := ⟨b, 0, none⟩) h.lt).trans h.c0, (hb.cell (p := ⟨b, 1, none⟩) h.lt).trans h.c1, (hb.cell (p := ⟨b, 2, none⟩) h.lt).trans h.c2, fun i => (hb.frozen (p := ⟨b, i, none⟩) h.lt).trans (h.f i)⟩
theorem Three.put {w : World} {b : Nat} {v0 v1 v2 : Value} (h : Three w b v0 v1 v2) (x : Value) :
    Three (w.setCell ⟨b, 0, none⟩ x) b x v1 v2 ∧ Three (w.setCell ⟨b, 1, none⟩ x) b v0 x v2 ∧ Three (w.setCell ⟨b, 2, none⟩ x) b v0 v1 x := by
  have ho : ∀ (i j : Nat) (v : Value), i ≠ j → w.cell? ⟨b, j, none⟩ = some v → (w.setCell ⟨b, i, none⟩ x).cell? ⟨b, j, none⟩ = some v := fun i j v hij hv => by
    rw [World.cell?_setCell_other _ _ _ _ (fun e => hij (by have := congrArg Addr.off e; simp at this; omega))]; exact hv
  have hf : ∀ i j, (w.setCell ⟨b, i, none⟩ x).frozen? ⟨b, j, none⟩ = false := fun i j => by rw [frozen_set]; exact h.f j
  have hl : ∀ i, b < (w.setCell ⟨b, i, none⟩ x).heap.size := fun i => by simp [World.setCell]; exact h.lt
  exact ⟨⟨hl 0, World.cell?_setCell_same _ _ _ h.c0, ho 0 1 _ (by decide) h.c1, ho 0 2 _ (by decide) h.c2, hf 0⟩,
    ⟨hl 1, ho 1 0 _ (by decide) h.c0, World.cell?_setCell_same _ _ _ h.c1, ho 1 2 _ (by decide) h.c2, hf 1⟩,
    ⟨hl 2, ho 2 0 _ (by decide) h.c0, ho 2 1 _ (by decide) h.c1, World.cell?_setCell_same _ _ _ h.c2, hf 2⟩⟩
theorem own_none_at (w : World) (base s : Nat) (hs : w.heap.size = s) (hb : base ≤ s) : (w.alloc (.cells #[] 57)).ownsRow base 57 3 (.slice (some ⟨s, 0, none⟩) 0 0) 0 (rowS []) := by
  subst hs
  exact own_none w base hb
theorem row1_at (w : World) (t : Pm.St) (ty : TypeId) (s : Nat) (hs : w.heap.size = s) : Np.RowSt (w.alloc (.cells #[.int .i64 t.k, .string t.s, .int .i64 t.n] ty)) s 0 [t] := by
  subst hs
  exact row1_new w t ty
theorem step_same {h h0 : Hd} (e1 : h.k = h0.k) (e2 : h.ks = h0.ks) (i : Nat) : stepT h i = stepT h0 i := by
  unfold stepT
  rw [e1]
  simp only [e2]

end Go.Proofs.YtnagecbepidfiaaGreatDoor.Pol
