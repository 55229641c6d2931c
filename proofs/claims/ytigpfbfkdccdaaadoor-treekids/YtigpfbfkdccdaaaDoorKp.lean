/- What is proved here: what the document's own Built answers, walked. -/
import Derived.Test.YtigpfbfkdccdaaaDoorKo
import Derived.Test.YtigpfbfkdccdaaaDoorKn
import Derived.Test.YtigpfbfkdccdaaaDoorUl
import Derived.Deep.DeepCutAuto
import Derived.Deep.LoopGhost
import Derived.Deep.CutRange
import Derived.Deep.CutBlock
import Derived.Deep.RegionWith
namespace Go.Proofs.YtigpfbfkdccdaaaDoor
open Go.RowKit
set_option linter.unusedVariables false
set_option linter.unusedSimpArgs false

/-- An item, in memory. -/
def ItemAt (w : World) (a : Option Addr) (i : Nat) : Prop := ∃ (b o : Nat) (k m : Int) (msk : Nat) (nu tx : ByteArray) (ka : Option Addr) (kc : Nat) (ks : List ByteArray), a = some ⟨b, o, none⟩ ∧ b < w.heap.size ∧ msk < 18446744073709551616 ∧
  (w.cell? ⟨b, o + i * 6, none⟩ = some (.int .i64 k) ∧ w.cell? ⟨b, o + i * 6 + 1, none⟩ = some (.int .i64 m) ∧ w.cell? ⟨b, o + i * 6 + 2, none⟩ = some (.int .u64 (msk : Int)) ∧ w.cell? ⟨b, o + i * 6 + 3, none⟩ = some (.string nu) ∧ w.cell? ⟨b, o + i * 6 + 4, none⟩ = some (.string tx) ∧
    w.cell? ⟨b, o + i * 6 + 5, none⟩ = some (.slice ka ks.length kc)) ∧ ks.length ≤ 140737488355328 ∧
  ∀ j, ∀ h : j < ks.length, ∃ b o, ka = some ⟨b, o, none⟩ ∧ True ∧ b < w.heap.size ∧ w.cell? ⟨b, o + j, none⟩ = some (.string (ks[j]'h))
theorem ItemAt.below {w w' : World} {a : Option Addr} {i : Nat} (hB : Below w.heap.size w w') (h : ItemAt w a i) : ItemAt w' a i := by
  obtain ⟨b, o, k, m, msk, nu, tx, ka, kc, ks, h1, h2, h3, ⟨c0, c1, c2, c3, c4, c5⟩, h5, h6⟩ := h
  refine ⟨b, o, k, m, msk, nu, tx, ka, kc, ks, h1, Nat.lt_of_lt_of_le h2 hB.size, h3, ?_, h5, ?_⟩
  · refine ⟨?_, ?_, ?_, ?_, ?_, ?_⟩ <;> (rw [hB.cell (by exact h2)]; assumption)
  · intro j hj
    obtain ⟨b', o', e, _, hb, hc⟩ := h6 j hj
    exact ⟨b', o', e, trivial, Nat.lt_of_lt_of_le hb hB.size, by rw [hB.cell (by exact hb)]; exact hc⟩

theorem and_7 (k : Int) : (BitVec.ofInt 64 k &&& BitVec.ofInt 64 7).toNat < 8 := by
  rw [BitVec.toNat_and]
  exact Nat.lt_of_le_of_lt Nat.and_le_right (by decide)
theorem bits_7 (k : Int) : ∃ q : Nat, q < 8 ∧ bits BinOp.and IntKind.i64 k 7 = (q : Int) := by
  refine ⟨(BitVec.ofInt 64 k &&& BitVec.ofInt 64 7).toNat, and_7 k, ?_⟩
  have h := and_7 k
  show IntKind.i64.wrap ((BitVec.ofInt 64 k &&& BitVec.ofInt 64 7).toNat : Int) = _
  rw [IntKind.wrap_i64]
  omega
theorem bits_71 (k : Int) : ∃ kd : Int, (kd = 1 ∨ kd = 2 ∨ kd = 3 ∨ kd = 4 ∨ kd = 5 ∨ kd = 6 ∨ kd = 7 ∨ kd = 8) ∧ wrap64 (bits BinOp.and IntKind.i64 k 7 + 1) = kd := by
  obtain ⟨q, h1, h2⟩ := bits_7 k
  refine ⟨(q : Int) + 1, by omega, ?_⟩
  rw [h2]
  unfold wrap64
  omega
/-- A number that may be. -/
def NumOk (ng : Bool) (dg : ByteArray) (sc : Int) : Prop := ∃ d, Dm.May d ∧ ng = d.ng ∧ dg = ⟨d.ds.toArray⟩ ∧ sc = (d.sc : Int)
theorem num_seven : NumOk false ⟨#[55]⟩ 0 := ⟨⟨false, [55], 0⟩, ⟨by intro c hc; simp at hc; subst hc; decide, by decide, by decide, .inr ⟨⟨55, [], rfl, by decide⟩, .inl rfl⟩⟩, rfl, rfl, rfl⟩
theorem parse_shape (s : ByteArray) (hs : s.size ≤ 800) : ∃ ng dg sc er, (er = 0 ∧ NumOk ng dg sc ∨ (er = 3 ∨ er = 4)) ∧
    ∀ W, Calls Tryd.prog 34 #[.string s] W fun e w' => e = .returned (.tuple #[.agg #[.bool ng, .string dg, .int .i64 sc], .int .i64 er]) ∧ Below W.heap.size W w' := by
  have C := fun W => rparse_any s W hs
  cases h : Dm.parseL s.data.toList with
  | none =>
    rw [h] at C
    exact ⟨false, ⟨#[]⟩, 0, 4, .inr (.inr rfl), C⟩
  | some r =>
    cases r with
    | none =>
      rw [h] at C
      exact ⟨false, ⟨#[]⟩, 0, 3, .inr (.inl rfl), C⟩
    | some d =>
      rw [h] at C
      exact ⟨d.ng, ⟨d.ds.toArray⟩, (d.sc : Int), 0, .inl ⟨rfl, d, Dm.parse_may h, rfl, rfl, rfl⟩, C⟩
/-- A block that holds so many cells. -/
def Box (W : World) (S : Nat) (c : Array Value) : Prop := (∀ r, W.cell? ⟨S, r, none⟩ = c[r]?) ∧ (∀ r, W.frozen? ⟨S, r, none⟩ = false) ∧ S < W.heap.size
theorem Box.new (w : World) (c : Array Value) (t : TypeId) : Box (w.alloc (.cells c t)) w.heap.size c := by
  refine ⟨fun r => World.cell?_alloc_at _ _ _ _ rfl, fun r => World.frozen?_alloc_at _ _ _ _ rfl, by simp⟩
theorem Box.kept {ok : Nat → Prop} {W W' : World} {S : Nat} {c : Array Value} (h : Box W S c) (hk : Kept ok W W') (ho : ok S) : Box W' S c := by
  obtain ⟨h1, h2, h3⟩ := h
  refine ⟨fun r => by rw [hk.cell ho h3]; exact h1 r, fun r => ?_, Nat.lt_of_lt_of_le h3 hk.1⟩
  rw [← h2 r]
  exact World.frozen?_of_block (a := ⟨S, r, none⟩) (hk.2 S ho h3)
theorem Box.set {W : World} {S : Nat} {c c' : Array Value} (h : Box W S c) (q : Nat) (x : Value) (hq : q < c.size) (hc : ∀ r, c'[r]? = if r = q then some x else c[r]?) : Box (W.setCell ⟨S, q, none⟩ x) S c' := by
  obtain ⟨h1, h2, h3⟩ := h
  refine ⟨fun r => ?_, fun r => ?_, by simpa [World.setCell] using h3⟩
  · rw [hc r]
    by_cases e : r = q
    · subst e
      rw [if_pos rfl]
      exact World.cell?_setCell_same _ _ _ (u := c[r]'hq) (by rw [h1 r, Array.getElem?_eq_getElem hq])
    · rw [if_neg e, World.cell?_setCell_other _ _ _ _ (fun e2 => e (Addr.mk.inj e2).2.1.symm)]
      exact h1 r
  · rw [← h2 r]
    exact World.frozen?_setCell _ _ _ _

/-- What a node of such a tree is, but for its keys. -/
def HdOk (h : Hd) (m : Nat) : Prop := 1 ≤ h.k ∧ h.k ≤ 8 ∧ m ≤ 7 ∧ (h.k ≠ 6 → h.k ≠ 7 → m = 0) ∧ (h.k = 4 → NumOk h.ng h.dg h.sc) ∧ (h.k ≠ 4 → h.ng = false ∧ h.dg = ⟨#[]⟩ ∧ h.sc = 0) ∧ (h.k = 5 → keyOk h.tx) ∧ (h.k ≠ 5 → h.tx = ⟨#[]⟩) ∧ (h.k = 8 → h.cd = 40) ∧ (h.k ≠ 8 → h.cd = 0)
def goodH (h : Hd) (m : Nat) : Prop := HdOk h m ∧ (h.k = 7 → h.ks.length = m ∧ h.ks.Nodup ∧ ∀ x, x ∈ h.ks → keyOk x) ∧ (h.k ≠ 7 → h.ks = [])
/-- A tree of a row. -/
def goodT : Nat → Tr → Prop
  | 0, _ => True
  | n + 1, t => goodH (Tr.hd t) (Tr.kd t).length ∧ ∀ k, k ∈ Tr.kd t → goodT n k
theorem goodT_less : ∀ (n : Nat) (t : Tr), goodT (n + 1) t → goodT n t
  | 0, _, _ => trivial
  | n + 1, t, h => ⟨h.1, fun k hk => goodT_less n k (h.2 k hk)⟩
theorem sizeT_more : ∀ (n : Nat) (t : Tr), sizeT n t ≤ sizeT (n + 1) t
  | 0, t => sizeT_pos 1 t
  | n + 1, t => by
    have := map_sum_le (sizeT n) (sizeT (n + 1)) (sizeT_more n) (Tr.kd t)
    show 1 + _ ≤ 1 + _
    omega
theorem good_ok : ∀ (n : Nat) (t : Tr), goodT n t → okT n t
  | 0, _, _ => trivial
  | n + 1, t, h => by
    obtain ⟨⟨h1, h2, h3⟩, h4⟩ := h
    have hm := h1.2.2.1
    refine ⟨?_, by omega, fun k hk => good_ok n k (h4 k hk)⟩
    by_cases e : (Tr.hd t).k = 7
    · rw [(h2 e).1]; omega
    · rw [h3 e]; simp
/-- A row that is owned, with values that lie where they may. -/
def RowOk (ok : Nat → Prop) (lo : Nat) (w : World) (d g cap : Nat) (Ts : List Tr) : Prop :=
  ∃ css : List (List Value), css.length = Ts.length ∧ (∀ c, c ∈ css → c.length = 9 ∧ ∀ u, u ∈ c → u.oneCell' = true) ∧ w.ownsRow lo 33 9 (.slice (some ⟨g, 0, none⟩) Ts.length cap) Ts.length css.flatten ∧
    ∀ j, ∀ h1 : j < css.length, ∀ h2 : j < Ts.length, Lies ok w d (.agg (css[j]'h1).toArray) (Ts[j]'h2)
theorem owns_keep {ok : Nat → Prop} {lo n g m cap : Nat} {w w' : World} {t : TypeId} {xs : List Value} (h : w.ownsRow lo t n (.slice (some ⟨g, 0, none⟩) m cap) m xs) (hk : Kept ok w w') (hg : ok g) : w'.ownsRow lo t n (.slice (some ⟨g, 0, none⟩) m cap) m xs := by
  refine ⟨h.1, ?_⟩
  rcases h.2 with ⟨e, e2⟩ | ⟨g', cap', cur, hv, hbg, hh, r⟩
  · exact .inl ⟨e, e2⟩
  · obtain ⟨rfl, _, _⟩ := Addr.mk.inj (Option.some.inj (Value.slice.inj hv).1)
    refine .inr ⟨g, cap', cur, hv, hbg, ?_, r⟩
    rw [hk.2 g hg (Array.getElem?_eq_some_iff.1 hh).1]
    exact hh
theorem RowOk.keep {ok ok' ok2 : Nat → Prop} {lo d d' g cap : Nat} {w w' : World} {Ts : List Tr} (h : RowOk ok lo w d g cap Ts) (hk : Kept ok2 w w') (hi : ∀ b, b < w.heap.size → ok b → ok2 b ∧ ok' b) (hg : ok2 g) (hd : d ≤ d') : RowOk ok' lo w' d' g cap Ts := by
  obtain ⟨css, h1, h2, hown, h4⟩ := h
  exact ⟨css, h1, h2, owns_keep hown hk hg, fun j j1 j2 => ((h4 j j1 j2).keep (hk.weak (fun b hb ho => (hi b hb ho).1)) (fun b hb ho => (hi b hb ho).2)).more hd⟩
theorem RowOk.kids {ok ok' : Nat → Prop} {lo d g cap : Nat} {w : World} {Ts : List Tr} (h : RowOk ok lo w d g cap Ts) (hg : ok' g) (hi : ∀ b, b < w.heap.size → ok b → ok' b) : KidsIn ok' (Lies ok' w d) w (.slice (some ⟨g, 0, none⟩) Ts.length cap) Ts := by
  obtain ⟨css, h1, h2, hown, h4⟩ := h
  have hlt := (hown.lt g rfl).2
  refine ⟨_, cap, rfl, ?_, fun i hi' => ?_⟩
  · rcases hown.2 with ⟨e, _⟩ | ⟨g', cap', cur, hv, _, _, hnc, _⟩
    · cases e
    · have e1 := Value.slice.inj hv
      rw [e1.2.2]
      exact ⟨hnc, fun e => by cases e⟩
  · refine ⟨g, 0, (css[i]'(by omega)).toArray, rfl, hg, hlt, ?_, (h4 i (by omega) hi').weak hi⟩
    intro r hr
    have hc9 : (css[i]'(by omega)).length = 9 := (h2 _ (List.getElem_mem _)).1
    have hr9 : r < 9 := by simpa [hc9] using hr
    have hfa := flat_at css (fun c hc => (h2 c hc).1) i r hr9 (by omega)
    have := hown.cells (g := g) rfl (i * 9 + r) ((css[i]'(by omega))[r]'(by omega)) (by rw [hfa, List.getElem?_eq_getElem (by omega)])
    have e1 : (⟨g, 0, none⟩ : Addr).add (i * 9 + r) = ⟨g, 0 + i * 9 + r, none⟩ := by unfold Addr.add; split <;> simp_all
    rw [e1] at this
    rw [this]
    simp
/-- A part of a row, in a row of its own. -/
theorem row_part9 {lo B d g' cap' gE : Nat} {X X1 : World} {Ts' : List Tr} {css' : List (List Value)} (h1 : css'.length = Ts'.length) (h2 : ∀ c, c ∈ css' → c.length = 9 ∧ ∀ u, u ∈ c → u.oneCell' = true)
    (h4 : ∀ j, ∀ h1 : j < css'.length, ∀ h2 : j < Ts'.length, Lies (fun b => lo ≤ b ∧ b < B) X d (.agg (css'[j]'h1).toArray) (Ts'[j]'h2))
    (hown : X1.ownsRow lo 33 9 (.slice (some ⟨g', 0, none⟩) Ts'.length cap') Ts'.length css'.flatten) (hgr : X.grownBy X1 (some gE)) (hE : B ≤ gE) : RowOk (fun b => lo ≤ b ∧ b < B) lo X1 d g' cap' Ts' := by
  have hkept : Kept (fun b => b < B) X X1 := ⟨hgr.size, fun b hb hlb => hgr.block b hlb (fun e => by have := Option.some.inj e; omega)⟩
  exact ⟨css', h1, h2, hown, fun j j1 j2 => (h4 j j1 j2).keep (hkept.weak (fun b _ hb => hb.2)) (fun b _ hb => hb)⟩
theorem RowIn.ok {lo d g cap : Nat} {w : World} {Ts : List Tr} (h : RowIn lo w d g cap Ts) : RowOk (fun b => lo ≤ b ∧ b ≠ g) lo w d g cap Ts := h
theorem RowOk.inn {lo d g cap : Nat} {w : World} {Ts : List Tr} (h : RowOk (fun b => lo ≤ b ∧ b ≠ g) lo w d g cap Ts) : RowIn lo w d g cap Ts := h

end Go.Proofs.YtigpfbfkdccdaaaDoor
