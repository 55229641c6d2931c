/- What is proved here: read of package policy, walked: what it takes from any text, and that of a text that was printed it is the policy; conditions: the tables and the two errors lie. -/
import Derived.Test.YtnagecbepidfiaaGreatDoorZHb
import Derived.Deep.RegionHeld3
import Derived.Deep.LoopGhost
namespace Go.Proofs.YtnagecbepidfiaaGreatDoor.Pol
set_option maxRecDepth 100000
open Go.RowKit Go.Proofs.YtnagecbepidfiaaGreatDoor.Nc Go.Proofs.YtnagecbepidfiaaGreatDoor.Np Go.Proofs.YtnagecbepidfiaaGreatDoor.Nq
set_option linter.unusedVariables false
set_option linter.unusedSimpArgs false

theorem lines_any (s : ByteArray) (w : World) : Calls Tryz.prog 66 #[.string s] w fun e w' => e = .returned (.func (.func 95) #[] #[.pointer (some ⟨w.heap.size, 0, none⟩)]) ∧ w' = w.alloc (.cells #[.string s] 9) := by
  go_enter Tryz.func66, Tryz.ntmps66
  go_wp2
  go_ret
  exact ⟨rfl, rfl⟩
/-- A block of five cells that may be written. -/
structure Five (w : World) (b : Nat) (v0 v1 v2 v3 v4 : Value) : Prop where
  lt : b < w.heap.size
  c0 : w.cell? ⟨b, 0, none⟩ = some v0
  c1 : w.cell? ⟨b, 1, none⟩ = some v1
  c2 : w.cell? ⟨b, 2, none⟩ = some v2
  c3 : w.cell? ⟨b, 3, none⟩ = some v3
  c4 : w.cell? ⟨b, 4, none⟩ = some v4
  f : ∀ i, w.frozen? ⟨b, i, none⟩ = false
theorem Five.new (w : World) (v0 v1 v2 v3 v4 : Value) (ty : TypeId) : Five (w.alloc (.cells #[v0, v1, v2, v3, v4] ty)) w.heap.size v0 v1 v2 v3 v4 :=
  ⟨by simp, World.cell?_alloc_at _ _ _ _ rfl, World.cell?_alloc_at _ _ _ _ rfl, World.cell?_alloc_at _ _ _ _ rfl, World.cell?_alloc_at _ _ _ _ rfl, World.cell?_alloc_at _ _ _ _ rfl, fun i => World.frozen?_alloc_new _ _ _ _⟩
theorem Five.blk {w w' : World} {b : Nat} {v0 v1 v2 v3 v4 : Value} (h : Five w b v0 v1 v2 v3 v4) (hs : w.heap.size ≤ w'.heap.size) (e : w'.heap[b]? = w.heap[b]?) : Five w' b v0 v1 v2 v3 v4 :=
  ⟨Nat.lt_of_lt_of_le h.lt hs, (cell_of_blk e).trans h.c0, (cell_of_blk e).trans h.c1, (cell_of_blk e).trans h.c2, (cell_of_blk e).trans h.c3, (cell_of_blk e).trans h.c4, fun i => (World.frozen?_of_block (w := w) (a := ⟨b, i, none⟩) e).trans (h.f i)⟩
theorem Five.step {w w' : World} {b : Nat} {v0 v1 v2 v3 v4 : Value} (h : Five w b v0 v1 v2 v3 v4) (hb : Below w.heap.size w w') : Five w' b v0 v1 v2 v3 v4 := h.blk hb.size (hb.block b h.lt)
theorem Five.off {w w' : World} {b y : Nat} {v0 v1 v2 v3 v4 : Value} (h : Five w b v0 v1 v2 v3 v4) (hb : Off y w w') (hy : b ≠ y) : Five w' b v0 v1 v2 v3 v4 := h.blk hb.size (hb.block b h.lt hy)
theorem Five.put {w : World} {b : Nat} {v0 v1 v2 v3 v4 : Value} (h : Five w b v0 v1 v2 v3 v4) (x : Value) :
    Five (w.setCell ⟨b, 0, none⟩ x) b x v1 v2 v3 v4 ∧ Five (w.setCell ⟨b, 1, none⟩ x) b v0 x v2 v3 v4 ∧ Five (w.setCell ⟨b, 2, none⟩ x) b v0 v1 x v3 v4 ∧ Five (w.setCell ⟨b, 3, none⟩ x) b v0 v1 v2 x v4 ∧ Five (w.setCell ⟨b, 4, none⟩ x) b v0 v1 v2 v3 x := by
  have ho : ∀ (i j : Nat) (v : Value), i ≠ j → w.cell? ⟨b, j, none⟩ = some v → (w.setCell ⟨b, i, none⟩ x).cell? ⟨b, j, none⟩ = some v := fun i j v hij hv => by
    rw [World.cell?_setCell_other _ _ _ _ (fun e => hij (by have := congrArg Addr.off e; simp at this; omega))]; exact hv
  have hf : ∀ i j, (w.setCell ⟨b, i, none⟩ x).frozen? ⟨b, j, none⟩ = false := fun i j => by rw [frozen_set]; exact h.f j
  have hl : ∀ i, b < (w.setCell ⟨b, i, none⟩ x).heap.size := fun i => by simp [World.setCell]; exact h.lt
  exact ⟨⟨hl 0, World.cell?_setCell_same _ _ _ h.c0, ho 0 1 _ (by decide) h.c1, ho 0 2 _ (by decide) h.c2, ho 0 3 _ (by decide) h.c3, ho 0 4 _ (by decide) h.c4, hf 0⟩,
    ⟨hl 1, ho 1 0 _ (by decide) h.c0, World.cell?_setCell_same _ _ _ h.c1, ho 1 2 _ (by decide) h.c2, ho 1 3 _ (by decide) h.c3, ho 1 4 _ (by decide) h.c4, hf 1⟩,
    ⟨hl 2, ho 2 0 _ (by decide) h.c0, ho 2 1 _ (by decide) h.c1, World.cell?_setCell_same _ _ _ h.c2, ho 2 3 _ (by decide) h.c3, ho 2 4 _ (by decide) h.c4, hf 2⟩,
    ⟨hl 3, ho 3 0 _ (by decide) h.c0, ho 3 1 _ (by decide) h.c1, ho 3 2 _ (by decide) h.c2, World.cell?_setCell_same _ _ _ h.c3, ho 3 4 _ (by decide) h.c4, hf 3⟩,
    ⟨hl 4, ho 4 0 _ (by decide) h.c0, ho 4 1 _ (by decide) h.c1, ho 4 2 _ (by decide) h.c2, ho 4 3 _ (by decide) h.c3, World.cell?_setCell_same _ _ _ h.c4, hf 4⟩⟩
theorem Five.other {w : World} {b : Nat} {v0 v1 v2 v3 v4 : Value} (h : Five w b v0 v1 v2 v3 v4) (p : Addr) (hp : b ≠ p.block) (x : Value) : Five (w.setCell p x) b v0 v1 v2 v3 v4 :=
  h.blk (by simp [World.setCell]) (Below.heap_setCell _ _ _ _ hp)
theorem BoxS.other {w : World} {cb : Nat} {T : ByteArray} (h : BoxS w cb T) (p : Addr) (hp : cb ≠ p.block) (x : Value) : BoxS (w.setCell p x) cb T := by
  obtain ⟨ty, g⟩ := h
  exact ⟨ty, (Below.heap_setCell _ _ _ _ hp).trans g⟩
/-- Whatever the next line is. -/
theorem next_ex (w0 T : ByteArray) : ∃ x r : ByteArray, nextF w0.data.toList T.data.toList = (x.data.toList, r.data.toList) ∧ x.size ≤ T.size ∧ r.size ≤ T.size := by
  refine ⟨⟨(nextF w0.data.toList T.data.toList).1.toArray⟩, ⟨(nextF w0.data.toList T.data.toList).2.toArray⟩, by simp, ?_, ?_⟩
  · show (nextF w0.data.toList T.data.toList).1.toArray.size ≤ _
    rw [List.size_toArray, ← len_size]
    unfold nextF
    split
    · rw [List.length_drop]
      have := (List.takeWhile_sublist (fun c => c != 10) (l := T.data.toList)).length_le
      omega
    · simp
  · show (nextF w0.data.toList T.data.toList).2.toArray.size ≤ _
    rw [List.size_toArray, ← len_size]
    unfold nextF
    split
    · rw [List.length_drop]; omega
    · exact Nat.le_refl _
theorem unq_ex (x : ByteArray) (hx : x.size ≤ 1000000) : ∃ (u : ByteArray) (n e : Nat), (∀ W, Tabs W → Calls Tryz.prog 69 #[.string x] W fun r w' => r = .returned (.tuple #[.string u, .int .i64 (n : Int), .int .i64 (e : Int)]) ∧ Below W.heap.size W w') ∧ u.size ≤ 4096 ∧
    ∀ l : Tx, Lib.validD l = true → l.length ≤ 4096 → x.data.toList = Qm.quoteL l → u.data.toList = l := by
  refine ⟨⟨(Qm.unquoteL x.data.toList).1.toArray⟩, (Qm.unquoteL x.data.toList).2.1, (Qm.unquoteL x.data.toList).2.2, fun W h => unquote_c x _ _ _ W (by omega) (by simp) h, ?_, fun l hv hl he => ?_⟩
  · show (Qm.unquoteL x.data.toList).1.toArray.size ≤ 4096
    rw [List.size_toArray]
    rcases Qm.unquote_shape x.data.toList with ⟨t, n, h, _, _, _, h6⟩ | h | h <;> rw [h]
    · exact h6
    · decide
    · decide
  have := Qm.unquote_quote l [] hv hl
  rw [List.append_nil] at this
  simp [he, this]

/-- What stands while read goes on. -/
structure RS (w0 : World) (rb : Nat) (W : World) (T : ByteArray) (v0 v1 v2 v3 v4 : Value) : Prop where
  b : Below rb w0 W
  sz : rb + 3 ≤ W.heap.size
  r : Five W rb (.slice none 0 0) (.slice none 0 0) (.string ⟨#[]⟩) (.int .i64 0) (.int .i64 0)
  x : BoxS W (rb + 1) T
  f : Five W (rb + 1 + 1) v0 v1 v2 v3 v4
theorem RS.step {w0 : World} {rb : Nat} {W W' : World} {T : ByteArray} {v0 v1 v2 v3 v4 : Value} (h : RS w0 rb W T v0 v1 v2 v3 v4) (hb : Below W.heap.size W W') : RS w0 rb W' T v0 v1 v2 v3 v4 :=
  ⟨h.b.trans (hb.mono (by have := h.sz; omega)), Nat.le_trans h.sz hb.size, h.r.step hb, h.x.step hb, h.f.step hb⟩
theorem RS.next {w0 : World} {rb : Nat} {W W' : World} {T T' : ByteArray} {v0 v1 v2 v3 v4 : Value} (h : RS w0 rb W T v0 v1 v2 v3 v4) (hx : BoxS W' (rb + 1) T') (ho : Off (rb + 1) W W') : RS w0 rb W' T' v0 v1 v2 v3 v4 :=
  ⟨ho.below h.b (by omega) (by have := h.sz; omega), Nat.le_trans h.sz ho.size, h.r.off ho (by omega), hx, h.f.off ho (by omega)⟩
theorem RS.grown {w0 : World} {rb : Nat} {W W' : World} {T : ByteArray} {v0 v1 v2 v3 v4 : Value} {x : Option Nat} (h : RS w0 rb W T v0 v1 v2 v3 v4) (hg : W.grownBy W' x) (hx : ∀ k, x = some k → rb + 3 ≤ k) : RS w0 rb W' T v0 v1 v2 v3 v4 := by
  have hk : ∀ k, k < rb + 3 → W'.heap[k]? = W.heap[k]? := fun k hk => hg.block k (by have := h.sz; omega) (fun e => by have := hx k e.symm; omega)
  refine ⟨h.b.grown hg (by have := h.sz; omega) (fun k hk => by have := hx k hk; omega), Nat.le_trans h.sz hg.size, h.r.blk hg.size (hk _ (by omega)), ?_, h.f.blk hg.size (hk _ (by omega))⟩
  obtain ⟨ty, e⟩ := h.x
  exact ⟨ty, (hk _ (by omega)).trans e⟩
theorem RS.put {w0 : World} {rb : Nat} {W : World} {T : ByteArray} {v0 v1 v2 v3 v4 : Value} (h : RS w0 rb W T v0 v1 v2 v3 v4) (x : Value) :
    RS w0 rb (W.setCell ⟨rb + 1 + 1, 0, none⟩ x) T x v1 v2 v3 v4 ∧ RS w0 rb (W.setCell ⟨rb + 1 + 1, 1, none⟩ x) T v0 x v2 v3 v4 ∧ RS w0 rb (W.setCell ⟨rb + 1 + 1, 2, none⟩ x) T v0 v1 x v3 v4 ∧ RS w0 rb (W.setCell ⟨rb + 1 + 1, 3, none⟩ x) T v0 v1 v2 x v4 ∧ RS w0 rb (W.setCell ⟨rb + 1 + 1, 4, none⟩ x) T v0 v1 v2 v3 x := by
  obtain ⟨p0, p1, p2, p3, p4⟩ := h.f.put x
  have hb : ∀ i, Below rb w0 (W.setCell ⟨rb + 1 + 1, i, none⟩ x) := fun i => h.b.setCell (by show rb ≤ rb + 1 + 1; omega) x
  have hz : ∀ i, rb + 3 ≤ (W.setCell ⟨rb + 1 + 1, i, none⟩ x).heap.size := fun i => by simp [World.setCell]; exact h.sz
  have hr : ∀ i, Five (W.setCell ⟨rb + 1 + 1, i, none⟩ x) rb (.slice none 0 0) (.slice none 0 0) (.string ⟨#[]⟩) (.int .i64 0) (.int .i64 0) := fun i => h.r.other _ (by show rb ≠ rb + 1 + 1; omega) x
  have hx : ∀ i, BoxS (W.setCell ⟨rb + 1 + 1, i, none⟩ x) (rb + 1) T := fun i => h.x.other _ (by show rb + 1 ≠ rb + 1 + 1; omega) x
  exact ⟨⟨hb 0, hz 0, hr 0, hx 0, p0⟩, ⟨hb 1, hz 1, hr 1, hx 1, p1⟩, ⟨hb 2, hz 2, hr 2, hx 2, p2⟩, ⟨hb 3, hz 3, hr 3, hx 3, p3⟩, ⟨hb 4, hz 4, hr 4, hx 4, p4⟩⟩
theorem next_line {w : Tx} {us : List Tx} {r : Tx} {w0 T x R : ByteArray} (h : nextF w0.data.toList T.data.toList = (x.data.toList, R.data.toList)) (hw0 : w0.data.toList = w) (hw : (10 : UInt8) ∉ w) (hT : T.data.toList = lineT w us ++ r) (hu : (10 : UInt8) ∉ Cm.flatB us) :
    x.data.toList = Cm.flatB us ∧ R.data.toList = r := by
  rw [hw0, hT, line_app, next_yes hw hu] at h
  obtain ⟨h1, h2⟩ := Prod.mk.inj h
  exact ⟨h1.symm, h2.symm⟩
theorem next_stay {w0 T x R : ByteArray} (h : nextF w0.data.toList T.data.toList = (x.data.toList, R.data.toList)) (hw0 : w0.data.toList = wMark) (p : Po) (hT : T.data.toList = tailT p) : x.data.toList = [] ∧ R.data.toList = tailT p := by
  obtain ⟨u, e⟩ := tail_head p
  rw [hw0, hT, e, show wMark = 109 :: [97, 114, 107] from rfl, next_no (by decide)] at h
  obtain ⟨h1, h2⟩ := Prod.mk.inj h
  exact ⟨h1.symm, by rw [e, ← h2]⟩
/-- A row of marks of one's own, and what lies in it. -/
structure MR (W : World) (base : Nat) (v : Value) (D : List Dk) : Prop where
  own : W.ownsRow base 59 2 v D.length (rowM D)
  each : ∀ d ∈ D, GoodMk d.m ∧ StF W base v.ownBlock d.a d.n d.m.path
theorem MR.keep {W W' : World} {base : Nat} {v : Value} {D : List Dk} (h : MR W base v D) (hk : Kp base none W W') : MR W' base v D :=
  ⟨ownM_block h.own (fun g hg => hk.2 g (h.own.lt g hg).1 (h.own.lt g hg).2 (by simp)), fun d hd => ⟨(h.each d hd).1, (h.each d hd).2.keep ⟨hk.1, fun k a b _ => hk.2 k a b (by simp)⟩⟩⟩
theorem TxF.app {W W' : World} {base g : Nat} {x : Option Nat} {a : Option Addr} {n : Nat} {L : List Tx} (h : TxF W base x a n L) (hg : W.grownBy W' x) (hat : x = some g ∨ g = W.heap.size) : TxF W' base (some g) a n L := by
  have h2 := h.keep (Kp.of_grown hg)
  refine ⟨h.1, ?_⟩
  rcases h.2 with e | ⟨b, o, e, r, h1, hx⟩
  · exact .inl e
  · rcases h2.2 with e2 | ⟨b2, o2, e2, r2, h12, hx2⟩
    · exact .inl e2
    · rw [e] at e2
      obtain ⟨rfl, rfl, _⟩ := Addr.mk.inj (Option.some.inj e2)
      refine .inr ⟨b, o, e, r2, h1, ?_⟩
      rcases hat with q | q
      · rw [← q]; exact hx
      · intro q2; have := Option.some.inj q2; have := r.1; omega
theorem StF.app {W W' : World} {base g : Nat} {x : Option Nat} {a : Option Addr} {n : Nat} {L : List Pm.St} (h : StF W base x a n L) (hg : W.grownBy W' x) (hat : x = some g ∨ g = W.heap.size) : StF W' base (some g) a n L := by
  have h2 := h.keep (Kp.of_grown hg)
  refine ⟨h.1, ?_⟩
  rcases h.2 with e | ⟨b, o, e, r, h1, hx⟩
  · exact .inl e
  · rcases h2.2 with e2 | ⟨b2, o2, e2, r2, h12, hx2⟩
    · exact .inl e2
    · rw [e] at e2
      obtain ⟨rfl, rfl, _⟩ := Addr.mk.inj (Option.some.inj e2)
      refine .inr ⟨b, o, e, r2, h1, ?_⟩
      rcases hat with q | q
      · rw [← q]; exact hx
      · intro q2; have := Option.some.inj q2; have := r.1; omega
theorem Kp.any {base : Nat} {x : Option Nat} {w w' : World} (h : Kp base none w w') : Kp base x w w' := ⟨h.1, fun k a b _ => h.2 k a b (by simp)⟩

set_option maxHeartbeats 8000000 in
theorem read_any (s : ByteArray) (hs : s.size ≤ 99000) (w : World) (hT : Tabs w) (hP : Pow w) (hE : Errs w) :
    Calls Tryz.prog 28 #[.string s] w fun e w' => Below w.heap.size w w' ∧ ∃ v p, e = .returned v ∧ PolF w' w.heap.size v p ∧ p.cats.length ≤ 64 ∧ (∀ x ∈ p.cats, x.length ≤ 1000000) ∧ p.marks.length ≤ 16 ∧ (∀ m ∈ p.marks, m.path.length ≤ 8) ∧ p.token.length ≤ 4096 ∧ ∀ p0, Ok p0 → printT ptL p0 = s.data.toList → p = p0 := by
  obtain ⟨i0, hi, hz0, hz1, hz2⟩ := info_parts infoM
  obtain ⟨x1, T1, hn1, hx1, hT1⟩ := next_ex ⟨#[99, 97, 116, 115]⟩ s
  have M1 : Hid (∀ p0, Ok p0 → printT ptL p0 = s.data.toList → Cm.flatB p0.cats = x1.data.toList ∧ T1.data.toList = marksT ptL p0.cats p0.marks ++ tailT p0) := phide (fun p0 ho he => by
    obtain ⟨h1, h2⟩ := next_line (w := wCats) (us := p0.cats) (r := marksT ptL p0.cats p0.marks ++ tailT p0) hn1 rfl (by decide) he.symm (flat_no (by decide) (fun x hx => (ho.good.names x hx).1))
    exact ⟨h1.symm, h2⟩)
  go_enter Tryz.func28, Tryz.ntmps28
  go_wp2_with fail
  refine (lines_any s _).mono ?_
  rintro e w2 ⟨rfl, rfl⟩
  go_wp2_with fail
  have hS : RS w w.heap.size (((w.alloc (.cells #[.slice none 0 0, .slice none 0 0, .string ⟨#[]⟩, .int .i64 0, .int .i64 0] 25)).alloc (.cells #[.string s] 9)).alloc (.cells #[.slice none 0 0, .slice none 0 0, .string ⟨#[]⟩, .int .i64 0, .int .i64 0] 25)) s (.slice none 0 0) (.slice none 0 0) (.string ⟨#[]⟩) (.int .i64 0) (.int .i64 0) := by
    have b1 : Below w.heap.size w (w.alloc (.cells #[.slice none 0 0, .slice none 0 0, .string ⟨#[]⟩, .int .i64 0, .int .i64 0] 25)) := (Below.refl _ _).alloc (Nat.le_refl _) _
    have s1 : (w.alloc (.cells #[.slice none 0 0, .slice none 0 0, .string ⟨#[]⟩, .int .i64 0, .int .i64 0] 25)).heap.size = w.heap.size + 1 := by simp
    have f1 := Five.new w (.slice none 0 0) (.slice none 0 0) (.string ⟨#[]⟩) (.int .i64 0) (.int .i64 0) 25
    generalize w.alloc (.cells #[.slice none 0 0, .slice none 0 0, .string ⟨#[]⟩, .int .i64 0, .int .i64 0] 25) = W1 at *
    have b2 : Below W1.heap.size W1 (W1.alloc (.cells #[.string s] 9)) := (Below.refl _ _).alloc (Nat.le_refl _) _
    have s2 : (W1.alloc (.cells #[.string s] 9)).heap.size = W1.heap.size + 1 := by simp
    have x1 : BoxS (W1.alloc (.cells #[.string s] 9)) W1.heap.size s := ⟨9, heap_alloc_new W1 _⟩
    generalize W1.alloc (.cells #[.string s] 9) = W2 at *
    have b3 : Below W2.heap.size W2 (W2.alloc (.cells #[.slice none 0 0, .slice none 0 0, .string ⟨#[]⟩, .int .i64 0, .int .i64 0] 25)) := (Below.refl _ _).alloc (Nat.le_refl _) _
    have s3 : (W2.alloc (.cells #[.slice none 0 0, .slice none 0 0, .string ⟨#[]⟩, .int .i64 0, .int .i64 0] 25)).heap.size = W2.heap.size + 1 := by simp
    have f3 := Five.new W2 (.slice none 0 0) (.slice none 0 0) (.string ⟨#[]⟩) (.int .i64 0) (.int .i64 0) 25
    rw [s2, s1] at f3
    rw [s1] at x1
    exact ⟨(b1.trans (b2.mono (by omega))).trans (b3.mono (by omega)), by omega, (f1.step b2).step b3, x1.step b3, f3⟩
  generalize ((w.alloc (.cells #[.slice none 0 0, .slice none 0 0, .string ⟨#[]⟩, .int .i64 0, .int .i64 0] 25)).alloc (.cells #[.string s] 9)).alloc (.cells #[.slice none 0 0, .slice none 0 0, .string ⟨#[]⟩, .int .i64 0, .int .i64 0] 25) = W0 at *
  have HT : Hid (∀ W, Below w.heap.size w W → Tabs W ∧ Pow W ∧ Errs W) := phide (fun W hB => ⟨tabs_step hT hB, hP.next hB, Errs.next hE hB⟩)
  generalize hrb : w.heap.size = rb at *
  have HRB := phide hrb
  clear hT hP hE hrb
  have C1 := fun W h => next_any (rb + 1) ⟨#[99, 97, 116, 115]⟩ s x1 T1 (by omega) hn1 W h
  have C2 := fun W => readCats_any x1 (by omega) W
  clear hn1
  refine (C1 _ hS.x).mono ?_
  rintro e W1 ⟨rfl, hx, ho⟩
  replace hS := hS.next hx ho
  clear C1 hx ho
  go_wp2_with fail
  refine (C2 _).mono ?_
  rintro e W2 ⟨b2, ca, cn, cc, L, rfl, hL, h64, hLn, hLl, hLc⟩
  have hLf : TxF W2 (rb + 3) none ca cn L := TxF.of hL (fun g o e => ⟨by have := hLn g o e; have := hS.sz; omega, by simp⟩)
  replace hS := hS.step b2
  have hLL : L.length = cn := hL.1
  have M2 : Hid (∀ p0, Ok p0 → printT ptL p0 = s.data.toList → p0.cats = L ∧ ∃ rest, p0.marks = ([] : List Dk).map (·.m) ++ rest ∧ T1.data.toList = marksT ptL L rest ++ tailT p0) := phide (fun p0 ho he => by
    obtain ⟨h1, h2⟩ := punhide M1 p0 ho he
    have := hLc p0.cats (fun y hy => (name_no (ho.names y hy)).2.1) ho.n64 h1
    exact ⟨this.symm, p0.marks, rfl, by rw [this]; exact h2⟩)
  have HLL := phide hLl
  clear C2 b2 hL hLn hLl hLc M1
  obtain ⟨-, q0, q1, q2, q3, q4, q5⟩ := hS.f
  have qf := q5 0
  have hS2 := (hS.put (.slice ca cn cc)).1
  replace hLf := hLf.keep (Kp.of_set ⟨rb + 1 + 1, 0, none⟩ (.slice ca cn cc) (by show rb + 1 + 1 < rb + 3; omega))
  clear hS
  go_wp2_with fail
  generalize W2.setCell ⟨rb + 1 + 1, 0, none⟩ (.slice ca cn cc) = W3 at *
  clear q0 q1 q2 q3 q4 q5 qf
  have hT0 : T1.size ≤ s.size := hT1
  have hLf0 := hLf
  clear hLf
  clear hT1 hx1
  have hM0 : MR W3 (rb + 3) (.slice none 0 0) [] := ⟨⟨rfl, .inl ⟨rfl, rfl⟩⟩, fun d hd => by cases hd⟩
  go_loopg [] 16 (fun g wr => ∃ (D : List Dk) (va : Option Addr) (vc : Nat) (T : ByteArray), g = 16 - D.length ∧ D.length ≤ 16 ∧ RS w rb wr T (.slice ca cn cc) (.slice va D.length vc) (.string ⟨#[]⟩) (.int .i64 0) (.int .i64 0) ∧ T.size ≤ s.size ∧ TxF wr (rb + 3) (Value.slice va D.length vc).ownBlock ca cn L ∧ MR wr (rb + 3) (.slice va D.length vc) D ∧
    Hid (∀ p0, Ok p0 → printT ptL p0 = s.data.toList → p0.cats = L ∧ ∃ rest, p0.marks = D.map (·.m) ++ rest ∧ T.data.toList = marksT ptL L rest ++ tailT p0))
  case atStart => exact ⟨[], none, 0, T1, rfl, by simp, hS2, hT0, hLf0, hM0, M2⟩
  case round =>
    obtain ⟨D, va, vc, T, rfl, hD, hS, hTs, hLf, hM, MD⟩ := hrel
    clear hS2 hT0 hM0 M2 hLf0
    have hEX : Hid (D.length = 16 → ∀ p0, Ok p0 → printT ptL p0 = s.data.toList → p0.cats = L ∧ p0.marks = D.map (·.m) ∧ T.data.toList = tailT p0) := phide (fun h16 p0 ho he => by
      obtain ⟨h1, rest, h2, h3⟩ := punhide MD p0 ho he
      have := ho.m16
      rw [h2, List.length_append, List.length_map, h16] at this
      have hr : rest = [] := List.eq_nil_of_length_eq_zero (by omega)
      subst hr
      rw [List.append_nil] at h2
      exact ⟨h1, h2, h3⟩)
    obtain ⟨-, q0, q1, q2, q3, q4, q5⟩ := id hS.f
    by_cases hlt : D.length < 16
    case neg =>
      have h16 : D.length = 16 := by omega
      have d1 : decide ((D.length : Int) < 16) = false := decide_eq_false (by omega)
      have MT := phide (punhide hEX h16)
      clear hEX MD hlt h16
      go_wp2_with fail
      obtain ⟨x3, T3, hn3, hx3, hT3⟩ := next_ex ⟨#[116, 111, 107, 101, 110]⟩ T
      obtain ⟨y3, CT3, hy3, hyl3⟩ := trim_ex x3
      obtain ⟨u3, n3, e3, CU3, hu4, hu3⟩ := unq_ex y3 (by omega)
      obtain ⟨x4, T4, hn4, hx4, hT4⟩ := next_ex ⟨#[102, 117, 101, 108]⟩ T3
      obtain ⟨x5, T5, hn5, hx5, hT5⟩ := next_ex ⟨#[113, 117, 111, 116, 97]⟩ T4
      have C3 := fun W h => next_any (rb + 1) ⟨#[116, 111, 107, 101, 110]⟩ T x3 T3 (by omega) hn3 W h
      have C4 := fun W h => next_any (rb + 1) ⟨#[102, 117, 101, 108]⟩ T3 x4 T4 (by omega) hn4 W h
      have C5 := fun W h => next_any (rb + 1) ⟨#[113, 117, 111, 116, 97]⟩ T4 x5 T5 (by omega) hn5 W h
      have CF4 := fun W h => readFuel_any x4 (by omega) W h
      have CF5 := fun W h => readFuel_any x5 (by omega) W h
      have ME : Hid (∀ p0, Ok p0 → printT ptL p0 = s.data.toList → p0.cats = L ∧ p0.marks = D.map (·.m) ∧ u3.data.toList = p0.token ∧ x4.data.toList = 32 :: Lib.itoa p0.fuel ∧ x5.data.toList = 32 :: Lib.itoa p0.quota) := phide (fun p0 ho he => by
        obtain ⟨h1, h2, h3⟩ := punhide MT p0 ho he
        have h3' : T.data.toList = lineT wToken [Qm.quoteL p0.token] ++ (lineT wFuel [Lib.itoa p0.fuel] ++ lineT wQuota [Lib.itoa p0.quota]) := h3
        obtain ⟨a1, a2⟩ := next_line (w := wToken) (w0 := ⟨#[116, 111, 107, 101, 110]⟩) hn3 rfl (by decide) h3' (flat_one (by decide) ho.good.token)
        obtain ⟨b1, b2⟩ := next_line (w := wFuel) (w0 := ⟨#[102, 117, 101, 108]⟩) hn4 rfl (by decide) a2 (flat_one (by decide) ho.good.fuel)
        have b2' : T4.data.toList = lineT wQuota [Lib.itoa p0.quota] ++ [] := by rw [List.append_nil]; exact b2
        obtain ⟨c1, _⟩ := next_line (w := wQuota) (w0 := ⟨#[113, 117, 111, 116, 97]⟩) hn5 rfl (by decide) b2' (flat_one (by decide) ho.good.quota)
        have f1 : ∀ x : Tx, Cm.flatB [x] = 32 :: x := fun x => by simp [Cm.flatB]
        rw [f1] at a1 b1 c1
        exact ⟨h1, h2, hu3 _ ho.valid (by have := ho.t24; omega) (hyl3 _ a1), b1, c1⟩)
      clear hn3 hn4 hn5 hyl3 hu3 MT hx3 hT3 hy3 hx4 hT4 hx5 hT5 q0 q1 q2 q3 q4 q5
      refine (C3 _ hS.x).mono ?_
      rintro e W5 ⟨rfl, hx, ho⟩
      have hk5 := Kp.of_off (x := none) (base := rb + 3) ho (by omega)
      replace hS := hS.next hx ho
      replace hLf := hLf.keep hk5.any
      replace hM := hM.keep hk5
      clear C3 hx ho hk5
      go_wp2_with fail
      refine (CT3 _).mono ?_
      rintro e W6 ⟨rfl, rfl⟩
      go_wp2_with fail
      refine (CU3 _ (punhide HT _ hS.b).1).mono ?_
      rintro e W6 ⟨rfl, b6⟩
      replace hS := hS.step b6
      replace hLf := hLf.keep (Kp.of_below b6)
      replace hM := hM.keep (Kp.of_below b6)
      clear CT3 CU3 b6
      obtain ⟨-, q0, q1, q2, q3, q4, q5⟩ := id hS.f
      have qf := q5 2
      have hk6 := Kp.of_set (base := rb + 3) (x := none) (w := W6) ⟨rb + 1 + 1, 2, none⟩ (.string u3) (by show rb + 1 + 1 < rb + 3; omega)
      replace hS := (hS.put (.string u3)).2.2.1
      replace hLf := hLf.keep hk6.any
      replace hM := hM.keep hk6
      clear hk6
      go_wp2_with fail
      generalize W6.setCell ⟨rb + 1 + 1, 2, none⟩ (.string u3) = W7 at *
      clear q0 q1 q2 q3 q4 q5 qf
      refine (C4 _ hS.x).mono ?_
      rintro e W8 ⟨rfl, hx, ho⟩
      have hk5 := Kp.of_off (x := none) (base := rb + 3) ho (by omega)
      replace hS := hS.next hx ho
      replace hLf := hLf.keep hk5.any
      replace hM := hM.keep hk5
      clear C4 hx ho hk5
      go_wp2_with fail
      refine (CF4 _ (punhide HT _ hS.b).2.2).mono ?_
      rintro e W9 ⟨b9, f4, rfl, hf4⟩
      replace hS := hS.step b9
      replace hLf := hLf.keep (Kp.of_below b9)
      replace hM := hM.keep (Kp.of_below b9)
      have HF4 := phide hf4
      clear CF4 b9 hf4
      obtain ⟨-, q0, q1, q2, q3, q4, q5⟩ := id hS.f
      have qf := q5 3
      have hk6 := Kp.of_set (base := rb + 3) (x := none) (w := W9) ⟨rb + 1 + 1, 3, none⟩ (.int .i64 f4) (by show rb + 1 + 1 < rb + 3; omega)
      replace hS := (hS.put (.int .i64 f4)).2.2.2.1
      replace hLf := hLf.keep hk6.any
      replace hM := hM.keep hk6
      clear hk6
      go_wp2_with fail
      generalize W9.setCell ⟨rb + 1 + 1, 3, none⟩ (.int .i64 f4) = W10 at *
      clear q0 q1 q2 q3 q4 q5 qf
      refine (C5 _ hS.x).mono ?_
      rintro e W11 ⟨rfl, hx, ho⟩
      have hk5 := Kp.of_off (x := none) (base := rb + 3) ho (by omega)
      replace hS := hS.next hx ho
      replace hLf := hLf.keep hk5.any
      replace hM := hM.keep hk5
      clear C5 hx ho hk5
      go_wp2_with fail
      refine (CF5 _ (punhide HT _ hS.b).2.2).mono ?_
      rintro e W12 ⟨b9, f5, rfl, hf5⟩
      replace hS := hS.step b9
      replace hLf := hLf.keep (Kp.of_below b9)
      replace hM := hM.keep (Kp.of_below b9)
      have HF5 := phide hf5
      clear CF5 b9 hf5
      obtain ⟨-, q0, q1, q2, q3, q4, q5⟩ := id hS.f
      have qf := q5 4
      have hk6 := Kp.of_set (base := rb + 3) (x := none) (w := W12) ⟨rb + 1 + 1, 4, none⟩ (.int .i64 f5) (by show rb + 1 + 1 < rb + 3; omega)
      replace hS := (hS.put (.int .i64 f5)).2.2.2.2
      replace hLf := hLf.keep hk6.any
      replace hM := hM.keep hk6
      clear hk6
      go_upto_region 11 with fail
      generalize W12.setCell ⟨rb + 1 + 1, 4, none⟩ (.int .i64 f5) = W13 at *
      clear q0 q1 q2 q3 q4 q5 qf
      obtain ⟨-, q0, q1, q2, q3, q4, q5⟩ := id hS.f
      obtain ⟨-, r0, r1, r2, r3, r4, r5⟩ := id hS.r
      have s0 := r5 0
      have s1 := r5 1
      have s2 := r5 2
      have s3 := r5 3
      have s4 := r5 4
      have p1 := (hS.r.put (.slice ca cn cc)).1
      have p2 := (p1.put (.slice va D.length vc)).2.1
      have p3 := (p2.put (.string u3)).2.2.1
      have p4 := (p3.put (.int .i64 f4)).2.2.2.1
      have p5 := (p4.put (.int .i64 f5)).2.2.2.2
      have k1 := p1.c0
      have k2 := p2.c1
      have k3 := p3.c2
      have k4 := p4.c3
      have k5 := p5.c4
      have hkr : ∀ (W : World) (i : Nat) (u : Value), Kp (rb + 3) none W (W.setCell ⟨rb, i, none⟩ u) := fun W i u => Kp.of_set _ _ (by show rb < rb + 3; omega)
      have hKF := ((((hkr W13 0 (.slice ca cn cc)).trans (hkr _ 1 (.slice va D.length vc))).trans (hkr _ 2 (.string u3))).trans (hkr _ 3 (.int .i64 f4))).trans (hkr _ 4 (.int .i64 f5))
      have hLz := phide (hLf.keep hKF.any)
      have hMz := phide (hM.keep hKF)
      have hBz := phide (((((hS.b.setCell (p := ⟨rb, 0, none⟩) (Nat.le_refl _) (.slice ca cn cc)).setCell (p := ⟨rb, 1, none⟩) (Nat.le_refl _) (.slice va D.length vc)).setCell (p := ⟨rb, 2, none⟩) (Nat.le_refl _) (.string u3)).setCell (p := ⟨rb, 3, none⟩) (Nat.le_refl _) (.int .i64 f4)).setCell (p := ⟨rb, 4, none⟩) (Nat.le_refl _) (.int .i64 f5))
      clear p1 p2 p3 p4 p5 hkr hKF hLf hM hS r5 q5
      go_wp2
      refine bodyPost_ret (v := .agg #[.slice ca cn cc, .slice va D.length vc, .string u3, .int .i64 f4, .int .i64 f5]) (by simp [results, Tryz.results28, go_sem, k1, k2, k3, k4, k5]) rfl ?_
      obtain ⟨ma, mc, ev, hmm⟩ := marks_of (punhide hMz).own rfl (punhide hMz).each
      injection ev with e1 e2 e3
      subst e1
      refine ⟨by rw [punhide HRB]; exact punhide hBz, _, ⟨L, D.map (·.m), u3.data.toList, f4, f5⟩, rfl, ⟨ca, cn, cc, va, D.length, vc, u3, rfl, rfl, (punhide hLz).low (by have := punhide HRB; omega), hmm.low (by have := punhide HRB; omega)⟩, by show L.length ≤ 64; omega, punhide HLL, by show (D.map (·.m)).length ≤ 16; rw [List.length_map]; exact hD, fun x hx => (by obtain ⟨d, hd, rfl⟩ := List.mem_map.1 hx; exact ((punhide hMz).each d hd).1.2), by show u3.data.toList.length ≤ 4096; rw [len_size]; exact hu4, fun p0 ho he => ?_⟩
      obtain ⟨g1, g2, g3, g4, g5⟩ := punhide ME p0 ho he
      have h4 := punhide HF4 p0.fuel (by have := ho.fuel; omega) ho.fuel.2 g4
      have h5 := punhide HF5 p0.quota (by have := ho.quota; omega) ho.quota.2 g5
      obtain ⟨c0, m0, t0, a0, b0⟩ := p0
      simp only at g1 g2 g3 h4 h5
      rw [g1, g2, g3, h4, h5]
    case pos =>
      have d1 : decide ((D.length : Int) < 16) = true := decide_eq_true (by omega)
      clear hEX
      obtain ⟨x2, T2, hn2, hx2, hT2⟩ := next_ex ⟨#[109, 97, 114, 107]⟩ T
      have CM := fun W h => next_any (rb + 1) ⟨#[109, 97, 114, 107]⟩ T x2 T2 (by omega) hn2 W h
      have HN := phide hn2
      clear hn2
      go_wp2_with fail
      refine (CM _ hS.x).mono ?_
      rintro e W4 ⟨rfl, hx, ho⟩
      have hko : Kp (rb + 3) none wr W4 := Kp.of_off ho (by omega)
      replace hS := hS.next hx ho
      replace hLf := hLf.keep hko.any
      replace hM := hM.keep hko
      clear CM hx ho hko q0 q1 q2 q3 q4 q5
      obtain ⟨-, q0, q1, q2, q3, q4, q5⟩ := id hS.f
      have hxs : x2.size ≤ s.size := by omega
      replace hTs : T2.size ≤ s.size := Nat.le_trans hT2 hTs
      by_cases hx0 : x2.size = 0
      case pos =>
        have hz := Np.pempty_yes hx0
        have MT : Hid (∀ p0, Ok p0 → printT ptL p0 = s.data.toList → p0.cats = L ∧ p0.marks = D.map (·.m) ∧ T2.data.toList = tailT p0) := phide (fun p0 ho he => by
          obtain ⟨h1, rest, h2, h3⟩ := punhide MD p0 ho he
          cases rest with
          | nil =>
            rw [List.append_nil] at h2
            exact ⟨h1, h2, (next_stay (w0 := ⟨#[109, 97, 114, 107]⟩) (punhide HN) rfl p0 h3).2⟩
          | cons m r =>
            rw [marks_cons, List.append_assoc] at h3
            have hmm : m ∈ p0.marks := by rw [h2]; simp
            have hmk := ho.good.mark hmm
            rw [h1] at hmk
            have := (next_line (w := wMark) (w0 := ⟨#[109, 97, 114, 107]⟩) (punhide HN) rfl (by decide) h3 hmk).1
            have hl := congrArg List.length this
            rw [len_size, hx0] at hl
            simp [Cm.flatB] at hl)
        clear MD HN hx0 hT2
        go_wp2_with fail
        obtain ⟨x3, T3, hn3, hx3, hT3⟩ := next_ex ⟨#[116, 111, 107, 101, 110]⟩ T2
        obtain ⟨y3, CT3, hy3, hyl3⟩ := trim_ex x3
        obtain ⟨u3, n3, e3, CU3, hu4, hu3⟩ := unq_ex y3 (by omega)
        obtain ⟨x4, T4, hn4, hx4, hT4⟩ := next_ex ⟨#[102, 117, 101, 108]⟩ T3
        obtain ⟨x5, T5, hn5, hx5, hT5⟩ := next_ex ⟨#[113, 117, 111, 116, 97]⟩ T4
        have C3 := fun W h => next_any (rb + 1) ⟨#[116, 111, 107, 101, 110]⟩ T2 x3 T3 (by omega) hn3 W h
        have C4 := fun W h => next_any (rb + 1) ⟨#[102, 117, 101, 108]⟩ T3 x4 T4 (by omega) hn4 W h
        have C5 := fun W h => next_any (rb + 1) ⟨#[113, 117, 111, 116, 97]⟩ T4 x5 T5 (by omega) hn5 W h
        have CF4 := fun W h => readFuel_any x4 (by omega) W h
        have CF5 := fun W h => readFuel_any x5 (by omega) W h
        have ME : Hid (∀ p0, Ok p0 → printT ptL p0 = s.data.toList → p0.cats = L ∧ p0.marks = D.map (·.m) ∧ u3.data.toList = p0.token ∧ x4.data.toList = 32 :: Lib.itoa p0.fuel ∧ x5.data.toList = 32 :: Lib.itoa p0.quota) := phide (fun p0 ho he => by
          obtain ⟨h1, h2, h3⟩ := punhide MT p0 ho he
          have h3' : T2.data.toList = lineT wToken [Qm.quoteL p0.token] ++ (lineT wFuel [Lib.itoa p0.fuel] ++ lineT wQuota [Lib.itoa p0.quota]) := h3
          obtain ⟨a1, a2⟩ := next_line (w := wToken) (w0 := ⟨#[116, 111, 107, 101, 110]⟩) hn3 rfl (by decide) h3' (flat_one (by decide) ho.good.token)
          obtain ⟨b1, b2⟩ := next_line (w := wFuel) (w0 := ⟨#[102, 117, 101, 108]⟩) hn4 rfl (by decide) a2 (flat_one (by decide) ho.good.fuel)
          have b2' : T4.data.toList = lineT wQuota [Lib.itoa p0.quota] ++ [] := by rw [List.append_nil]; exact b2
          obtain ⟨c1, _⟩ := next_line (w := wQuota) (w0 := ⟨#[113, 117, 111, 116, 97]⟩) hn5 rfl (by decide) b2' (flat_one (by decide) ho.good.quota)
          have f1 : ∀ x : Tx, Cm.flatB [x] = 32 :: x := fun x => by simp [Cm.flatB]
          rw [f1] at a1 b1 c1
          exact ⟨h1, h2, hu3 _ ho.valid (by have := ho.t24; omega) (hyl3 _ a1), b1, c1⟩)
        clear hn3 hn4 hn5 hyl3 hu3 MT hx3 hT3 hy3 hx4 hT4 hx5 hT5 q0 q1 q2 q3 q4 q5
        refine (C3 _ hS.x).mono ?_
        rintro e W5 ⟨rfl, hx, ho⟩
        have hk5 := Kp.of_off (x := none) (base := rb + 3) ho (by omega)
        replace hS := hS.next hx ho
        replace hLf := hLf.keep hk5.any
        replace hM := hM.keep hk5
        clear C3 hx ho hk5
        go_wp2_with fail
        refine (CT3 _).mono ?_
        rintro e W6 ⟨rfl, rfl⟩
        go_wp2_with fail
        refine (CU3 _ (punhide HT _ hS.b).1).mono ?_
        rintro e W6 ⟨rfl, b6⟩
        replace hS := hS.step b6
        replace hLf := hLf.keep (Kp.of_below b6)
        replace hM := hM.keep (Kp.of_below b6)
        clear CT3 CU3 b6
        obtain ⟨-, q0, q1, q2, q3, q4, q5⟩ := id hS.f
        have qf := q5 2
        have hk6 := Kp.of_set (base := rb + 3) (x := none) (w := W6) ⟨rb + 1 + 1, 2, none⟩ (.string u3) (by show rb + 1 + 1 < rb + 3; omega)
        replace hS := (hS.put (.string u3)).2.2.1
        replace hLf := hLf.keep hk6.any
        replace hM := hM.keep hk6
        clear hk6
        go_wp2_with fail
        generalize W6.setCell ⟨rb + 1 + 1, 2, none⟩ (.string u3) = W7 at *
        clear q0 q1 q2 q3 q4 q5 qf
        refine (C4 _ hS.x).mono ?_
        rintro e W8 ⟨rfl, hx, ho⟩
        have hk5 := Kp.of_off (x := none) (base := rb + 3) ho (by omega)
        replace hS := hS.next hx ho
        replace hLf := hLf.keep hk5.any
        replace hM := hM.keep hk5
        clear C4 hx ho hk5
        go_wp2_with fail
        refine (CF4 _ (punhide HT _ hS.b).2.2).mono ?_
        rintro e W9 ⟨b9, f4, rfl, hf4⟩
        replace hS := hS.step b9
        replace hLf := hLf.keep (Kp.of_below b9)
        replace hM := hM.keep (Kp.of_below b9)
        have HF4 := phide hf4
        clear CF4 b9 hf4
        obtain ⟨-, q0, q1, q2, q3, q4, q5⟩ := id hS.f
        have qf := q5 3
        have hk6 := Kp.of_set (base := rb + 3) (x := none) (w := W9) ⟨rb + 1 + 1, 3, none⟩ (.int .i64 f4) (by show rb + 1 + 1 < rb + 3; omega)
        replace hS := (hS.put (.int .i64 f4)).2.2.2.1
        replace hLf := hLf.keep hk6.any
        replace hM := hM.keep hk6
        clear hk6
        go_wp2_with fail
        generalize W9.setCell ⟨rb + 1 + 1, 3, none⟩ (.int .i64 f4) = W10 at *
        clear q0 q1 q2 q3 q4 q5 qf
        refine (C5 _ hS.x).mono ?_
        rintro e W11 ⟨rfl, hx, ho⟩
        have hk5 := Kp.of_off (x := none) (base := rb + 3) ho (by omega)
        replace hS := hS.next hx ho
        replace hLf := hLf.keep hk5.any
        replace hM := hM.keep hk5
        clear C5 hx ho hk5
        go_wp2_with fail
        refine (CF5 _ (punhide HT _ hS.b).2.2).mono ?_
        rintro e W12 ⟨b9, f5, rfl, hf5⟩
        replace hS := hS.step b9
        replace hLf := hLf.keep (Kp.of_below b9)
        replace hM := hM.keep (Kp.of_below b9)
        have HF5 := phide hf5
        clear CF5 b9 hf5
        obtain ⟨-, q0, q1, q2, q3, q4, q5⟩ := id hS.f
        have qf := q5 4
        have hk6 := Kp.of_set (base := rb + 3) (x := none) (w := W12) ⟨rb + 1 + 1, 4, none⟩ (.int .i64 f5) (by show rb + 1 + 1 < rb + 3; omega)
        replace hS := (hS.put (.int .i64 f5)).2.2.2.2
        replace hLf := hLf.keep hk6.any
        replace hM := hM.keep hk6
        clear hk6
        go_upto_region 11 with fail
        generalize W12.setCell ⟨rb + 1 + 1, 4, none⟩ (.int .i64 f5) = W13 at *
        clear q0 q1 q2 q3 q4 q5 qf
        obtain ⟨-, q0, q1, q2, q3, q4, q5⟩ := id hS.f
        obtain ⟨-, r0, r1, r2, r3, r4, r5⟩ := id hS.r
        have s0 := r5 0
        have s1 := r5 1
        have s2 := r5 2
        have s3 := r5 3
        have s4 := r5 4
        have p1 := (hS.r.put (.slice ca cn cc)).1
        have p2 := (p1.put (.slice va D.length vc)).2.1
        have p3 := (p2.put (.string u3)).2.2.1
        have p4 := (p3.put (.int .i64 f4)).2.2.2.1
        have p5 := (p4.put (.int .i64 f5)).2.2.2.2
        have k1 := p1.c0
        have k2 := p2.c1
        have k3 := p3.c2
        have k4 := p4.c3
        have k5 := p5.c4
        have hkr : ∀ (W : World) (i : Nat) (u : Value), Kp (rb + 3) none W (W.setCell ⟨rb, i, none⟩ u) := fun W i u => Kp.of_set _ _ (by show rb < rb + 3; omega)
        have hKF := ((((hkr W13 0 (.slice ca cn cc)).trans (hkr _ 1 (.slice va D.length vc))).trans (hkr _ 2 (.string u3))).trans (hkr _ 3 (.int .i64 f4))).trans (hkr _ 4 (.int .i64 f5))
        have hLz := phide (hLf.keep hKF.any)
        have hMz := phide (hM.keep hKF)
        have hBz := phide (((((hS.b.setCell (p := ⟨rb, 0, none⟩) (Nat.le_refl _) (.slice ca cn cc)).setCell (p := ⟨rb, 1, none⟩) (Nat.le_refl _) (.slice va D.length vc)).setCell (p := ⟨rb, 2, none⟩) (Nat.le_refl _) (.string u3)).setCell (p := ⟨rb, 3, none⟩) (Nat.le_refl _) (.int .i64 f4)).setCell (p := ⟨rb, 4, none⟩) (Nat.le_refl _) (.int .i64 f5))
        clear p1 p2 p3 p4 p5 hkr hKF hLf hM hS r5 q5
        go_wp2
        refine bodyPost_ret (v := .agg #[.slice ca cn cc, .slice va D.length vc, .string u3, .int .i64 f4, .int .i64 f5]) (by simp [results, Tryz.results28, go_sem, k1, k2, k3, k4, k5]) rfl ?_
        obtain ⟨ma, mc, ev, hmm⟩ := marks_of (punhide hMz).own rfl (punhide hMz).each
        injection ev with e1 e2 e3
        subst e1
        refine ⟨by rw [punhide HRB]; exact punhide hBz, _, ⟨L, D.map (·.m), u3.data.toList, f4, f5⟩, rfl, ⟨ca, cn, cc, va, D.length, vc, u3, rfl, rfl, (punhide hLz).low (by have := punhide HRB; omega), hmm.low (by have := punhide HRB; omega)⟩, by show L.length ≤ 64; omega, punhide HLL, by show (D.map (·.m)).length ≤ 16; rw [List.length_map]; exact hD, fun x hx => (by obtain ⟨d, hd, rfl⟩ := List.mem_map.1 hx; exact ((punhide hMz).each d hd).1.2), by show u3.data.toList.length ≤ 4096; rw [len_size]; exact hu4, fun p0 ho he => ?_⟩
        obtain ⟨g1, g2, g3, g4, g5⟩ := punhide ME p0 ho he
        have h4 := punhide HF4 p0.fuel (by have := ho.fuel; omega) ho.fuel.2 g4
        have h5 := punhide HF5 p0.quota (by have := ho.quota; omega) ho.quota.2 g5
        obtain ⟨c0, m0, t0, a0, b0⟩ := p0
        simp only at g1 g2 g3 h4 h5
        rw [g1, g2, g3, h4, h5]
      case neg =>
        have hz := Np.pempty_no hx0
        have CR := fun W hI hT hP hE => readMark_any ca cn cc L h64 (punhide HLL) x2 (by omega) W hI hT hP hE
        have MN : Hid (∀ p0, Ok p0 → printT ptL p0 = s.data.toList → ∃ mk r, p0.cats = L ∧ p0.marks = D.map (·.m) ++ mk :: r ∧ MarkOk L mk ∧ x2.data.toList = Cm.flatB [namesT L mk.mask, ptL mk.path] ∧ T2.data.toList = marksT ptL L r ++ tailT p0) := phide (fun p0 ho he => by
          obtain ⟨h1, rest, h2, h3⟩ := punhide MD p0 ho he
          cases rest with
          | nil =>
            have := (next_stay (w0 := ⟨#[109, 97, 114, 107]⟩) (punhide HN) rfl p0 h3).1
            have hl := congrArg List.length this
            rw [len_size] at hl
            exact absurd hl hx0
          | cons m r =>
            rw [marks_cons, List.append_assoc] at h3
            have hmm : m ∈ p0.marks := by rw [h2]; simp
            have hmk := ho.good.mark hmm
            rw [h1] at hmk
            obtain ⟨g1, g2⟩ := next_line (w := wMark) (w0 := ⟨#[109, 97, 114, 107]⟩) (punhide HN) rfl (by decide) h3 hmk
            exact ⟨m, r, h1, h2, h1 ▸ ho.mark hmm, g1, g2⟩)
        obtain ⟨k, hk⟩ : ∃ k, D.length = k := ⟨_, rfl⟩
        obtain ⟨hOw, hEa⟩ := hM
        rw [hk] at hOw hS hLf hD hlt q1
        clear MD HN hx0 hT2
        have HK := phide hk
        rw [hk]
        clear hk
        have hEA := phide hEa
        clear hEa
        replace hS : RS w rb W4.drew T2 (.slice ca cn cc) (.slice va k vc) (.string ⟨#[]⟩) (.int .i64 0) (.int .i64 0) := hS.step ((Below.refl _ _).drew)
        replace hLf := hLf.keep (Kp.of_below (W4.heap.size |> fun _ => (Below.refl W4.heap.size W4).drew) : Kp (rb + 3) _ W4 W4.drew)
        replace hOw : W4.drew.ownsRow (rb + 3) 59 2 (.slice va k vc) k (rowM D) := hOw
        have hst : ∀ d ∈ D, GoodMk d.m ∧ StF W4.drew (rb + 3) (Value.slice va k vc).ownBlock d.a d.n d.m.path := by
          intro d hd
          have := (punhide hEA) d hd
          rw [punhide HK] at this
          exact ⟨this.1, this.2.keep (Kp.of_below ((Below.refl W4.heap.size W4).drew))⟩
        have hEB := phide hst
        clear hEA hst q0 q1 q2 q3 q4 q5
        obtain ⟨-, q0, q1, q2, q3, q4, q5⟩ := id hS.f
        go_upto_region 7 with fail
        refine wp_region_held_drew (S := fun w' => w'.cell? ⟨rb + 1 + 1, 0, none⟩ = some (.slice ca cn cc)) (by kernel_rfl) hS.f.c0 (fun hHeld => ?rest0)
        case rest0 =>
        refine wpAnyH_take (i := 0) (v := .pointer (some ⟨rb + 1 + 1, 1, none⟩)) rfl (by kernel_rfl) (by kernel_rfl) (by kernel_rfl) (fun _ _ _ h => h) (Or.inl ⟨by rfl, ?hy0⟩) (by assumption) ?r0
        case hy0 => ((intro w hSw; (try dsimp only at hSw); go_simp) <;> (first | with_reducible rfl))
        case r0 =>
        try simp only [Act.put, List.getElem_toArray, List.getElem_cons_zero, List.getElem_cons_succ, List.setIfInBounds_toArray, List.set_cons_zero, List.set_cons_succ]
        refine wpAnyH_take (i := 2) (v := .pointer (some ⟨rb + 1 + 1, 0, none⟩)) rfl (by kernel_rfl) (by kernel_rfl) (by kernel_rfl) (fun _ _ _ h => h) (Or.inl ⟨by rfl, ?hy1⟩) (by assumption) ?r1
        case hy1 => ((intro w hSw; (try dsimp only at hSw); go_simp) <;> (first | with_reducible rfl))
        case r1 =>
        try simp only [Act.put, List.getElem_toArray, List.getElem_cons_zero, List.getElem_cons_succ, List.setIfInBounds_toArray, List.set_cons_zero, List.set_cons_succ]
        refine wpAnyH_take (i := 4) (v := .string x2) rfl (by kernel_rfl) (by kernel_rfl) (by kernel_rfl) (fun _ _ _ h => h) (Or.inl ⟨by rfl, ?hy2⟩) (by assumption) ?r2
        case hy2 => ((intro w hSw; (try dsimp only at hSw); go_simp) <;> (first | with_reducible rfl))
        case r2 =>
        try simp only [Act.put, List.getElem_toArray, List.getElem_cons_zero, List.getElem_cons_succ, List.setIfInBounds_toArray, List.set_cons_zero, List.set_cons_succ]
        refine wpAnyH_take (i := 3) (v := .slice ca cn cc) rfl (by kernel_rfl) (by kernel_rfl) (by kernel_rfl) (fun _ _ _ h => h) (Or.inl ⟨by rfl, ?hy3⟩) (by assumption) ?r3
        case hy3 => ((intro w hSw; (try dsimp only at hSw); go_simp) <;> (first | with_reducible rfl))
        case r3 =>
        try simp only [Act.put, List.getElem_toArray, List.getElem_cons_zero, List.getElem_cons_succ, List.setIfInBounds_toArray, List.set_cons_zero, List.set_cons_succ]
        refine wpAnyH_ready (rs := [1, 5]) (by kernel_rfl) (by simp) ?_
        refine AllReadyH.cons rfl (fun K hK => ?n1x1) (AllReadyH.cons rfl (fun K hK => ?n1x5) AllReadyH.nil)
        case n1x1 =>
          go_simp
          refine hK.out _ _ (hS.f.c0) (fun hHeld2 => ?ra)
          case ra =>
          clear hK K hHeld2
          try simp only [Act.put, List.getElem_toArray, List.getElem_cons_zero, List.getElem_cons_succ, List.setIfInBounds_toArray, List.set_cons_zero, List.set_cons_succ]
          refine wpAnyH_ready (rs := [5]) (by kernel_rfl) (by simp) ?_
          refine AllReadyH.cons rfl (fun K hK => ?n2x5) AllReadyH.nil
          case n2x5 =>
            go_simp
            go_at_call 68
            refine (CR _ hLf.is (punhide HT _ hS.b).1 (punhide HT _ hS.b).2.1 (punhide HT _ hS.b).2.2).mono ?_
            rintro e9 w9 ⟨b9, a9, m9, c9, M9, qm9, rfl, hs9, hn9, hq9, h89, hk9⟩
            have hkp9 : Kp (rb + 3) none W4.drew w9 := Kp.of_below b9
            have hsz9 : W4.drew.heap.size ≤ w9.heap.size := b9.size
            have hS9 := hS.step b9
            have hS9a := hS9.step ((Below.refl w9.heap.size w9).alloc (Nat.le_refl _) (.cells #[.slice a9 m9 c9, .int .u64 (qm9 : Int)] 59))
            have hOw9 : (w9.alloc (.cells #[.slice a9 m9 c9, .int .u64 (qm9 : Int)] 59)).ownsRow (rb + 3) 59 2 (.slice va k vc) k (rowM D) := ownM_block hOw (fun g hg => (Below.heap_alloc w9 _ g (Nat.lt_of_lt_of_le (hOw.lt g hg).2 hsz9)).trans (hkp9.2 g (hOw.lt g hg).1 (hOw.lt g hg).2 (by simp)))
            obtain ⟨-, y0, y1, y2, y3, y4, y5⟩ := id hS9.f
            obtain ⟨-, t0, t1, t2, t3, t4, t5⟩ := id hS9a.f
            clear b9
            refine hK.out _ _ (hS9.f.c0) (fun hHeld2 => ?ra)
            case ra =>
            clear hK K hHeld2
            try simp only [Act.put, List.getElem_toArray, List.getElem_cons_zero, List.getElem_cons_succ, List.setIfInBounds_toArray, List.set_cons_zero, List.set_cons_succ]
            refine wpAnyH_ready (rs := [6]) (by kernel_rfl) (by simp) ?_
            refine AllReadyH.cons rfl (fun K hK => ?n3x6) AllReadyH.nil
            case n3x6 =>
              go_simp
              refine hK.out _ _ (hS9a.f.c0) (fun hHeld2 => ?ra)
              case ra =>
              clear hK K hHeld2
              try simp only [Act.put, List.getElem_toArray, List.getElem_cons_zero, List.getElem_cons_succ, List.setIfInBounds_toArray, List.set_cons_zero, List.set_cons_succ]
              refine wpAnyH_ready (rs := [7]) (by kernel_rfl) (by simp) ?_
              refine AllReadyH.cons rfl (fun K hK => ?n4x7) AllReadyH.nil
              case n4x7 =>
                refine wp_append_lies (w9.alloc (.cells #[.slice a9 m9 c9, .int .u64 (qm9 : Int)] 59)) _ _ 23 rfl (rb + 3) 59 i0 (.agg #[.slice none 0 0, .int .u64 0]) 2 32 Tryz.underlying23 hi hz0 hz1 hz2 rfl (by decide) (.slice va k vc) k (rowM D) rfl hOw9 ⟨w9.heap.size, 0, none⟩ 1 1 (cellsM ⟨a9, m9, c9, ⟨M9, qm9⟩⟩) rfl rfl (newM w9 ⟨a9, m9, c9, ⟨M9, qm9⟩⟩ _) (by intro u hu; simp only [cellsM, List.mem_cons, List.not_mem_nil, or_false] at hu; rcases hu with rfl | rfl <;> rfl) (by decide) (by unfold maxLen; omega) (by omega) (by have := hS9a.sz; omega) _ rfl ?_
                intro g2 cap2 w10 hown2 hgr2 hat2 hlt2
                have hS10 := hS9a.grown hgr2 (fun k hk => (hOw9.lt k hk).1)
                obtain ⟨-, z0, z1, z2, z3, z4, z5⟩ := id hS10.f
                have zf := z5 1
                have hS11 := (hS10.put (.slice (some ⟨g2, 0, none⟩) (k + 1) cap2)).2.1
                refine hK.out _ _ (hS10.f.c0) (fun hHeld2 => ?ra)
                case ra =>
                clear hK K hHeld2
                try simp only [Act.put, List.getElem_toArray, List.getElem_cons_zero, List.getElem_cons_succ, List.setIfInBounds_toArray, List.set_cons_zero, List.set_cons_succ]
                refine wpAnyH_take (i := 8) (v := .pointer (some ⟨rb + 1 + 1, 1, none⟩)) rfl (by kernel_rfl) (by kernel_rfl) (by kernel_rfl) (fun _ _ _ h => h) (Or.inl ⟨by rfl, ?hy84⟩) hS10.f.c0 ?r84
                case hy84 => ((intro w hSw; (try dsimp only at hSw); go_simp) <;> (first | with_reducible rfl))
                case r84 =>
                try simp only [Act.put, List.getElem_toArray, List.getElem_cons_zero, List.getElem_cons_succ, List.setIfInBounds_toArray, List.set_cons_zero, List.set_cons_succ]
                refine wpAnyH_ready (rs := [9]) (by kernel_rfl) (by simp) ?_
                refine AllReadyH.cons rfl (fun K hK => ?n5x9) AllReadyH.nil
                case n5x9 =>
                  go_simp
                  refine hK.out _ _ (hS11.f.c0) (fun hHeld2 => ?ra)
                  case ra =>
                  clear hK K hHeld2
                  try simp only [Act.put, List.getElem_toArray, List.getElem_cons_zero, List.getElem_cons_succ, List.setIfInBounds_toArray, List.set_cons_zero, List.set_cons_succ]
                  refine wpAnyH_done (by kernel_rfl) ?_ _
                  have hka : Kp (rb + 3) (Value.slice va k vc).ownBlock W4.drew (w9.alloc (.cells #[.slice a9 m9 c9, .int .u64 (qm9 : Int)] 59)) := (hkp9.any).trans (Kp.of_below ((Below.refl w9.heap.size w9).alloc (Nat.le_refl _) _))
                  have hks : ∀ (x : Option Nat) (u : Value), Kp (rb + 3) x w10 (w10.setCell ⟨rb + 1 + 1, 1, none⟩ u) := fun x u => Kp.of_set _ _ (by show rb + 1 + 1 < rb + 3; omega)
                  have hL11 := ((hLf.keep hka).app hgr2 hat2).keep (hks _ (.slice (some ⟨g2, 0, none⟩) (k + 1) cap2))
                  have hOx : ∀ g, (Value.slice va k vc).ownBlock = some g → g < W4.drew.heap.size := fun g hg => (hOw.lt g hg).2
                  have hnw : StF (w9.alloc (.cells #[.slice a9 m9 c9, .int .u64 (qm9 : Int)] 59)) (rb + 3) (Value.slice va k vc).ownBlock a9 m9 M9 := (StF.of hs9 (fun g o e => ⟨by have := hn9 g o e; have := hS.sz; omega, fun e2 => by have := hn9 g o e; have := hOx g e2; omega⟩)).keep (Kp.of_below ((Below.refl w9.heap.size w9).alloc (Nat.le_refl _) _))
                  have hE11 : ∀ d ∈ D ++ [(⟨a9, m9, c9, ⟨M9, qm9⟩⟩ : Dk)], GoodMk d.m ∧ StF (w10.setCell ⟨rb + 1 + 1, 1, none⟩ (.slice (some ⟨g2, 0, none⟩) (k + 1) cap2)) (rb + 3) (some g2) d.a d.n d.m.path := by
                    intro d hd
                    rcases List.mem_append.1 hd with hd | hd
                    · obtain ⟨e1, e2⟩ := punhide hEB d hd
                      exact ⟨e1, ((e2.keep hka).app hgr2 hat2).keep (hks _ _)⟩
                    · rw [List.mem_singleton] at hd
                      rw [hd]
                      exact ⟨⟨hq9, h89⟩, (hnw.app hgr2 hat2).keep (hks _ _)⟩
                  have hO11 := ownM_block (w' := w10.setCell ⟨rb + 1 + 1, 1, none⟩ (.slice (some ⟨g2, 0, none⟩) (k + 1) cap2)) hown2 (fun g hg => Below.heap_setCell _ _ _ _ (by have := (hown2.lt g hg).1; show g ≠ rb + 1 + 1; omega))
                  have hlen : (D ++ [(⟨a9, m9, c9, ⟨M9, qm9⟩⟩ : Dk)]).length = k + 1 := by rw [List.length_append, punhide HK]; rfl
                  have M11 : Hid (∀ p0, Ok p0 → printT ptL p0 = s.data.toList → p0.cats = L ∧ ∃ rest, p0.marks = (D ++ [(⟨a9, m9, c9, ⟨M9, qm9⟩⟩ : Dk)]).map (·.m) ++ rest ∧ T2.data.toList = marksT ptL L rest ++ tailT p0) := phide (fun p0 ho he => by
                    obtain ⟨mk, r, g1, g3, g4, g5, g6⟩ := punhide MN p0 ho he
                    obtain ⟨e1, e2⟩ := hk9 mk g4 g5
                    refine ⟨g1, r, ?_, g6⟩
                    rw [g3, List.map_append, List.append_assoc]
                    obtain ⟨mp, mm⟩ := mk
                    simp only at e1 e2
                    rw [e1, e2]
                    rfl)
                  have HS11 := phide hS11
                  have HL11 := phide hL11
                  have HE11 := phide hE11
                  have HO11 := phide hO11
                  have HLEN := phide hlen
                  clear hka hks hL11 hOx hnw hE11 hO11 hlen hS11
                  go_wp2
                  go_roundg (16 - (k + 1))
                  case measure => have := punhide HK; omega
                  case rel =>
                    have hlen := punhide HLEN
                    refine ⟨D ++ [⟨a9, m9, c9, ⟨M9, qm9⟩⟩], some ⟨g2, 0, none⟩, cap2, T2, by rw [hlen], by omega, by rw [hlen]; exact punhide HS11, hTs, by rw [hlen]; exact punhide HL11, ⟨by rw [hlen, rowM_snoc]; exact punhide HO11, by rw [hlen]; exact punhide HE11⟩, M11⟩
        case n1x5 =>
          go_simp
          go_at_call 68
          refine (CR _ hLf.is (punhide HT _ hS.b).1 (punhide HT _ hS.b).2.1 (punhide HT _ hS.b).2.2).mono ?_
          rintro e9 w9 ⟨b9, a9, m9, c9, M9, qm9, rfl, hs9, hn9, hq9, h89, hk9⟩
          have hkp9 : Kp (rb + 3) none W4.drew w9 := Kp.of_below b9
          have hsz9 : W4.drew.heap.size ≤ w9.heap.size := b9.size
          have hS9 := hS.step b9
          have hS9a := hS9.step ((Below.refl w9.heap.size w9).alloc (Nat.le_refl _) (.cells #[.slice a9 m9 c9, .int .u64 (qm9 : Int)] 59))
          have hOw9 : (w9.alloc (.cells #[.slice a9 m9 c9, .int .u64 (qm9 : Int)] 59)).ownsRow (rb + 3) 59 2 (.slice va k vc) k (rowM D) := ownM_block hOw (fun g hg => (Below.heap_alloc w9 _ g (Nat.lt_of_lt_of_le (hOw.lt g hg).2 hsz9)).trans (hkp9.2 g (hOw.lt g hg).1 (hOw.lt g hg).2 (by simp)))
          obtain ⟨-, y0, y1, y2, y3, y4, y5⟩ := id hS9.f
          obtain ⟨-, t0, t1, t2, t3, t4, t5⟩ := id hS9a.f
          clear b9
          refine hK.out _ _ (hS9.f.c0) (fun hHeld2 => ?ra)
          case ra =>
          clear hK K hHeld2
          try simp only [Act.put, List.getElem_toArray, List.getElem_cons_zero, List.getElem_cons_succ, List.setIfInBounds_toArray, List.set_cons_zero, List.set_cons_succ]
          refine wpAnyH_ready (rs := [1, 6]) (by kernel_rfl) (by simp) ?_
          refine AllReadyH.cons rfl (fun K hK => ?n6x1) (AllReadyH.cons rfl (fun K hK => ?n6x6) AllReadyH.nil)
          case n6x1 =>
            go_simp
            refine hK.out _ _ (hS9.f.c0) (fun hHeld2 => ?ra)
            case ra =>
            clear hK K hHeld2
            try simp only [Act.put, List.getElem_toArray, List.getElem_cons_zero, List.getElem_cons_succ, List.setIfInBounds_toArray, List.set_cons_zero, List.set_cons_succ]
            refine wpAnyH_ready (rs := [6]) (by kernel_rfl) (by simp) ?_
            refine AllReadyH.cons rfl (fun K hK => ?n7x6) AllReadyH.nil
            case n7x6 =>
              go_simp
              refine hK.out _ _ (hS9a.f.c0) (fun hHeld2 => ?ra)
              case ra =>
              clear hK K hHeld2
              try simp only [Act.put, List.getElem_toArray, List.getElem_cons_zero, List.getElem_cons_succ, List.setIfInBounds_toArray, List.set_cons_zero, List.set_cons_succ]
              refine wpAnyH_ready (rs := [7]) (by kernel_rfl) (by simp) ?_
              refine AllReadyH.cons rfl (fun K hK => ?n8x7) AllReadyH.nil
              case n8x7 =>
                refine wp_append_lies (w9.alloc (.cells #[.slice a9 m9 c9, .int .u64 (qm9 : Int)] 59)) _ _ 23 rfl (rb + 3) 59 i0 (.agg #[.slice none 0 0, .int .u64 0]) 2 32 Tryz.underlying23 hi hz0 hz1 hz2 rfl (by decide) (.slice va k vc) k (rowM D) rfl hOw9 ⟨w9.heap.size, 0, none⟩ 1 1 (cellsM ⟨a9, m9, c9, ⟨M9, qm9⟩⟩) rfl rfl (newM w9 ⟨a9, m9, c9, ⟨M9, qm9⟩⟩ _) (by intro u hu; simp only [cellsM, List.mem_cons, List.not_mem_nil, or_false] at hu; rcases hu with rfl | rfl <;> rfl) (by decide) (by unfold maxLen; omega) (by omega) (by have := hS9a.sz; omega) _ rfl ?_
                intro g2 cap2 w10 hown2 hgr2 hat2 hlt2
                have hS10 := hS9a.grown hgr2 (fun k hk => (hOw9.lt k hk).1)
                obtain ⟨-, z0, z1, z2, z3, z4, z5⟩ := id hS10.f
                have zf := z5 1
                have hS11 := (hS10.put (.slice (some ⟨g2, 0, none⟩) (k + 1) cap2)).2.1
                refine hK.out _ _ (hS10.f.c0) (fun hHeld2 => ?ra)
                case ra =>
                clear hK K hHeld2
                try simp only [Act.put, List.getElem_toArray, List.getElem_cons_zero, List.getElem_cons_succ, List.setIfInBounds_toArray, List.set_cons_zero, List.set_cons_succ]
                refine wpAnyH_take (i := 8) (v := .pointer (some ⟨rb + 1 + 1, 1, none⟩)) rfl (by kernel_rfl) (by kernel_rfl) (by kernel_rfl) (fun _ _ _ h => h) (Or.inl ⟨by rfl, ?hy88⟩) hS10.f.c0 ?r88
                case hy88 => ((intro w hSw; (try dsimp only at hSw); go_simp) <;> (first | with_reducible rfl))
                case r88 =>
                try simp only [Act.put, List.getElem_toArray, List.getElem_cons_zero, List.getElem_cons_succ, List.setIfInBounds_toArray, List.set_cons_zero, List.set_cons_succ]
                refine wpAnyH_ready (rs := [9]) (by kernel_rfl) (by simp) ?_
                refine AllReadyH.cons rfl (fun K hK => ?n9x9) AllReadyH.nil
                case n9x9 =>
                  go_simp
                  refine hK.out _ _ (hS11.f.c0) (fun hHeld2 => ?ra)
                  case ra =>
                  clear hK K hHeld2
                  try simp only [Act.put, List.getElem_toArray, List.getElem_cons_zero, List.getElem_cons_succ, List.setIfInBounds_toArray, List.set_cons_zero, List.set_cons_succ]
                  refine wpAnyH_done (by kernel_rfl) ?_ _
                  have hka : Kp (rb + 3) (Value.slice va k vc).ownBlock W4.drew (w9.alloc (.cells #[.slice a9 m9 c9, .int .u64 (qm9 : Int)] 59)) := (hkp9.any).trans (Kp.of_below ((Below.refl w9.heap.size w9).alloc (Nat.le_refl _) _))
                  have hks : ∀ (x : Option Nat) (u : Value), Kp (rb + 3) x w10 (w10.setCell ⟨rb + 1 + 1, 1, none⟩ u) := fun x u => Kp.of_set _ _ (by show rb + 1 + 1 < rb + 3; omega)
                  have hL11 := ((hLf.keep hka).app hgr2 hat2).keep (hks _ (.slice (some ⟨g2, 0, none⟩) (k + 1) cap2))
                  have hOx : ∀ g, (Value.slice va k vc).ownBlock = some g → g < W4.drew.heap.size := fun g hg => (hOw.lt g hg).2
                  have hnw : StF (w9.alloc (.cells #[.slice a9 m9 c9, .int .u64 (qm9 : Int)] 59)) (rb + 3) (Value.slice va k vc).ownBlock a9 m9 M9 := (StF.of hs9 (fun g o e => ⟨by have := hn9 g o e; have := hS.sz; omega, fun e2 => by have := hn9 g o e; have := hOx g e2; omega⟩)).keep (Kp.of_below ((Below.refl w9.heap.size w9).alloc (Nat.le_refl _) _))
                  have hE11 : ∀ d ∈ D ++ [(⟨a9, m9, c9, ⟨M9, qm9⟩⟩ : Dk)], GoodMk d.m ∧ StF (w10.setCell ⟨rb + 1 + 1, 1, none⟩ (.slice (some ⟨g2, 0, none⟩) (k + 1) cap2)) (rb + 3) (some g2) d.a d.n d.m.path := by
                    intro d hd
                    rcases List.mem_append.1 hd with hd | hd
                    · obtain ⟨e1, e2⟩ := punhide hEB d hd
                      exact ⟨e1, ((e2.keep hka).app hgr2 hat2).keep (hks _ _)⟩
                    · rw [List.mem_singleton] at hd
                      rw [hd]
                      exact ⟨⟨hq9, h89⟩, (hnw.app hgr2 hat2).keep (hks _ _)⟩
                  have hO11 := ownM_block (w' := w10.setCell ⟨rb + 1 + 1, 1, none⟩ (.slice (some ⟨g2, 0, none⟩) (k + 1) cap2)) hown2 (fun g hg => Below.heap_setCell _ _ _ _ (by have := (hown2.lt g hg).1; show g ≠ rb + 1 + 1; omega))
                  have hlen : (D ++ [(⟨a9, m9, c9, ⟨M9, qm9⟩⟩ : Dk)]).length = k + 1 := by rw [List.length_append, punhide HK]; rfl
                  have M11 : Hid (∀ p0, Ok p0 → printT ptL p0 = s.data.toList → p0.cats = L ∧ ∃ rest, p0.marks = (D ++ [(⟨a9, m9, c9, ⟨M9, qm9⟩⟩ : Dk)]).map (·.m) ++ rest ∧ T2.data.toList = marksT ptL L rest ++ tailT p0) := phide (fun p0 ho he => by
                    obtain ⟨mk, r, g1, g3, g4, g5, g6⟩ := punhide MN p0 ho he
                    obtain ⟨e1, e2⟩ := hk9 mk g4 g5
                    refine ⟨g1, r, ?_, g6⟩
                    rw [g3, List.map_append, List.append_assoc]
                    obtain ⟨mp, mm⟩ := mk
                    simp only at e1 e2
                    rw [e1, e2]
                    rfl)
                  have HS11 := phide hS11
                  have HL11 := phide hL11
                  have HE11 := phide hE11
                  have HO11 := phide hO11
                  have HLEN := phide hlen
                  clear hka hks hL11 hOx hnw hE11 hO11 hlen hS11
                  go_wp2
                  go_roundg (16 - (k + 1))
                  case measure => have := punhide HK; omega
                  case rel =>
                    have hlen := punhide HLEN
                    refine ⟨D ++ [⟨a9, m9, c9, ⟨M9, qm9⟩⟩], some ⟨g2, 0, none⟩, cap2, T2, by rw [hlen], by omega, by rw [hlen]; exact punhide HS11, hTs, by rw [hlen]; exact punhide HL11, ⟨by rw [hlen, rowM_snoc]; exact punhide HO11, by rw [hlen]; exact punhide HE11⟩, M11⟩
          case n6x6 =>
            go_simp
            refine hK.out _ _ (hS9a.f.c0) (fun hHeld2 => ?ra)
            case ra =>
            clear hK K hHeld2
            try simp only [Act.put, List.getElem_toArray, List.getElem_cons_zero, List.getElem_cons_succ, List.setIfInBounds_toArray, List.set_cons_zero, List.set_cons_succ]
            refine wpAnyH_ready (rs := [1]) (by kernel_rfl) (by simp) ?_
            refine AllReadyH.cons rfl (fun K hK => ?n10x1) AllReadyH.nil
            case n10x1 =>
              go_simp
              refine hK.out _ _ (hS9a.f.c0) (fun hHeld2 => ?ra)
              case ra =>
              clear hK K hHeld2
              try simp only [Act.put, List.getElem_toArray, List.getElem_cons_zero, List.getElem_cons_succ, List.setIfInBounds_toArray, List.set_cons_zero, List.set_cons_succ]
              refine wpAnyH_ready (rs := [7]) (by kernel_rfl) (by simp) ?_
              refine AllReadyH.cons rfl (fun K hK => ?n11x7) AllReadyH.nil
              case n11x7 =>
                refine wp_append_lies (w9.alloc (.cells #[.slice a9 m9 c9, .int .u64 (qm9 : Int)] 59)) _ _ 23 rfl (rb + 3) 59 i0 (.agg #[.slice none 0 0, .int .u64 0]) 2 32 Tryz.underlying23 hi hz0 hz1 hz2 rfl (by decide) (.slice va k vc) k (rowM D) rfl hOw9 ⟨w9.heap.size, 0, none⟩ 1 1 (cellsM ⟨a9, m9, c9, ⟨M9, qm9⟩⟩) rfl rfl (newM w9 ⟨a9, m9, c9, ⟨M9, qm9⟩⟩ _) (by intro u hu; simp only [cellsM, List.mem_cons, List.not_mem_nil, or_false] at hu; rcases hu with rfl | rfl <;> rfl) (by decide) (by unfold maxLen; omega) (by omega) (by have := hS9a.sz; omega) _ rfl ?_
                intro g2 cap2 w10 hown2 hgr2 hat2 hlt2
                have hS10 := hS9a.grown hgr2 (fun k hk => (hOw9.lt k hk).1)
                obtain ⟨-, z0, z1, z2, z3, z4, z5⟩ := id hS10.f
                have zf := z5 1
                have hS11 := (hS10.put (.slice (some ⟨g2, 0, none⟩) (k + 1) cap2)).2.1
                refine hK.out _ _ (hS10.f.c0) (fun hHeld2 => ?ra)
                case ra =>
                clear hK K hHeld2
                try simp only [Act.put, List.getElem_toArray, List.getElem_cons_zero, List.getElem_cons_succ, List.setIfInBounds_toArray, List.set_cons_zero, List.set_cons_succ]
                refine wpAnyH_take (i := 8) (v := .pointer (some ⟨rb + 1 + 1, 1, none⟩)) rfl (by kernel_rfl) (by kernel_rfl) (by kernel_rfl) (fun _ _ _ h => h) (Or.inl ⟨by rfl, ?hy91⟩) hS10.f.c0 ?r91
                case hy91 => ((intro w hSw; (try dsimp only at hSw); go_simp) <;> (first | with_reducible rfl))
                case r91 =>
                try simp only [Act.put, List.getElem_toArray, List.getElem_cons_zero, List.getElem_cons_succ, List.setIfInBounds_toArray, List.set_cons_zero, List.set_cons_succ]
                refine wpAnyH_ready (rs := [9]) (by kernel_rfl) (by simp) ?_
                refine AllReadyH.cons rfl (fun K hK => ?n12x9) AllReadyH.nil
                case n12x9 =>
                  go_simp
                  refine hK.out _ _ (hS11.f.c0) (fun hHeld2 => ?ra)
                  case ra =>
                  clear hK K hHeld2
                  try simp only [Act.put, List.getElem_toArray, List.getElem_cons_zero, List.getElem_cons_succ, List.setIfInBounds_toArray, List.set_cons_zero, List.set_cons_succ]
                  refine wpAnyH_done (by kernel_rfl) ?_ _
                  have hka : Kp (rb + 3) (Value.slice va k vc).ownBlock W4.drew (w9.alloc (.cells #[.slice a9 m9 c9, .int .u64 (qm9 : Int)] 59)) := (hkp9.any).trans (Kp.of_below ((Below.refl w9.heap.size w9).alloc (Nat.le_refl _) _))
                  have hks : ∀ (x : Option Nat) (u : Value), Kp (rb + 3) x w10 (w10.setCell ⟨rb + 1 + 1, 1, none⟩ u) := fun x u => Kp.of_set _ _ (by show rb + 1 + 1 < rb + 3; omega)
                  have hL11 := ((hLf.keep hka).app hgr2 hat2).keep (hks _ (.slice (some ⟨g2, 0, none⟩) (k + 1) cap2))
                  have hOx : ∀ g, (Value.slice va k vc).ownBlock = some g → g < W4.drew.heap.size := fun g hg => (hOw.lt g hg).2
                  have hnw : StF (w9.alloc (.cells #[.slice a9 m9 c9, .int .u64 (qm9 : Int)] 59)) (rb + 3) (Value.slice va k vc).ownBlock a9 m9 M9 := (StF.of hs9 (fun g o e => ⟨by have := hn9 g o e; have := hS.sz; omega, fun e2 => by have := hn9 g o e; have := hOx g e2; omega⟩)).keep (Kp.of_below ((Below.refl w9.heap.size w9).alloc (Nat.le_refl _) _))
                  have hE11 : ∀ d ∈ D ++ [(⟨a9, m9, c9, ⟨M9, qm9⟩⟩ : Dk)], GoodMk d.m ∧ StF (w10.setCell ⟨rb + 1 + 1, 1, none⟩ (.slice (some ⟨g2, 0, none⟩) (k + 1) cap2)) (rb + 3) (some g2) d.a d.n d.m.path := by
                    intro d hd
                    rcases List.mem_append.1 hd with hd | hd
                    · obtain ⟨e1, e2⟩ := punhide hEB d hd
                      exact ⟨e1, ((e2.keep hka).app hgr2 hat2).keep (hks _ _)⟩
                    · rw [List.mem_singleton] at hd
                      rw [hd]
                      exact ⟨⟨hq9, h89⟩, (hnw.app hgr2 hat2).keep (hks _ _)⟩
                  have hO11 := ownM_block (w' := w10.setCell ⟨rb + 1 + 1, 1, none⟩ (.slice (some ⟨g2, 0, none⟩) (k + 1) cap2)) hown2 (fun g hg => Below.heap_setCell _ _ _ _ (by have := (hown2.lt g hg).1; show g ≠ rb + 1 + 1; omega))
                  have hlen : (D ++ [(⟨a9, m9, c9, ⟨M9, qm9⟩⟩ : Dk)]).length = k + 1 := by rw [List.length_append, punhide HK]; rfl
                  have M11 : Hid (∀ p0, Ok p0 → printT ptL p0 = s.data.toList → p0.cats = L ∧ ∃ rest, p0.marks = (D ++ [(⟨a9, m9, c9, ⟨M9, qm9⟩⟩ : Dk)]).map (·.m) ++ rest ∧ T2.data.toList = marksT ptL L rest ++ tailT p0) := phide (fun p0 ho he => by
                    obtain ⟨mk, r, g1, g3, g4, g5, g6⟩ := punhide MN p0 ho he
                    obtain ⟨e1, e2⟩ := hk9 mk g4 g5
                    refine ⟨g1, r, ?_, g6⟩
                    rw [g3, List.map_append, List.append_assoc]
                    obtain ⟨mp, mm⟩ := mk
                    simp only at e1 e2
                    rw [e1, e2]
                    rfl)
                  have HS11 := phide hS11
                  have HL11 := phide hL11
                  have HE11 := phide hE11
                  have HO11 := phide hO11
                  have HLEN := phide hlen
                  clear hka hks hL11 hOx hnw hE11 hO11 hlen hS11
                  go_wp2
                  go_roundg (16 - (k + 1))
                  case measure => have := punhide HK; omega
                  case rel =>
                    have hlen := punhide HLEN
                    refine ⟨D ++ [⟨a9, m9, c9, ⟨M9, qm9⟩⟩], some ⟨g2, 0, none⟩, cap2, T2, by rw [hlen], by omega, by rw [hlen]; exact punhide HS11, hTs, by rw [hlen]; exact punhide HL11, ⟨by rw [hlen, rowM_snoc]; exact punhide HO11, by rw [hlen]; exact punhide HE11⟩, M11⟩
end Go.Proofs.YtnagecbepidfiaaGreatDoor.Pol
/- What is proved here: May of package policy, walked; conditions: the tables of unicode/utf8 lie, the policy lies. -/
namespace Go.Proofs.YtnagecbepidfiaaGreatDoor.Pol
set_option maxRecDepth 100000
open Go.RowKit Go.Proofs.YtnagecbepidfiaaGreatDoor.Nc Go.Proofs.YtnagecbepidfiaaGreatDoor.Np Go.Proofs.YtnagecbepidfiaaGreatDoor.Nq
set_option linter.unusedVariables false
set_option linter.unusedSimpArgs false

theorem mayFuel_any (z : Int) (b : Bool) (hb : fuelB z = b) (w : World) : Calls Tryz.prog 45 #[.int .i64 z] w fun e w' => e = .returned (.bool b) ∧ w' = w := by
  unfold fuelB at hb
  by_cases h1 : 1 ≤ z
  · have d1 : decide (1 ≤ z) = true := decide_eq_true h1
    rw [d1, Bool.true_and] at hb
    subst hb
    clear h1
    go_enter Tryz.func45, Tryz.ntmps45
    go_wp2
    go_ret
    exact ⟨rfl, rfl⟩
  · have d1 : decide (1 ≤ z) = false := decide_eq_false h1
    rw [d1, Bool.false_and] at hb
    subst hb
    clear h1
    go_enter Tryz.func45, Tryz.ntmps45
    go_wp2
    go_ret
    exact ⟨rfl, rfl⟩
set_option maxHeartbeats 2000000 in
theorem mayMark_any (a : Option Addr) (n c : Nat) (mk : Mk) (N A : Nat) (hA : 2 ^ N - 1 = A) (hN : N ≤ 64) (hn : n ≤ 1000) (hm : mk.mask < 18446744073709551616) (q : Int) (hq : marksE N [mk] = q) (w : World) (hT : Tabs w) (hs : Np.StepsIn w a n mk.path) :
    Calls Tryz.prog 43 #[.agg #[.slice a n c, .int .u64 (mk.mask : Int)], .int .u64 (A : Int)] w fun e w' => e = .returned (.int .i64 q) ∧ Below w.heap.size w w' := by
  obtain ⟨L, m⟩ := mk
  simp only at hm hs
  obtain ⟨e0, he0⟩ : ∃ e0, Np.mayE L = e0 := ⟨_, rfl⟩
  have CM := fun W hT hs => Np.may_any a n c L e0 he0 hn W hT hs
  have hAl : A < 18446744073709551616 := by
    have := Nat.pow_le_pow_right (n := 2) (by omega) hN
    rw [← hA]; omega
  obtain ⟨b, hb⟩ : ∃ b, Cm.subB m A = b := ⟨_, rfl⟩
  have CW := fun W => Nc.within_any m A hm hAl W
  rw [hb] at CW
  unfold marksE at hq
  rw [he0, hA, hb] at hq
  simp only [marksE] at hq
  have HQ := phide hq
  have hB0 : Below w.heap.size w (w.alloc (.cells #[.slice a n c, .int .u64 (m : Int)] 59)) := (Below.refl _ _).alloc (Nat.le_refl _) _
  have t0 := Two.new w (.slice a n c) (.int .u64 (m : Int)) 59
  clear hq hb he0 hA
  go_enter Tryz.func43, Tryz.ntmps43
  go_wp2_with fail
  refine (CM _ (tabs_step hT hB0) (hs.step hB0)).mono ?_
  rintro e w2 ⟨rfl, b2⟩
  replace t0 := t0.step b2
  have hB2 := hB0.trans (b2.mono hB0.size)
  obtain ⟨-, x0, x1, -, -, -⟩ := t0
  clear CM b2 hB0 hT hs
  by_cases h0 : e0 = 0
  · subst h0
    by_cases hm0 : m = 0
    · have d1 : ((m : Int) == 0) = true := by rw [beq_iff_eq]; omega
      have hq := punhide HQ
      rw [if_neg (by simp), if_pos (.inl hm0)] at hq
      subst hq
      clear hm0
      go_wp2
      go_ret
      exact ⟨rfl, hB2⟩
    · have d1 : ((m : Int) == 0) = false := by rw [beq_eq_false_iff_ne]; omega
      have hq := punhide HQ
      cases b
      · rw [if_neg (by simp), if_pos (.inr rfl)] at hq
        subst hq
        clear hm0
        go_wp2_with (go_at_call 80; refine (CW _).mono ?_; rintro e w2 ⟨rfl, rfl⟩)
        go_ret
        exact ⟨rfl, hB2⟩
      · rw [if_neg (by simp), if_neg (by intro h; rcases h with h | h; exact hm0 h; cases h)] at hq
        subst hq
        clear hm0
        go_wp2_with (go_at_call 80; refine (CW _).mono ?_; rintro e w2 ⟨rfl, rfl⟩)
        go_ret
        exact ⟨rfl, hB2⟩
  · have d1 : (e0 == 0) = false := by simp [h0]
    have hq := punhide HQ
    rw [if_pos h0] at hq
    subst hq
    go_wp2
    go_ret
    exact ⟨rfl, hB2⟩
/-- The bits of all categories. -/
theorem all_bits {n : Nat} (h : n ≤ 64) : IntKind.u64.wrap ((Cm.bitN n : Int) - 1) = ((2 ^ n - 1 : Nat) : Int) := by
  unfold Cm.bitN
  split
  · have h1 := Nat.pow_le_pow_right (n := 2) (by omega) (show n ≤ 63 by omega)
    have h2 := Nat.two_pow_pos n
    rw [Nc.wrap_u64]
    omega
  · have : n = 64 := by omega
    subst this
    rfl
theorem marks_drop (N : Nat) (l : List Mk) (k : Nat) (h : k < l.length) : marksE N (l.drop k) = if marksE N [l[k]'h] = 0 then marksE N (l.drop (k + 1)) else marksE N [l[k]'h] := by
  rw [List.drop_eq_getElem_cons h]
  simp only [marksE]
  by_cases h1 : Np.mayE (l[k]'h).path = 0
  · by_cases h2 : (l[k]'h).mask = 0 ∨ Cm.subB (l[k]'h).mask (2 ^ N - 1) = false
    · simp [h1, h2]
    · simp [h1, h2]
  · simp [h1]
set_option maxHeartbeats 4000000 in
theorem may_any (v : Value) (p : Po) (q : Int) (hq : mayP p = q) (hc : p.cats.length ≤ 1000) (hl : ∀ x ∈ p.cats, x.length ≤ 1000000) (hml : p.marks.length ≤ 1000) (hpl : ∀ m ∈ p.marks, m.path.length ≤ 1000) (ht : p.token.length ≤ 1000000) (w : World) (hT : Tabs w) (hI : PolIn w v p) :
    Calls Tryz.prog 15 #[v] w fun e w' => e = .returned (.int .i64 q) ∧ Below w.heap.size w w' := by
  obtain ⟨a, n, c, b, m, d, tok, rfl, htok, hC, hM⟩ := hI
  obtain ⟨C, M, T, fu, qu⟩ := p
  simp only at *
  obtain ⟨e0, he0⟩ : ∃ e0, Cm.mayE C = e0 := ⟨_, rfl⟩
  have CM := fun W h => may_o a n c C hC.1 (by have := hC.1; omega) hl e0 he0 W h
  have hF := Five.new w (.slice a n c) (.slice b m d) (.string tok) (.int .i64 fu) (.int .i64 qu) 25
  have hB0 : Below w.heap.size w (w.alloc (.cells #[.slice a n c, .slice b m d, .string tok, .int .i64 fu, .int .i64 qu] 25)) := (Below.refl _ _).alloc (Nat.le_refl _) _
  have hC0 := hC.step hB0
  have hM0 := hM.step hB0
  have hT0 := tabs_step hT hB0
  unfold mayP at hq
  simp only at hq
  rw [he0] at hq
  have HQ := phide hq
  have HPL := phide hpl
  have hCn := hC.1
  have hMn := hM.1
  have HE0 := phide he0
  clear hq he0 hT hC hM hpl hl
  go_enter Tryz.func15, Tryz.ntmps15
  go_wp2_with fail
  refine (CM _ hC0).mono ?_
  rintro e w1 ⟨rfl, b1⟩
  replace hF := hF.step b1
  have hB1 := hB0.trans (b1.mono hB0.size)
  replace hM0 := hM0.step b1
  replace hT0 := tabs_step hT0 b1
  clear CM hC0 b1 hB0
  obtain ⟨-, x0, x1, x2, x3, x4, -⟩ := id hF
  by_cases h0 : e0 = 0
  case neg =>
    have d1 : ((e0 : Int) == 0) = false := by simp [h0]
    have hq := punhide HQ
    rw [if_pos h0] at hq
    subst hq
    clear hM0 hT0
    go_wp2
    go_ret
    exact ⟨rfl, hB1⟩
  case pos =>
  subst h0
  obtain ⟨h64, -, -⟩ := may_zero (punhide HE0)
  by_cases h16 : 16 < M.length
  case pos =>
    have d1 : decide ((16 : Int) < (m : Int)) = true := decide_eq_true (by omega)
    have hq := punhide HQ
    rw [if_neg (by simp), if_pos h16] at hq
    subst hq
    clear hM0 hT0 h16 hMn
    go_wp2
    go_ret
    exact ⟨rfl, hB1⟩
  case neg =>
  have d1 : decide ((16 : Int) < (m : Int)) = false := decide_eq_false (by omega)
  obtain ⟨A, hA⟩ : ∃ A, 2 ^ n - 1 = A := ⟨_, rfl⟩
  have hab := all_bits (n := n) (by omega)
  rw [hA] at hab
  have hb1 := Nc.bit_wrap n
  have hb2 : IntKind.u64.wrap (2 ^ n) = (Cm.bitN n : Int) := by rw [← hb1, Nat.min_eq_left (by omega)]
  generalize (Cm.bitN n : Int) = Z at *
  have HQ2 : Hid ((if marksE n M ≠ 0 then marksE n M else if 24 < List.length T ∨ Lib.validD T = false ∨ fuelB fu = false ∨ fuelB qu = false then 22 else 0) = q) := phide (by
    have hq := punhide HQ
    rw [if_neg (by simp), if_neg h16, hCn] at hq
    exact hq)
  have HA := phide hA
  clear HQ hA h16 HE0
  go_upto_region 7 with fail
  have HM := phide hM0
  have HX := phide hF
  have HT := phide hT0
  have hn64 : n ≤ 64 := by omega
  clear hb1 hb2 hab hM0 hT0 h64
  go_wp2_with fail
  go_loopw [26] (fun i wr => ∃ k : Nat, i = .int .i64 (k : Int) ∧ k ≤ m ∧ Below w1.heap.size w1 wr ∧ Hid (marksE n (M.drop k) = marksE n M)) (fun i _ => m - (intOf i).toNat)
  case atStart => exact ⟨0, rfl, Nat.zero_le _, Below.refl _ _, phide rfl⟩
  case round =>
    obtain ⟨k, rfl, hk, hBr, hE⟩ := hrel
    have hsz := (punhide HX).lt
    have e0 := (hBr.cell (p := ⟨w.heap.size, 0, none⟩) hsz).trans x0
    have e1 := (hBr.cell (p := ⟨w.heap.size, 1, none⟩) hsz).trans x1
    have e2 := (hBr.cell (p := ⟨w.heap.size, 2, none⟩) hsz).trans x2
    have e3 := (hBr.cell (p := ⟨w.heap.size, 3, none⟩) hsz).trans x3
    have e4 := (hBr.cell (p := ⟨w.heap.size, 4, none⟩) hsz).trans x4
    clear x0 x1 x2 x3 x4 hsz hF
    by_cases hlt : k < m
    case pos =>
      obtain ⟨g, o, rfl, hg, hrow⟩ := (punhide HM).2.resolve_left (by omega)
      obtain ⟨hmk, pa, pn, pc, c0, c1, hst⟩ := hrow k (by omega)
      obtain ⟨mk, hmke⟩ : ∃ mk, M[k]'(by omega) = mk := ⟨_, rfl⟩
      rw [hmke] at hmk c1 hst
      have f0 := (hBr.cell (p := ⟨g, o + k * 2, none⟩) hg).trans c0
      have f1 := (hBr.cell (p := ⟨g, o + k * 2 + 1, none⟩) hg).trans c1
      obtain ⟨qm, hqm⟩ : ∃ qm, marksE n [mk] = qm := ⟨_, rfl⟩
      have hpn : pn ≤ 1000 := by rw [← hst.1, ← hmke]; exact punhide HPL _ (List.getElem_mem _)
      have CMk := fun W hT hs => mayMark_any pa pn pc mk n A (punhide HA) hn64 hpn hmk qm hqm W hT hs
      have hd := marks_drop n M k (by omega)
      rw [hmke, hqm] at hd
      have HD := phide hd
      have hBa : Below w1.heap.size w1 (wr.alloc (.cells #[.slice pa pn pc, .int .u64 (mk.mask : Int)] 59)) := hBr.alloc hBr.size _
      have hTa := tabs_step (punhide HT) hBa
      have hsa := hst.step hBa
      have HBA := phide hBa
      have hza : w1.heap.size ≤ (wr.alloc (.cells #[.slice pa pn pc, .int .u64 (mk.mask : Int)] 59)).heap.size := hBa.size
      clear hd c0 c1 hst hrow hqm hmke hBa
      go_wp2_with fail
      refine (CMk _ hTa hsa).mono ?_
      rintro e w3 ⟨rfl, b3⟩
      have hB3 := (punhide HBA).trans (b3.mono hza)
      clear CMk b3 hTa hsa HBA hza
      by_cases hq0 : qm = 0
      · subst hq0
        have hE2 : Hid (marksE n (M.drop (k + 1)) = marksE n M) := phide (by rw [← punhide hE, punhide HD, if_pos rfl])
        go_wp2
        go_roundw
        case rel => exact ⟨k + 1, by go_num, hlt, hB3, hE2⟩
        case measure => simp [intOf]; omega
      · have d2 : (qm == 0) = false := by simp [hq0]
        have hE2 : Hid (qm = q) := phide (by
          have h1 : marksE n M = qm := by rw [← punhide hE, punhide HD, if_neg hq0]
          rw [← punhide HQ2, h1, if_pos hq0])
        have hqq := punhide hE2
        clear hE2 HQ2
        subst hqq
        go_wp2
        go_ret
        exact ⟨rfl, hB1.trans (hB3.mono hB1.size)⟩
    case neg =>
      have hkm : k = m := by omega
      have hE0 : marksE n M = 0 := by rw [← punhide hE, hkm, List.drop_of_length_le (by omega)]; rfl
      have hq := punhide HQ2
      rw [if_neg (by rw [hE0]; simp)] at hq
      have htl : T.length = tok.size := by rw [← htok, len_size]
      have htk : tok.size ≤ 1000000 := by omega
      rw [htl] at hq
      obtain ⟨v1, hv1⟩ : ∃ v1, Lib.validD T = v1 := ⟨_, rfl⟩
      obtain ⟨v2, hv2⟩ : ∃ v2, fuelB fu = v2 := ⟨_, rfl⟩
      obtain ⟨v3, hv3⟩ : ∃ v3, fuelB qu = v3 := ⟨_, rfl⟩
      have CV := fun W hT => valid_c tok v1 W (by omega) (by rw [htok]; exact hv1) hT
      have C2 := fun W => mayFuel_any fu v2 hv2 W
      have C3 := fun W => mayFuel_any qu v3 hv3 W
      rw [hv1, hv2, hv3] at hq
      have hTr := tabs_step (punhide HT) hBr
      have hB := hB1.trans (hBr.mono hB1.size)
      have hBs := hB.size
      have hsz := Nat.lt_of_lt_of_le (punhide HX).lt hBr.size
      have HQ3 := phide hq
      clear hq hE0 hkm hE hk htok hv1 hv2 hv3 htl
      by_cases h24 : 24 < tok.size
      case pos =>
        have d2 : decide ((24 : Int) < (tok.size : Int)) = true := decide_eq_true (by omega)
        have hq := punhide HQ3
        rw [if_pos (.inl h24)] at hq
        subst hq
        clear h24 hB1 hBr
        go_wp2
        go_ret
        exact ⟨rfl, hB⟩
      case neg =>
        have d2 : decide ((24 : Int) < (tok.size : Int)) = false := decide_eq_false (by omega)
        have hq := punhide HQ3
        clear hB1 hBr HQ3
        cases v1 with
        | false =>
          rw [if_pos (.inr (.inl rfl))] at hq
          subst hq
          clear h24
          go_wp2_with (go_at_call 44; refine (CV _ hTr).mono ?_; rintro e w4 ⟨rfl, b4⟩)
          go_ret
          exact ⟨rfl, hB.trans (b4.mono hBs)⟩
        | true =>
          have h2 : ¬ (24 < tok.size ∨ true = false ∨ v2 = false ∨ v3 = false) ↔ (v2 = true ∧ v3 = true) := by
            cases v2 <;> cases v3 <;> simp [h24]
          cases v2 with
          | false =>
            rw [if_pos (.inr (.inr (.inl rfl)))] at hq
            subst hq
            clear h24 h2
            go_wp2_with (first | (go_at_call 44; refine (CV _ hTr).mono ?_; rintro e w4 ⟨rfl, b4⟩; replace e3 := (b4.cell (p := ⟨w.heap.size, 3, none⟩) hsz).trans e3; replace e4 := (b4.cell (p := ⟨w.heap.size, 4, none⟩) hsz).trans e4) | (go_at_call_of 45 (Value.int IntKind.i64 fu); refine (C2 _).mono ?_; rintro e w5 ⟨rfl, rfl⟩))
            go_ret
            exact ⟨rfl, hB.trans (b4.mono hBs)⟩
          | true =>
            cases v3 with
            | false =>
              rw [if_pos (.inr (.inr (.inr rfl)))] at hq
              subst hq
              clear h24 h2
              go_wp2_with (first | (go_at_call 44; refine (CV _ hTr).mono ?_; rintro e w4 ⟨rfl, b4⟩; replace e3 := (b4.cell (p := ⟨w.heap.size, 3, none⟩) hsz).trans e3; replace e4 := (b4.cell (p := ⟨w.heap.size, 4, none⟩) hsz).trans e4) | (go_at_call_of 45 (Value.int IntKind.i64 fu); refine (C2 _).mono ?_; rintro e w5 ⟨rfl, rfl⟩) | (go_at_call_of 45 (Value.int IntKind.i64 qu); refine (C3 _).mono ?_; rintro e w5 ⟨rfl, rfl⟩))
              go_ret
              exact ⟨rfl, hB.trans (b4.mono hBs)⟩
            | true =>
              rw [if_neg (h2.2 ⟨rfl, rfl⟩)] at hq
              subst hq
              clear h24 h2
              go_wp2_with (first | (go_at_call 44; refine (CV _ hTr).mono ?_; rintro e w4 ⟨rfl, b4⟩; replace e3 := (b4.cell (p := ⟨w.heap.size, 3, none⟩) hsz).trans e3; replace e4 := (b4.cell (p := ⟨w.heap.size, 4, none⟩) hsz).trans e4) | (go_at_call_of 45 (Value.int IntKind.i64 fu); refine (C2 _).mono ?_; rintro e w5 ⟨rfl, rfl⟩) | (go_at_call_of 45 (Value.int IntKind.i64 qu); refine (C3 _).mono ?_; rintro e w5 ⟨rfl, rfl⟩))
              go_ret
              exact ⟨rfl, hB.trans (b4.mono hBs)⟩
end Go.Proofs.YtnagecbepidfiaaGreatDoor.Pol
/- What is proved here: 'May' of package policy, under another name; conditions: as the theorem states. -/
namespace Go.Proofs.YtnagecbepidfiaaGreatDoor.Pol
set_option maxRecDepth 100000
open Go.RowKit Go.Proofs.YtnagecbepidfiaaGreatDoor.Nc Go.Proofs.YtnagecbepidfiaaGreatDoor.Np Go.Proofs.YtnagecbepidfiaaGreatDoor.Nq

theorem pmay8_any (v : Value) (p : Po) (q : Int) (hq : mayP p = q) (hc : p.cats.length ≤ 1000) (hl : ∀ x ∈ p.cats, x.length ≤ 1000000) (hml : p.marks.length ≤ 1000) (hpl : ∀ m ∈ p.marks, m.path.length ≤ 1000) (ht : p.token.length ≤ 1000000) (w : World) (hT : Tabs w) (hI : PolIn w v p) :
    Calls Tryz.prog 15 #[v] w fun e w' => e = .returned (.int .i64 q) ∧ Below w.heap.size w w' := may_any v p q hq hc hl hml hpl ht w hT hI
end Go.Proofs.YtnagecbepidfiaaGreatDoor.Pol
