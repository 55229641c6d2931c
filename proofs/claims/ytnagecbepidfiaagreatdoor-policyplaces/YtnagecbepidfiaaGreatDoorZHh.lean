/- What is proved here: eachNode with the visit of Label, walked: each node of a tree that lies in blocks of its own has the masks of its place; conditions: the policy lies, and as the theorem states. -/
import Derived.Test.YtnagecbepidfiaaGreatDoorZHg
import Derived.Test.YtnagecbepidfiaaGreatDoorZDf
import Derived.Test.YtnagecbepidfiaaGreatDoorZHd
namespace Go.Proofs.YtnagecbepidfiaaGreatDoor.Pol
set_option maxRecDepth 100000
open Go.RowKit Go.Proofs.YtnagecbepidfiaaGreatDoor.Nc Go.Proofs.YtnagecbepidfiaaGreatDoor.Np Go.Proofs.YtnagecbepidfiaaGreatDoor.Nq
set_option linter.unusedVariables false
set_option linter.unusedSimpArgs false

/-- What a visit of a node and all below it leaves. -/
def NodePost (base n lo hi b o m9 : Nat) (at9 : List Pm.St) (atv : Value) (t' : Tr) (w w' : World) : Prop :=
  Below base w w' ∧ Kept (fun c => (c < lo ∨ hi ≤ c) ∧ c ≠ b ∧ atv.ownBlock ≠ some c) w w' ∧ w'.ownsRow base 57 3 atv m9 (Np.rowS at9) ∧
    (∀ r, r ≠ o + 1 → w'.cell? ⟨b, r, none⟩ = w.cell? ⟨b, r, none⟩) ∧ (∀ r, w'.frozen? ⟨b, r, none⟩ = false) ∧ ∃ cs', Row9 w' b o cs' ∧ Own w' n lo hi (.agg cs') t'
def NodeSpec (p : Po) (pb : Nat) (w0 : World) (n : Nat) : Prop :=
  ∀ (lo hi b o : Nat) (at9 : List Pm.St) (m9 : Nat) (atv : Value) (t : Tr) (cs : Array Value) (w : World), Below w0.heap.size w0 w → okT n t → at9.length = m9 → m9 + n ≤ 900 → w0.heap.size ≤ lo → hi ≤ w.heap.size → Row9 w b o cs → Own w n lo hi (.agg cs) t →
    (b < lo ∨ hi ≤ b) → w0.heap.size ≤ b → b < w.heap.size → (∀ r, w.frozen? ⟨b, r, none⟩ = false) → w.ownsRow w0.heap.size 57 3 atv m9 (Np.rowS at9) → (∀ g, atv.ownBlock = some g → (g < lo ∨ hi ≤ g) ∧ g ≠ b) →
    Calls Tryz.prog 61 #[.pointer (some ⟨b, o, none⟩), atv, .func (.func 62) #[] #[.pointer (some ⟨pb, 0, none⟩)]] w fun e w' => e = .returned (.tuple #[]) ∧ NodePost w0.heap.size n lo hi b o m9 at9 atv (labelT p.marks n at9 t) w w'
/-- What does not turn in the loop over the kids. -/
structure Ctx (w0 w2 : World) (n lo hi b G N m9 : Nat) (l : List Tr) (at9 : List Pm.St) (atv : Value) (s : Nat → Nat) : Prop where
  base : Below w0.heap.size w0 w2
  ok : ∀ t, t ∈ l → okT n t
  len : l.length = N
  alen : at9.length = m9
  bound : m9 + n + 1 ≤ 900
  lo0 : w0.heap.size ≤ lo
  loG : lo ≤ G
  Ghi : G < hi
  hisz : hi ≤ w2.heap.size
  bo : b < lo ∨ hi ≤ b
  r : ∀ g, atv.ownBlock = some g → (g < lo ∨ hi ≤ g) ∧ g ≠ b
  s0 : s 0 = G + 1
  s1 : s N ≤ hi
  s2 : ∀ i, i < N → s i ≤ s (i + 1)
/-- What holds after k kids. -/
def INV (M : List Mk) (w0 w2 : World) (n hi G N m9 : Nat) (h : Hd) (l : List Tr) (at9 : List Pm.St) (atv : Value) (s : Nat → Nat) (k : Nat) (wr : World) : Prop :=
  Below w0.heap.size w2 wr ∧ Kept (fun c => (c < G ∨ hi ≤ c) ∧ atv.ownBlock ≠ some c) w2 wr ∧ wr.ownsRow w0.heap.size 57 3 atv m9 (Np.rowS at9) ∧
    (N = 0 ∨ KidsL wr n G s (fun i => if i < k then labelT M n (at9 ++ [stepT h i]) (lk l i) else lk l i) N)
theorem kid_call {p : Po} {pb : Nat} {w0 w2 wr V v4 : World} {n lo hi b G N m9 k g2 cap2 : Nat} {h : Hd} {l : List Tr} {at9 : List Pm.St} {atv : Value} {s : Nat → Nat} (IH : NodeSpec p pb w0 n) (C : Ctx w0 w2 n lo hi b G N m9 l at9 atv s)
    (I : INV p.marks w0 w2 n hi G N m9 h l at9 atv s k wr) (hk : k < N) (hV : Below wr.heap.size wr V) (hgrow : V.grownBy v4 atv.ownBlock) (hown : v4.ownsRow w0.heap.size 57 3 (.slice (some ⟨g2, 0, none⟩) (m9 + 1) cap2) (m9 + 1) (Np.rowS (at9 ++ [stepT h k])))
    (hat : atv = .slice (some ⟨g2, 0, none⟩) m9 cap2 ∨ (V.heap.size ≤ g2 ∧ V.grownBy v4 none)) :
    Calls Tryz.prog 61 #[.pointer (some ⟨G, k * 9, none⟩), .slice (some ⟨g2, 0, none⟩) (m9 + 1) cap2, .func (.func 62) #[] #[.pointer (some ⟨pb, 0, none⟩)]] v4 fun e v5 => e = .returned (.tuple #[]) ∧ INV p.marks w0 w2 n hi G N m9 h l at9 atv s (k + 1) v5 := by
  obtain ⟨i1, i2, i3, i4⟩ := I
  have i4 := i4.resolve_left (by omega)
  have hob : ∀ g, atv.ownBlock = some g → g < wr.heap.size ∧ w0.heap.size ≤ g := by
    intro g hg
    exact ⟨(i3.lt _ hg).2, (i3.lt _ hg).1⟩
  have hz2 := i1.size
  have hzV := hV.size
  have hz4 := hgrow.size
  have hbase := C.base.size
  have hB4 : Below w0.heap.size wr v4 := (hV.mono (by omega)).grown hgrow (by omega) (fun g hg => (hob g hg).2)
  have K4 : Kept (fun c => some c ≠ atv.ownBlock) wr v4 := ((Kept.of_below hV : Kept (fun c => some c ≠ atv.ownBlock) wr V)).trans (Kept.of_grown hgrow)
  have hGb : ∀ c, G ≤ c → c < hi → some c ≠ atv.ownBlock := fun c h1 h2 e => by have := (C.r c e.symm).1; have := C.loG; omega
  have kd4 := i4.keep C.s0 C.s1 C.s2 K4 hGb C.Ghi
  obtain ⟨k1, k2, k3⟩ := id kd4
  obtain ⟨cs, hrow, ho⟩ := k3 k hk
  have hfk : (if k < k then labelT p.marks n (at9 ++ [stepT h k]) (lk l k) else lk l k) = lk l k := if_neg (by omega)
  replace ho : Own v4 n (s k) (s (k + 1)) (.agg cs) (if k < k then labelT p.marks n (at9 ++ [stepT h k]) (lk l k) else lk l k) := ho
  rw [hfk] at ho
  have m1 := s_mono C.s2 0 k (by omega) (by omega)
  have m2 := s_mono C.s2 (k + 1) N (by omega) (by omega)
  have s0 := C.s0
  have s1 := C.s1
  have loG := C.loG
  have lo0 := C.lo0
  have Ghi := C.Ghi
  have hisz := C.hisz
  have hg2 : g2 < lo ∨ hi ≤ g2 := by
    rcases hat with e | e
    · exact (C.r g2 (by rw [e]; rfl)).1
    · omega
  refine (IH (s k) (s (k + 1)) G (k * 9) (at9 ++ [stepT h k]) (m9 + 1) _ (lk l k) cs v4 (C.base.trans (i1.trans hB4)) (C.ok _ (by rw [lk_at (by rw [C.len]; omega)]; exact List.getElem_mem _)) (by simp [C.alen]) (by have := C.bound; omega) (by omega) (by omega) hrow ho (by omega) (by omega) k1 k2 hown
    (fun g e => by
      have e2 : g2 = g := Option.some.inj e
      omega)).mono ?_
  rintro e v5 ⟨rfl, n1, n2, n3, n4, n5, cs', n6, n7⟩
  refine ⟨rfl, i1.trans (hB4.trans n1), i2.trans ?_, ?_, .inr ?_⟩
  · refine ⟨Nat.le_trans hB4.size n1.size, fun c hc hl => ?_⟩
    by_cases e : g2 = c
    · subst e
      rcases hat with e2 | e2
      · exact absurd (show atv.ownBlock = some g2 by rw [e2]; rfl) hc.2
      · omega
    · exact (n2.2 c ⟨by omega, by omega, fun e2 => e (Option.some.inj e2)⟩ (Nat.lt_of_lt_of_le hl K4.1)).trans (K4.2 c (fun e2 => hc.2 e2.symm) hl)
  · rcases hat with e | e
    · subst e
      exact own_back n3 C.alen rfl
    · refine own_kept i3 (fun g hg => ?_)
      have h1 := C.r g hg
      have h2 := hob g hg
      rw [n2.2 g ⟨by omega, by omega, fun e2 => ?_⟩ (by omega), e.2.block g (by omega) (by simp), hV.block g h2.1]
      have e3 : g2 = g := Option.some.inj e2
      omega
  · have := kd4.upd (t' := labelT p.marks n (at9 ++ [stepT h k]) (lk l k)) hk C.s0 C.s1 C.s2 n2 (fun c e => by have e2 : g2 = c := Option.some.inj e; omega) n4 n5 n6 n7
    refine ⟨this.1, this.2.1, fun i hi => ?_⟩
    obtain ⟨c, c1, c2⟩ := this.2.2 i hi
    refine ⟨c, c1, ?_⟩
    dsimp only at c2
    show Own _ _ _ _ _ (if i < k + 1 then _ else _)
    by_cases e : i = k
    · subst e
      rw [if_pos rfl] at c2
      rw [if_pos (by omega)]
      exact c2
    · rw [if_neg e] at c2
      by_cases e2 : i < k
      · rw [if_pos e2] at c2
        rw [if_pos (by omega)]
        exact c2
      · rw [if_neg e2] at c2
        rw [if_neg (by omega)]
        exact c2
/-- What a store of a mask leaves. -/
theorem store_mask {w W : World} {base b o : Nat} {u v : Value} (hB : Below w.heap.size w W) (hb : b < w.heap.size) (h0 : base ≤ b) (hc : w.cell? ⟨b, o + 1, none⟩ = some u) (hf : ∀ r, w.frozen? ⟨b, r, none⟩ = false) :
    Below base w (W.setCell ⟨b, o + 1, none⟩ v) ∧ Kept (fun c => c ≠ b) w (W.setCell ⟨b, o + 1, none⟩ v) ∧ (∀ r, r ≠ o + 1 → (W.setCell ⟨b, o + 1, none⟩ v).cell? ⟨b, r, none⟩ = w.cell? ⟨b, r, none⟩) ∧ (W.setCell ⟨b, o + 1, none⟩ v).cell? ⟨b, o + 1, none⟩ = some v ∧
      (∀ r, (W.setCell ⟨b, o + 1, none⟩ v).frozen? ⟨b, r, none⟩ = false) := by
  refine ⟨(hB.mono (by omega)).setCell h0 v, ((Kept.of_below hB : Kept (fun c => c ≠ b) w W)).trans (setCell_kept _ _ _ (fun c hc => hc)), fun r hr => ?_, ?_, fun r => ?_⟩
  · rw [World.cell?_setCell_other _ _ _ _ (fun e => hr (by have := congrArg Addr.off e; simp at this; omega))]
    exact hB.cell (p := ⟨b, r, none⟩) hb
  · exact World.cell?_setCell_same _ _ _ ((hB.cell (p := ⟨b, o + 1, none⟩) hb).trans hc)
  · rw [frozen_set]
    exact (hB.frozen (p := ⟨b, r, none⟩) hb).trans (hf r)
set_option maxHeartbeats 4000000 in
theorem node_step (p : Po) (pb : Nat) (w0 : World) (hP : PBox w0 pb p) (hml : p.marks.length ≤ 1000) (hpl : ∀ m ∈ p.marks, m.path.length ≤ 1000) (hmm : ∀ m ∈ p.marks, m.mask < 18446744073709551616) (n : Nat) (IH : NodeSpec p pb w0 n) : NodeSpec p pb w0 (n + 1) := by
  intro lo hi b o at9 m9 atv t cs w hB0 hokT hlen hbd hlo hhi hrow ho hbo hb0 hb hfr hown hat
  obtain ⟨aa, ac, rfl, _, hst⟩ := own_steps hown
  obtain ⟨h, l, kv, dv, rfl, e2, hm64, G, hG1, hG2, hks, da, dc, rfl, hdc, hkids⟩ := ho
  obtain rfl := Value.agg.inj e2
  obtain ⟨ka, kc, rfl, hkc, hks'⟩ := id hks
  obtain ⟨q, hq⟩ : ∃ q, maskL at9 p.marks = q := ⟨_, rfl⟩
  obtain ⟨N, hN⟩ : ∃ N, l.length = N := ⟨_, rfl⟩
  obtain ⟨c0, c1, c2, c3, c4, c5, c6, c7, c8⟩ := hrow.cells
  have CV := visit_any pb b o p aa ac m9 at9 (by omega) hml hpl q hq w (hP.step hB0) hst _ hb c1 (hfr _)
  have hq64 : q < 18446744073709551616 := by rw [← hq]; exact maskL_lt hmm
  have hokK := hokT.1
  have hokN := hokT.2.1
  have hokS := hokT.2.2
  simp only [Tr.hd_mk, Tr.kd_mk] at hokK hokN hokS
  rw [hN] at hdc hokN c7
  have hbG : b < G ∨ hi ≤ b := by omega
  obtain ⟨s, hK0⟩ : ∃ s : Nat → Nat, N = 0 ∨ (da = some ⟨G, 0, none⟩ ∧ G < hi ∧ s 0 = G + 1 ∧ s N ≤ hi ∧ (∀ i, i < N → s i ≤ s (i + 1)) ∧ KidsL w n G s (lk l) N) := by
    rcases hkids with e | ⟨f1, f2, f3, f4, s, s0, s1, s2, f5⟩
    · exact ⟨fun _ => 0, .inl (hN.symm.trans e)⟩
    · rw [hN] at s1
      refine ⟨s, .inr ⟨f1, f3, s0, s1, fun i hi => s2 i (by rw [hN]; exact hi), f2, f4, fun i hi => ?_⟩⟩
      rw [lk_at (by rw [hN]; exact hi)]
      exact f5 i (by rw [hN]; exact hi)
  clear hkids
  have hownB : ∀ g, (Value.slice aa m9 ac).ownBlock = some g → g < w.heap.size := fun g hg => (hown.lt g hg).2
  -- what is known behind the store
  have FIN : ∀ w2 : World, Below w0.heap.size w w2 → Kept (fun c => c ≠ b) w w2 → (∀ r, r ≠ o + 1 → w2.cell? ⟨b, r, none⟩ = w.cell? ⟨b, r, none⟩) → w2.cell? ⟨b, o + 1, none⟩ = some (.int .u64 (q : Int)) → (∀ r, w2.frozen? ⟨b, r, none⟩ = false) →
      INV p.marks w0 w2 n hi G N m9 h l at9 (.slice aa m9 ac) s 0 w2 ∧ (∀ k W, INV p.marks w0 w2 n hi G N m9 h l at9 (.slice aa m9 ac) s k W → ∀ r, W.cell? ⟨b, r, none⟩ = w2.cell? ⟨b, r, none⟩ ∧ W.frozen? ⟨b, r, none⟩ = false) ∧
      (0 < N → Ctx w0 w2 n lo hi b G N m9 l at9 (.slice aa m9 ac) s) ∧
      (∀ k W V, INV p.marks w0 w2 n hi G N m9 h l at9 (.slice aa m9 ac) s k W → Below W.heap.size W V → ∃ ka' kc', (Value.slice ka h.ks.length kc) = .slice ka' h.ks.length kc' ∧ ∀ i, ∀ hi : i < h.ks.length, ∃ g o, ka' = some ⟨g, o, none⟩ ∧ g < V.heap.size ∧ V.cell? ⟨g, o + i, none⟩ = some (.string (h.ks[i]'hi))) ∧
      (∀ W, INV p.marks w0 w2 n hi G N m9 h l at9 (.slice aa m9 ac) s N W → NodePost w0.heap.size (n + 1) lo hi b o m9 at9 (.slice aa m9 ac) (labelT p.marks (n + 1) at9 (Tr.mk h l)) w W) := by
    intro w2 B2 K2 X2 Y2 F2
    have own2 := own_kept hown (w' := w2) (fun g hg => K2.2 g (hat g hg).2 (hownB g hg))
    have hXc : ∀ k W, INV p.marks w0 w2 n hi G N m9 h l at9 (.slice aa m9 ac) s k W → ∀ r, W.cell? ⟨b, r, none⟩ = w2.cell? ⟨b, r, none⟩ ∧ W.frozen? ⟨b, r, none⟩ = false := by
      intro k W I r
      have e := I.2.1.2 b ⟨hbG, fun e => (hat b e).2 rfl⟩ (Nat.lt_of_lt_of_le hb B2.size)
      exact ⟨World.cell?_of_block (a := ⟨b, r, none⟩) e, by rw [World.frozen?_of_block (w := w2) (a := ⟨b, r, none⟩) e]; exact F2 r⟩
    have hks2 : StrsIn (fun c => lo ≤ c ∧ c < G) w2 (.slice ka h.ks.length kc) h.ks := hks.keep (ok := fun c => lo ≤ c ∧ c < G) (K2.weak (fun c _ hc => by omega)) (fun _ _ hc => hc)
    have hksW : ∀ k W, INV p.marks w0 w2 n hi G N m9 h l at9 (.slice aa m9 ac) s k W → StrsIn (fun c => lo ≤ c ∧ c < G) W (.slice ka h.ks.length kc) h.ks := fun k W I =>
      hks2.keep (ok := fun c => lo ≤ c ∧ c < G) (I.2.1.weak (fun c _ hc => ⟨.inl hc.2, fun e => by have := (hat c e).1; omega⟩)) (fun _ _ hc => hc)
    have hI0 : N = 0 ∨ KidsL w2 n G s (fun i => if i < 0 then labelT p.marks n (at9 ++ [stepT h i]) (lk l i) else lk l i) N := by
      refine hK0.imp_right ?_
      rintro ⟨_, g1, g2, g3, g4, g5⟩
      have e : (fun i => if i < 0 then labelT p.marks n (at9 ++ [stepT h i]) (lk l i) else lk l i) = lk l := funext fun i => if_neg (by omega)
      rw [e]
      exact g5.keep g2 g3 g4 K2 (fun c h1 h2 => by omega) g1
    refine ⟨⟨Below.refl _ _, Kept.refl _ _, own2, hI0⟩, hXc, fun hN0 => ?_, fun k W V I hV => ?_, fun W I => ?_⟩
    · obtain ⟨_, g1, g2, g3, g4, g5⟩ := hK0.resolve_left (by omega)
      exact ⟨hB0.trans B2, hokS, hN, hlen, by omega, hlo, hG1, g1, Nat.le_trans hhi B2.size, hbo, hat, g2, g3, g4⟩
    · obtain ⟨a', c', e, _, hh⟩ := (hksW k W I).keep (ok' := anyB) (Kept.of_below hV) (fun _ _ _ => trivial)
      refine ⟨a', c', e, fun i hi => ?_⟩
      obtain ⟨g, o2, e1, _, e3, e4⟩ := hh i hi
      exact ⟨g, o2, e1, e3, e4⟩
    · have hI := I
      obtain ⟨i1, i2, i3, i4⟩ := I
      refine ⟨B2.trans i1, ?_, i3, fun r hr => by rw [(hXc N W hI r).1]; exact X2 r hr, fun r => (hXc N W hI r).2, nine { h with m := q } (.slice ka h.ks.length kc) (.slice da l.length dc), ?_, ?_⟩
      · exact (K2.weak (ok := fun c => (c < lo ∨ hi ≤ c) ∧ c ≠ b ∧ (Value.slice aa m9 ac).ownBlock ≠ some c) (fun c _ hc => hc.2.1)).trans (i2.weak (fun c _ hc => ⟨by omega, hc.2.2⟩))
      · have hx := fun r hr => ((hXc N W hI r).1).trans (X2 r hr)
        exact Row9.of_cells ⟨(hx o (by omega)).trans c0, ((hXc N W hI _).1).trans Y2, (hx _ (by omega)).trans c2, (hx _ (by omega)).trans c3, (hx _ (by omega)).trans c4, (hx _ (by omega)).trans c5, (hx _ (by omega)).trans c6, by rw [hN]; exact (hx _ (by omega)).trans c7, (hx _ (by omega)).trans c8⟩
      · have hll : ((Tr.kd (Tr.mk h l)).mapIdx fun i k => labelT p.marks n (at9 ++ [stepT (Tr.hd (Tr.mk h l)) i]) k).length = l.length := by rw [List.length_mapIdx]; rfl
        refine ⟨{ h with m := q }, _, _, _, by rw [← hq]; rfl, rfl, hq64, G, hG1, hG2, hksW N W hI, da, dc, by rw [hll], by rw [hll, hN]; exact hdc, ?_⟩
        by_cases hN0 : N = 0
        · exact .inl (hll.trans (hN.trans hN0))
        · have kd := i4.resolve_left hN0
          obtain ⟨g0, g1, g2, g3, g4, g5⟩ := hK0.resolve_left hN0
          refine .inr ⟨g0, kd.1, g1, kd.2.1, s, g2, by rw [hll, hN]; exact g3, fun i hi => g4 i (by rw [hll, hN] at hi; exact hi), fun i hi => ?_⟩
          obtain ⟨cs, r1, r2⟩ := kd.2.2 i (by rw [hll, hN] at hi; exact hi)
          refine ⟨cs, r1, ?_⟩
          dsimp only at r2
          rw [if_pos (by rw [hll, hN] at hi; exact hi), lk_at (by rw [hll] at hi; exact hi)] at r2
          rw [List.getElem_mapIdx]
          exact r2
  have HFIN := phide FIN
  have HIH := phide IH
  have HBB := phide (And.intro hB0 (And.intro hb0 (And.intro hhi hown)))
  have HST := phide (fun W => store_mask (W := W) (w := w) (base := w0.heap.size) (b := b) (o := o) (u := .int .u64 (h.m : Int)) (v := .int .u64 (q : Int)))
  have HC0 := phide c0
  have HC6 := phide c6
  have HC1 := phide (And.intro hb (And.intro hb0 (And.intro c1 hfr)))
  have hkk : h.ks.length ≤ 1000000 := hokK
  have HOKK := phide hkk
  have HBD := phide hbd
  have HDA := phide hK0
  clear FIN IH hokT hokS hokK hkk hks' hks hfr hrow hat hown hst hownB hK0 hbd hm64 hP hml hpl hmm hlen hq
  go_enter Tryz.func61, Tryz.ntmps61
  go_wp2_with fail
  refine CV.mono ?_
  rintro e W9 ⟨rfl, W', hBW, rfl⟩
  clear CV
  obtain ⟨p1, p2, p3, p4⟩ := punhide HC1
  obtain ⟨B2, K2, X2, Y2, F2⟩ := punhide HST _ hBW p1 p2 p3 p4
  generalize W'.setCell ⟨b, o + 1, none⟩ (.int .u64 (q : Int)) = w2 at *
  clear hBW p1 p2 p3 p4 c0 c1 c2 c3 c4 c5 c6 c8
  obtain ⟨hI0, hXc, hC, hKS, hE⟩ := punhide HFIN w2 B2 K2 X2 Y2 F2
  have x7 : w2.cell? ⟨b, o + 7, none⟩ = some (.slice da N dc) := (X2 _ (by omega)).trans c7
  have HI0 := phide hI0
  have HXC := phide hXc
  have HC := phide hC
  have HKS := phide hKS
  have HE := phide hE
  have HX0 := phide X2
  have HW2 := phide B2.size
  clear hI0 hXc hC hKS hE HFIN HST HC1 B2 K2 X2 Y2 F2 c7
  go_wp2_with fail
  go_loopw [16] (fun i wr => ∃ k : Nat, i = .int .i64 (k : Int) ∧ k ≤ N ∧ Hid (INV p.marks w0 w2 n hi G N m9 h l at9 (.slice aa m9 ac) s k wr)) (fun i _ => N - (intOf i).toNat)
  case atStart => exact ⟨0, rfl, Nat.zero_le _, HI0⟩
  case round =>
    obtain ⟨k, rfl, hk, HI⟩ := hrel
    by_cases hlt : k < N
    case pos =>
      have HI' := punhide HI
      obtain ⟨g0, g1, g2, g3, g4, -⟩ := (punhide HDA).resolve_left (by omega)
      subst g0
      have hwr := HI'.1.size
      have hw2 := punhide HW2
      have hbr : b < wr.heap.size := by omega
      have hzw : w0.heap.size ≤ wr.heap.size := by omega
      have x7r : wr.cell? ⟨b, o + 7, none⟩ = some (.slice (some ⟨G, 0, none⟩) N dc) := ((punhide HXC k wr HI' (o + 7)).1).trans x7
      have HX1 : Hid (∀ W, Below wr.heap.size wr W → W.cell? ⟨b, o + 7, none⟩ = some (.slice (some ⟨G, 0, none⟩) N dc)) := phide fun W hW => (hW.cell (p := ⟨b, o + 7, none⟩) hbr).trans x7r
      obtain ⟨st, hst⟩ : ∃ st, stepT h k = st := ⟨_, rfl⟩
      have CS : Hid (∀ W, Below wr.heap.size wr W → Calls Tryz.prog 93 #[.pointer (some ⟨b, o, none⟩), .int .i64 (k : Int)] W fun e W' => e = .returned (Np.valS st) ∧ Below W.heap.size W W') := phide fun W hW => by
        obtain ⟨ka', kc', e, hh⟩ := punhide HKS k wr W HI' hW
        obtain ⟨rfl, -, rfl⟩ := Value.slice.inj e
        have hc := fun r => (hW.cell (p := ⟨b, r, none⟩) hbr).trans (punhide HXC k wr HI' r).1
        have := stepTo_any b o h ka kc k (by omega) (punhide HOKK) W ((hc o).trans ((punhide HX0 _ (by omega)).trans (punhide HC0))) ((hc (o + 6)).trans ((punhide HX0 _ (by omega)).trans (punhide HC6))) (Nat.lt_of_lt_of_le hbr hW.size) hh
        rw [hst] at this
        exact this
      have HOWN : Hid (∀ W, Below wr.heap.size wr W → W.ownsRow w0.heap.size 57 3 (.slice aa m9 ac) m9 (Np.rowS at9)) := phide fun W hW => own_kept HI'.2.2.1 (fun g hg => hW.block g (HI'.2.2.1.lt g hg).2)
      have H74 : Hid (∀ V v4, Below wr.heap.size wr V → V.grownBy v4 (Value.slice aa m9 ac).ownBlock → v4.cell? ⟨b, o + 7, none⟩ = some (.slice (some ⟨G, 0, none⟩) N dc)) := phide fun V v4 hV hgrow =>
        (World.cell?_of_block (a := ⟨b, o + 7, none⟩) (hgrow.block b (Nat.lt_of_lt_of_le hbr hV.size) (fun e => ((punhide HC (by omega)).r b e.symm).2 rfl))).trans (punhide HX1 V hV)
      have HX5 : Hid (∀ v5, INV p.marks w0 w2 n hi G N m9 h l at9 (.slice aa m9 ac) s (k + 1) v5 → v5.cell? ⟨b, o + 7, none⟩ = some (.slice (some ⟨G, 0, none⟩) N dc)) := phide fun v5 h5 => ((punhide HXC (k + 1) v5 h5 (o + 7)).1).trans x7
      have HZ : Hid (∀ W, Below wr.heap.size wr W → w0.heap.size ≤ W.heap.size) := phide fun W hW => Nat.le_trans hzw hW.size
      have HM9 : Hid (m9 ≤ 1000) := phide (by have := punhide HBD; omega)
      have CE : Hid (∀ V v4 g2 cap2, Below wr.heap.size wr V → V.grownBy v4 (Value.slice aa m9 ac).ownBlock → v4.ownsRow w0.heap.size 57 3 (.slice (some ⟨g2, 0, none⟩) (m9 + 1) cap2) (m9 + 1) (Np.rowS (at9 ++ [st])) → (Value.slice aa m9 ac = .slice (some ⟨g2, 0, none⟩) m9 cap2 ∨ (V.heap.size ≤ g2 ∧ V.grownBy v4 none)) →
          Calls Tryz.prog 61 #[.pointer (some ⟨G, k * 9, none⟩), .slice (some ⟨g2, 0, none⟩) (m9 + 1) cap2, .func (.func 62) #[] #[.pointer (some ⟨pb, 0, none⟩)]] v4 fun e v5 => e = .returned (.tuple #[]) ∧ INV p.marks w0 w2 n hi G N m9 h l at9 (.slice aa m9 ac) s (k + 1) v5) :=
        phide fun V v4 g2 cap2 hV hgrow hown hat => kid_call (punhide HIH) (punhide HC (by omega)) HI' hlt hV hgrow (by rw [hst]; exact hown) hat
      obtain ⟨tk, ts, tn⟩ := st
      unfold Np.valS at CS
      have hS : Below wr.heap.size wr wr.drew := (Below.refl _ _).drew
      have hk0 : (0 : Int) ≤ (k : Int) := by omega
      have hk1 : (k : Int) < (N : Int) := by omega
      clear HI' g1 g2 g3 g4 hwr hw2 hst hzw x7
      go_wp2_with fail
      go_region_held3 (fun W => W.cell? ⟨b, o + 7, none⟩ = some (.slice (some ⟨G, 0, none⟩) N dc)) (first | exact punhide HX5 _ hI5 | exact h74 | exact punhide HX1 _ hS | exact punhide HX1 _ hS.drew | exact punhide HX1 _ (hS.alloc hS.size _))
        (first
          | (go_at_call 93; refine (punhide CS _ hS).mono ?_; rintro e v1 ⟨rfl, b1⟩; replace hS := hS.trans (b1.mono hS.size))
          | (refine step_append_st _ (by rfl) _ _ (by rfl) w0.heap.size (.slice aa m9 ac) m9 at9 (by rfl) (punhide HOWN _ (hS.alloc hS.size _)) _ 1 ⟨tk, ts, tn⟩ (by rfl) (row1_new _ ⟨tk, ts, tn⟩ _) (punhide HM9) (punhide HZ _ (hS.alloc hS.size _)) ?_; intro g2 cap2 v4 hown2 hgrow hat hlt2; have h74 := punhide H74 _ _ (hS.alloc hS.size _) hgrow; have CE4 := punhide CE _ _ _ _ (hS.alloc hS.size _) hgrow hown2 hat)
          | (go_at_call 61; refine CE4.mono ?_; rintro e v5 ⟨rfl, hI5⟩))
      have HI5 := phide hI5
      clear hI5 h74 CE4 hown2 hgrow hat hlt2 hS
      go_wp2
      go_roundw
      case rel => exact ⟨k + 1, by go_num, hlt, HI5⟩
      case measure => simp [intOf]; omega
    case neg =>
      have hkn : k = N := by omega
      subst hkn
      go_wp2
      go_returns
      exact ⟨rfl, punhide HE _ (punhide HI)⟩
theorem node_all (p : Po) (pb : Nat) (w0 : World) (hP : PBox w0 pb p) (hml : p.marks.length ≤ 1000) (hpl : ∀ m ∈ p.marks, m.path.length ≤ 1000) (hmm : ∀ m ∈ p.marks, m.mask < 18446744073709551616) : ∀ n, NodeSpec p pb w0 n
  | 0 => fun _ _ _ _ _ _ _ _ _ _ _ _ _ _ _ _ _ ho => ho.elim
  | n + 1 => node_step p pb w0 hP hml hpl hmm n (node_all p pb w0 hP hml hpl hmm n)
end Go.Proofs.YtnagecbepidfiaaGreatDoor.Pol
/- What is proved here: what Label of package policy makes of a value, walked; conditions: the policy and the value lie, and not too many keys and kids anywhere. -/
namespace Go.Proofs.YtnagecbepidfiaaGreatDoor.Pol
set_option maxRecDepth 100000
open Go.RowKit Go.Proofs.YtnagecbepidfiaaGreatDoor.Nc Go.Proofs.YtnagecbepidfiaaGreatDoor.Np Go.Proofs.YtnagecbepidfiaaGreatDoor.Nq
set_option linter.unusedVariables false
set_option linter.unusedSimpArgs false

theorem box3 (w : World) (c1 c2 c3 : Array Value) (t1 t2 t3 : TypeId) (W : World) (hB : Below (((w.alloc (.cells c1 t1)).alloc (.cells c2 t2)).alloc (.cells c3 t3)).heap.size (((w.alloc (.cells c1 t1)).alloc (.cells c2 t2)).alloc (.cells c3 t3)) W) :
    (∀ r, W.cell? ⟨w.heap.size + 1, r, none⟩ = c2[r]?) ∧ (∀ r, W.cell? ⟨w.heap.size + 1 + 1, r, none⟩ = c3[r]?) ∧ (∀ r, W.frozen? ⟨w.heap.size + 1, r, none⟩ = false) ∧ (∀ r, W.frozen? ⟨w.heap.size + 1 + 1, r, none⟩ = false) ∧ w.heap.size + 1 + 1 < W.heap.size ∧
      Below (w.heap.size + 1) (w.alloc (.cells c1 t1)) W := by
  have e : (w.alloc (.cells c1 t1)).heap.size = w.heap.size + 1 := by simp
  have h := box2 (w.alloc (.cells c1 t1)) c2 c3 t2 t3 W hB
  rw [e] at h
  exact h
set_option maxHeartbeats 4000000 in
set_option maxRecDepth 1000000 in
theorem label_any (n : Nat) (hn : n ≤ 800) (pv v : Value) (p : Po) (t : Tr) (hml : p.marks.length ≤ 1000) (hpl : ∀ m ∈ p.marks, m.path.length ≤ 1000) (w : World) (hI : PolIn w pv p) (hl : Lies anyB w n v t) (hok : okT n t) :
    Calls Tryz.prog 19 #[pv, v] w fun e w' => ∃ v', e = .returned v' ∧ Lies (fun b => w.heap.size ≤ b) w' n v' (labelT p.marks n [] t) ∧ Below w.heap.size w w' := by
  have hmm : ∀ m ∈ p.marks, m.mask < 18446744073709551616 := by
    obtain ⟨_, _, _, _, _, _, _, _, _, _, hM⟩ := id hI
    exact hM.lt
  obtain ⟨h, ka, kn, kc, da, dn, dc, rfl⟩ := hl.shape
  obtain ⟨a, n1, c, b, m, d, tok, rfl, htok, hCt, hM⟩ := id hI
  have HCL := phide (fun W (hW : Below w.heap.size w W) => clone_own n _ t W (hl.below hW) hok)
  have hA1 : Below w.heap.size w (w.alloc (.cells #[.slice a n1 c, .slice b m d, .string tok, .int .i64 p.fuel, .int .i64 p.quota] 25)) := (Below.refl _ _).alloc (Nat.le_refl _) _
  have hPB : PBox (w.alloc (.cells #[.slice a n1 c, .slice b m d, .string tok, .int .i64 p.fuel, .int .i64 p.quota] 25)) w.heap.size p := ⟨a, n1, c, b, m, d, tok, Five.new w _ _ _ _ _ _, hI.step hA1⟩
  have NA := phide (node_all p w.heap.size _ hPB hml hpl hmm n)
  have HOK := phide hok
  clear hI hl htok hCt hM hPB hmm hpl hml hok hA1
  go_enter Tryz.func19, Tryz.ntmps19
  go_wp2_with fail
  refine (punhide HCL _ ((((Below.refl _ w).alloc (Nat.le_refl _) _).alloc (by simp) _).alloc (by simp; omega) _)).mono ?_
  rintro e W ⟨v', rfl, hown, hB1⟩
  obtain ⟨b1, b2, f1, f2, hz, hB⟩ := box3 w _ _ _ _ _ _ W hB1
  obtain ⟨hd4, ka4, kn4, kc4, da4, dn4, dc4, rfl⟩ := hown.lies.shape
  have y0 : W.cell? ⟨w.heap.size + 1, 0, none⟩ = some (.int .i64 h.k) := b1 0
  have y1 : W.cell? ⟨w.heap.size + 1, 1, none⟩ = some (.int .u64 (h.m : Int)) := b1 1
  have y2 : W.cell? ⟨w.heap.size + 1, 2, none⟩ = some (.bool h.ng) := b1 2
  have y3 : W.cell? ⟨w.heap.size + 1, 3, none⟩ = some (.string h.dg) := b1 3
  have y4 : W.cell? ⟨w.heap.size + 1, 4, none⟩ = some (.int .i64 h.sc) := b1 4
  have y5 : W.cell? ⟨w.heap.size + 1, 5, none⟩ = some (.string h.tx) := b1 5
  have y6 : W.cell? ⟨w.heap.size + 1, 6, none⟩ = some (.slice ka kn kc) := b1 6
  have y7 : W.cell? ⟨w.heap.size + 1, 7, none⟩ = some (.slice da dn dc) := b1 7
  have y8 : W.cell? ⟨w.heap.size + 1, 8, none⟩ = some (.int .i64 h.cd) := b1 8
  have HB1 := phide b1
  have HB2 := phide b2
  have HF2 := phide f2
  have HF1 := phide f1
  have HB := phide hB
  have HOWN := phide hown
  have HZ := phide hz
  clear b1 b2 f2 hB hB1 hown hz
  go_wp2_with fail
  change Calls _ _ _ (W.setCells (w.heap.size + 1) 0 [.int .i64 hd4.k, .int .u64 (hd4.m : Int), .bool hd4.ng, .string hd4.dg, .int .i64 hd4.sc, .string hd4.tx, .slice ka4 kn4 kc4, .slice da4 dn4 dc4, .int .i64 hd4.cd]) _
  have hres := res9 W (w.heap.size + 1) (.int .i64 hd4.k) (.int .u64 (hd4.m : Int)) (.bool hd4.ng) (.string hd4.dg) (.int .i64 hd4.sc) (.string hd4.tx) (.slice ka4 kn4 kc4) (.slice da4 dn4 dc4) (.int .i64 hd4.cd) (fun r hr => by
    rw [punhide HB1 r, Array.getElem?_eq_getElem (by simpa using hr)]; rfl)
  have hBV := setCells_below (punhide HB) (G := w.heap.size + 1) (Nat.le_refl _) 0 [.int .i64 hd4.k, .int .u64 (hd4.m : Int), .bool hd4.ng, .string hd4.dg, .int .i64 hd4.sc, .string hd4.tx, .slice ka4 kn4 kc4, .slice da4 dn4 dc4, .int .i64 hd4.cd]
  have hKV := setCells_kept (ok := fun b => b ≠ w.heap.size + 1) W (w.heap.size + 1) 0 [.int .i64 hd4.k, .int .u64 (hd4.m : Int), .bool hd4.ng, .string hd4.dg, .int .i64 hd4.sc, .string hd4.tx, .slice ka4 kn4 kc4, .slice da4 dn4 dc4, .int .i64 hd4.cd] (fun b hb e => hb e)
  have hFV : ∀ r, (W.setCells (w.heap.size + 1) 0 [.int .i64 hd4.k, .int .u64 (hd4.m : Int), .bool hd4.ng, .string hd4.dg, .int .i64 hd4.sc, .string hd4.tx, .slice ka4 kn4 kc4, .slice da4 dn4 dc4, .int .i64 hd4.cd]).frozen? ⟨w.heap.size + 1, r, none⟩ = false := fun r => by
    rw [World.frozen?_setCells]; exact punhide HF1 r
  generalize W.setCells (w.heap.size + 1) 0 [.int .i64 hd4.k, .int .u64 (hd4.m : Int), .bool hd4.ng, .string hd4.dg, .int .i64 hd4.sc, .string hd4.tx, .slice ka4 kn4 kc4, .slice da4 dn4 dc4, .int .i64 hd4.cd] = V at hres hBV hKV hFV ⊢
  have hz := punhide HZ
  have hsz : (w.alloc (.cells #[.slice a n1 c, .slice b m d, .string tok, .int .i64 p.fuel, .int .i64 p.quota] 25)).heap.size = w.heap.size + 1 := by simp
  have NA' := punhide NA
  unfold NodeSpec at NA'
  rw [hsz] at NA'
  have hVs := hKV.1
  refine (NA' (w.heap.size + 1 + 1 + 1) W.heap.size (w.heap.size + 1) 0 [] 0 (.slice none 0 0) t #[.int .i64 hd4.k, .int .u64 (hd4.m : Int), .bool hd4.ng, .string hd4.dg, .int .i64 hd4.sc, .string hd4.tx, .slice ka4 kn4 kc4, .slice da4 dn4 dc4, .int .i64 hd4.cd] V hBV (punhide HOK) rfl (by omega) (by omega) hVs (by
      have := Row9.of_cells (h := hd4) (kv := .slice ka4 kn4 kc4) (dv := .slice da4 dn4 dc4) (o := 0) (by simpa using hres)
      exact this) (((punhide HOWN).weak (lo' := w.heap.size + 1 + 1 + 1) (hi' := W.heap.size) (by simp) (Nat.le_refl _)).keep hKV (fun b h1 h2 => by omega))
    (by omega) (by omega) (by omega) hFV ⟨rfl, .inl ⟨rfl, rfl⟩⟩ (fun g e => by cases e)).mono ?_
  rintro e W5 ⟨rfl, n1, n2, n3, n4, n5, cs', n6, n7⟩
  obtain ⟨hd5, ka5, kn5, kc5, da5, dn5, dc5, e5⟩ := n7.lies.shape
  obtain rfl := Value.agg.inj e5
  have z2 : ∀ r, W5.cell? ⟨w.heap.size + 1 + 1, r, none⟩ = W.cell? ⟨w.heap.size + 1 + 1, r, none⟩ := fun r =>
    ((World.cell?_of_block (a := ⟨w.heap.size + 1 + 1, r, none⟩) (n2.2 (w.heap.size + 1 + 1) ⟨by omega, by omega, fun e => by cases e⟩ (by omega))).trans (World.cell?_of_block (a := ⟨w.heap.size + 1 + 1, r, none⟩) (hKV.2 (w.heap.size + 1 + 1) (by omega) (by omega))))
  have zf : ∀ r, W5.frozen? ⟨w.heap.size + 1 + 1, r, none⟩ = false := fun r =>
    ((World.frozen?_of_block (a := ⟨w.heap.size + 1 + 1, r, none⟩) (n2.2 (w.heap.size + 1 + 1) ⟨by omega, by omega, fun e => by cases e⟩ (by omega))).trans (World.frozen?_of_block (a := ⟨w.heap.size + 1 + 1, r, none⟩) (hKV.2 (w.heap.size + 1 + 1) (by omega) (by omega)))).trans (punhide HF2 r)
  have zs : ∀ r, r < 9 → (W5.cell? ⟨w.heap.size + 1 + 1, r, none⟩).isSome = true := fun r hr => by
    rw [z2, punhide HB2 r, Array.getElem?_eq_getElem (by simpa using hr)]; rfl
  obtain ⟨x0, x1, x2, x3, x4, x5, x6, x7, x8⟩ := Row9.cells (h := hd5) n6
  simp only [Nat.zero_add] at x0 x1 x2 x3 x4 x5 x6 x7 x8
  obtain ⟨g0, t0⟩ := isSome_some (zs 0 (by omega))
  obtain ⟨g1, t1⟩ := isSome_some (zs 1 (by omega))
  obtain ⟨g2, t2⟩ := isSome_some (zs 2 (by omega))
  obtain ⟨g3, t3⟩ := isSome_some (zs 3 (by omega))
  obtain ⟨g4, t4⟩ := isSome_some (zs 4 (by omega))
  obtain ⟨g5, t5⟩ := isSome_some (zs 5 (by omega))
  obtain ⟨g6, t6⟩ := isSome_some (zs 6 (by omega))
  obtain ⟨g7, t7⟩ := isSome_some (zs 7 (by omega))
  obtain ⟨g8, t8⟩ := isSome_some (zs 8 (by omega))
  have ZS := phide zs
  have HN7 := phide n7
  have HB5 := phide (And.intro (hBV.trans n1) hz)
  clear zs z2 n1 n2 n3 n4 n5 n6 n7 hKV hBV hFV hres hz hVs hsz NA' y0 y1 y2 y3 y4 y5 y6 y7 y8 f1
  go_wp2_with fail
  change bodyPost _ _ _ _ _ (W5.setCells (w.heap.size + 1 + 1) 0 [.int .i64 hd5.k, .int .u64 (hd5.m : Int), .bool hd5.ng, .string hd5.dg, .int .i64 hd5.sc, .string hd5.tx, .slice ka5 kn5 kc5, .slice da5 dn5 dc5, .int .i64 hd5.cd])
  have hres := res9 W5 (w.heap.size + 1 + 1) (.int .i64 hd5.k) (.int .u64 (hd5.m : Int)) (.bool hd5.ng) (.string hd5.dg) (.int .i64 hd5.sc) (.string hd5.tx) (.slice ka5 kn5 kc5) (.slice da5 dn5 dc5) (.int .i64 hd5.cd) (punhide ZS)
  obtain ⟨B5, hz⟩ := punhide HB5
  have hA1 : Below w.heap.size w (w.alloc (.cells #[.slice a n1 c, .slice b m d, .string tok, .int .i64 p.fuel, .int .i64 p.quota] 25)) := (Below.refl _ _).alloc (Nat.le_refl _) _
  have hB6 := setCells_below (hA1.trans (B5.mono (by omega))) (G := w.heap.size + 1 + 1) (by omega) 0 [.int .i64 hd5.k, .int .u64 (hd5.m : Int), .bool hd5.ng, .string hd5.dg, .int .i64 hd5.sc, .string hd5.tx, .slice ka5 kn5 kc5, .slice da5 dn5 dc5, .int .i64 hd5.cd]
  have hK6 := setCells_kept (ok := fun b => w.heap.size + 1 + 1 + 1 ≤ b ∧ b < W.heap.size) W5 (w.heap.size + 1 + 1) 0 [.int .i64 hd5.k, .int .u64 (hd5.m : Int), .bool hd5.ng, .string hd5.dg, .int .i64 hd5.sc, .string hd5.tx, .slice ka5 kn5 kc5, .slice da5 dn5 dc5, .int .i64 hd5.cd] (fun b hb e => by omega)
  generalize W5.setCells (w.heap.size + 1 + 1) 0 [.int .i64 hd5.k, .int .u64 (hd5.m : Int), .bool hd5.ng, .string hd5.dg, .int .i64 hd5.sc, .string hd5.tx, .slice ka5 kn5 kc5, .slice da5 dn5 dc5, .int .i64 hd5.cd] = V6 at hres hB6 hK6 ⊢
  obtain ⟨r0, r1, r2, r3, r4, r5, r6, r7, r8⟩ := hres
  refine bodyPost_ret (v := .agg #[.int .i64 hd5.k, .int .u64 (hd5.m : Int), .bool hd5.ng, .string hd5.dg, .int .i64 hd5.sc, .string hd5.tx, .slice ka5 kn5 kc5, .slice da5 dn5 dc5, .int .i64 hd5.cd]) (by simp [results, Tryz.results19, go_sem, r0, r1, r2, r3, r4, r5, r6, r7, r8]) rfl ⟨_, rfl, ?_, hB6⟩
  exact ((punhide HN7).lies.keep hK6 (fun b _ hb => hb)).weak (fun b _ hb => by omega)
end Go.Proofs.YtnagecbepidfiaaGreatDoor.Pol
/- What is proved here: plain facts on trees with the masks of their places. -/
namespace Go.Proofs.YtnagecbepidfiaaGreatDoor.Pol
set_option maxRecDepth 100000
open Go.RowKit Go.Proofs.YtnagecbepidfiaaGreatDoor.Nc Go.Proofs.YtnagecbepidfiaaGreatDoor.Np Go.Proofs.YtnagecbepidfiaaGreatDoor.Nq
set_option linter.unusedVariables false
set_option linter.unusedSimpArgs false

theorem label_bare (M : List Mk) : ∀ n a t, labelT M n a (bareT n t) = labelT M n a t
  | 0, _, _ => rfl
  | n + 1, a, t => by
    show Tr.mk _ _ = Tr.mk _ _
    have e1 : Tr.kd (bareT (n + 1) t) = (Tr.kd t).map (bareT n) := rfl
    have e2 : Tr.hd (bareT (n + 1) t) = { Tr.hd t with m := 0 } := rfl
    rw [e1, e2]
    congr 1
    apply List.ext_getElem
    · simp
    · intro i h1 h2
      rw [List.getElem_mapIdx, List.getElem_mapIdx, List.getElem_map, label_bare M n]
      rfl
theorem bare_label (M : List Mk) : ∀ n a t, bareT n (labelT M n a t) = bareT n t
  | 0, _, _ => rfl
  | n + 1, a, t => by
    show Tr.mk _ _ = Tr.mk _ _
    have e1 : Tr.kd (labelT M (n + 1) a t) = (Tr.kd t).mapIdx fun i k => labelT M n (a ++ [stepT (Tr.hd t) i]) k := rfl
    have e2 : Tr.hd (labelT M (n + 1) a t) = { Tr.hd t with m := maskL a M } := rfl
    rw [e1, e2]
    congr 1
    apply List.ext_getElem
    · simp
    · intro i h1 h2
      rw [List.getElem_map, List.getElem_map, List.getElem_mapIdx, bare_label M n]
theorem ok_label (M : List Mk) : ∀ n a t, okT n t → okT n (labelT M n a t)
  | 0, _, _, h => h
  | n + 1, a, t, h => by
    refine ⟨h.1, ?_, fun k hk => ?_⟩
    · show ((Tr.kd t).mapIdx _).length ≤ _
      rw [List.length_mapIdx]
      exact h.2.1
    · have hk2 : k ∈ (Tr.kd t).mapIdx fun i k => labelT M n (a ++ [stepT (Tr.hd t) i]) k := hk
      obtain ⟨i, hi, rfl⟩ := List.mem_iff_getElem.1 hk2
      have hi2 : i < (Tr.kd t).length := by rwa [List.length_mapIdx] at hi
      rw [List.getElem_mapIdx]
      exact ok_label M n _ _ (h.2.2 _ (List.getElem_mem hi2))
/-- All bits of x are in y. -/
def SubN (x y : Nat) : Prop := x ||| y = y
theorem SubN.refl (x : Nat) : SubN x x := Nat.or_self x
theorem SubN.trans {x y z : Nat} (h : SubN x y) (g : SubN y z) : SubN x z := by
  unfold SubN at *
  rw [← g, ← Nat.or_assoc, h]
theorem SubN.left {x y z : Nat} (h : SubN (x ||| y) z) : SubN x z := SubN.trans (show x ||| (x ||| y) = x ||| y by rw [← Nat.or_assoc, Nat.or_self]) h
theorem SubN.right {x y z : Nat} (h : SubN (x ||| y) z) : SubN y z := SubN.trans (show y ||| (x ||| y) = x ||| y by rw [Nat.or_comm x y, ← Nat.or_assoc, Nat.or_self]) h
theorem SubN.or {x y z : Nat} (h : SubN x z) (g : SubN y z) : SubN (x ||| y) z := by
  unfold SubN at *
  rw [Nat.or_assoc, g, h]
theorem fold_sub (f : Tr → Nat) (x : Nat) : ∀ (l : List Tr) (a : Nat), SubN (l.foldl (fun a k => a ||| f k) a) x ↔ SubN a x ∧ ∀ k, k ∈ l → SubN (f k) x
  | [], a => ⟨fun h => ⟨h, fun k hk => by cases hk⟩, fun h => h.1⟩
  | t :: r, a => by
    rw [List.foldl_cons, fold_sub f x r]
    constructor
    · rintro ⟨h1, h2⟩
      refine ⟨h1.left, fun k hk => ?_⟩
      rcases List.mem_cons.1 hk with rfl | hk
      · exact h1.right
      · exact h2 k hk
    · rintro ⟨h1, h2⟩
      exact ⟨h1.or (h2 t (by simp)), fun k hk => h2 k (by simp [hk])⟩
theorem deep_sub (n : Nat) (t : Tr) (x : Nat) : SubN (deepT (n + 1) t) x ↔ SubN (Tr.hd t).m x ∧ ∀ k, k ∈ Tr.kd t → SubN (deepT n k) x := fold_sub (deepT n) x (Tr.kd t) (Tr.hd t).m
theorem kid_label {M : List Mk} {n : Nat} {a : List Pm.St} {t k : Tr} (hk : k ∈ Tr.kd (labelT M (n + 1) a t)) : ∃ i, ∃ hi : i < (Tr.kd t).length, k = labelT M n (a ++ [stepT (Tr.hd t) i]) ((Tr.kd t)[i]'hi) := by
  have hk2 : k ∈ (Tr.kd t).mapIdx fun i k => labelT M n (a ++ [stepT (Tr.hd t) i]) k := hk
  obtain ⟨i, hi, rfl⟩ := List.mem_iff_getElem.1 hk2
  have hi2 : i < (Tr.kd t).length := by rwa [List.length_mapIdx] at hi
  exact ⟨i, hi2, by rw [List.getElem_mapIdx]⟩
theorem label_kid {M : List Mk} {n : Nat} {a : List Pm.St} {t : Tr} {i : Nat} (hi : i < (Tr.kd t).length) : labelT M n (a ++ [stepT (Tr.hd t) i]) ((Tr.kd t)[i]'hi) ∈ Tr.kd (labelT M (n + 1) a t) := by
  have e : labelT M n (a ++ [stepT (Tr.hd t) i]) ((Tr.kd t)[i]'hi) = ((Tr.kd t).mapIdx fun i k => labelT M n (a ++ [stepT (Tr.hd t) i]) k)[i]'(by simpa using hi) := by rw [List.getElem_mapIdx]
  rw [e]
  exact List.getElem_mem _
/-- Where every place has a mask within x, all masks are. -/
theorem deep_within (M : List Mk) (x : Nat) (h : ∀ a, SubN (maskL a M) x) : ∀ n a t, SubN (deepT n (labelT M n a t)) x
  | 0, _, _ => Nat.zero_or x
  | n + 1, a, t => (deep_sub n _ x).2 ⟨h a, fun k hk => by
      obtain ⟨i, hi, rfl⟩ := kid_label hk
      exact deep_within M x h n _ _⟩
theorem deep_nil (n : Nat) (a : List Pm.St) (t : Tr) : deepT n (labelT [] n a t) = 0 := by
  have h := deep_within [] 0 (fun a => Nat.or_self 0) n a t
  unfold SubN at h
  rwa [Nat.or_zero] at h
/-- With more marks there is at least as much. -/
theorem deep_more (M M' : List Mk) (h : ∀ a, SubN (maskL a M') (maskL a M)) : ∀ n a t, SubN (deepT n (labelT M' n a t)) (deepT n (labelT M n a t))
  | 0, _, _ => Nat.or_self 0
  | n + 1, a, t => by
    have key := (deep_sub n (labelT M (n + 1) a t) _).1 (SubN.refl _)
    refine (deep_sub n _ _).2 ⟨(h a).trans key.1, fun k hk => ?_⟩
    obtain ⟨i, hi, rfl⟩ := kid_label hk
    exact (deep_more M M' h n _ _).trans (key.2 _ (label_kid hi))
theorem mask_tail (M : List Mk) (a : List Pm.St) : SubN (maskL a (M.drop 1)) (maskL a M) := by
  cases M with
  | nil => exact Nat.or_self _
  | cons m r =>
    show maskL a r ||| ((if _ then _ else _) ||| maskL a r) = _ ||| maskL a r
    have e : ∀ x y : Nat, y ||| (x ||| y) = x ||| y := fun x y => by rw [Nat.or_comm x y, ← Nat.or_assoc, Nat.or_self]
    exact e _ _
end Go.Proofs.YtnagecbepidfiaaGreatDoor.Pol
/- What is proved here: the document's own Deep, and all and joined of the laws, walked; conditions: the values lie, and not too many keys and kids anywhere. -/
namespace Go.Proofs.YtnagecbepidfiaaGreatDoor.Pol
set_option maxRecDepth 100000
open Go.RowKit Go.Proofs.YtnagecbepidfiaaGreatDoor.Nc Go.Proofs.YtnagecbepidfiaaGreatDoor.Np Go.Proofs.YtnagecbepidfiaaGreatDoor.Nq
set_option linter.unusedVariables false
set_option linter.unusedSimpArgs false

theorem deep_take {n : Nat} {a : Nat} {l : List Tr} {k : Nat} (h : k < l.length) : (l.take (k + 1)).foldl (fun a k => a ||| deepT n k) a = (l.take k).foldl (fun a k => a ||| deepT n k) a ||| deepT n (l[k]'h) := by
  rw [List.take_succ_eq_append_getElem h, List.foldl_append]
  rfl
set_option maxHeartbeats 4000000 in
theorem rdeep_any : ∀ (n : Nat) (v : Value) (t : Tr) (w : World), Lies anyB w n v t → okT n t →
    Calls Tryz.prog 22 #[v] w fun e w' => e = .returned (.int .u64 (deepT n t : Int)) ∧ deepT n t < 18446744073709551616 ∧ Below w.heap.size w w'
  | 0, _, _, _, h, _ => h.elim
  | n + 1, v, t, w, hl, ho => by
    obtain ⟨h, l, ka, kc, da, dc, rfl, rfl, hm64, hkc, hdc, hks, hkid⟩ := hl.node
    have hlen : l.length ≤ 1000000 := ho.2.1
    have IH := phide (fun (W : World) (v : Value) (t : Tr) (ht : t ∈ l) (hv : Lies anyB W n v t) => rdeep_any n v t W hv (ho.2.2 t ht))
    have HKID := phide hkid
    obtain ⟨q, hq⟩ : ∃ q, deepT (n + 1) (Tr.mk h l) = q := ⟨_, rfl⟩
    have HQ : Hid (l.foldl (fun a k => a ||| deepT n k) h.m = q) := hq
    rw [hq]
    have hB1 : Below w.heap.size w (w.alloc (.cells #[.int .i64 h.k, .int .u64 (h.m : Int), .bool h.ng, .string h.dg, .int .i64 h.sc, .string h.tx, .slice ka h.ks.length kc, .slice da l.length dc, .int .i64 h.cd] 42)) := (Below.refl _ _).alloc (Nat.le_refl _) _
    have x1 : (w.alloc (.cells #[.int .i64 h.k, .int .u64 (h.m : Int), .bool h.ng, .string h.dg, .int .i64 h.sc, .string h.tx, .slice ka h.ks.length kc, .slice da l.length dc, .int .i64 h.cd] 42)).cell? ⟨w.heap.size, 1, none⟩ = some (.int .u64 (h.m : Int)) := World.cell?_alloc_at _ _ _ _ rfl
    have x7 : (w.alloc (.cells #[.int .i64 h.k, .int .u64 (h.m : Int), .bool h.ng, .string h.dg, .int .i64 h.sc, .string h.tx, .slice ka h.ks.length kc, .slice da l.length dc, .int .i64 h.cd] 42)).cell? ⟨w.heap.size, 7, none⟩ = some (.slice da l.length dc) := World.cell?_alloc_at _ _ _ _ rfl
    have hlt0 : w.heap.size < (w.alloc (.cells #[.int .i64 h.k, .int .u64 (h.m : Int), .bool h.ng, .string h.dg, .int .i64 h.sc, .string h.tx, .slice ka h.ks.length kc, .slice da l.length dc, .int .i64 h.cd] 42)).heap.size := by simp
    have HBB := phide hB1
    clear hl ho hkid hq hks hkc hdc
    go_enter Tryz.func22, Tryz.ntmps22
    go_upto_region 2 with fail
    have hB1 := punhide HBB
    clear HBB
    generalize w.alloc (.cells #[.int .i64 h.k, .int .u64 (h.m : Int), .bool h.ng, .string h.dg, .int .i64 h.sc, .string h.tx, .slice ka h.ks.length kc, .slice da l.length dc, .int .i64 h.cd] 42) = w1 at hB1 x1 x7 hlt0 ⊢
    go_wp2_with fail
    go_loopw [3, 4] (fun acc i wr => ∃ (k A : Nat), i = .int .i64 (k : Int) ∧ acc = .int .u64 (A : Int) ∧ k ≤ l.length ∧ Hid ((l.take k).foldl (fun a k => a ||| deepT n k) h.m = A) ∧ A < 18446744073709551616 ∧ Below w1.heap.size w1 wr) (fun _ i _ => l.length - (intOf i).toNat)
    case atStart => exact ⟨0, h.m, rfl, rfl, Nat.zero_le _, phide rfl, hm64, Below.refl _ _⟩
    case round =>
      obtain ⟨k, A, rfl, rfl, hk, HK, hA, hBr⟩ := hrel
      have y7 := (hBr.cell (p := ⟨w.heap.size, 7, none⟩) hlt0).trans x7
      by_cases hlt : k < l.length
      case pos =>
        have hBw : Below w.heap.size w wr := hB1.trans (hBr.mono hB1.size)
        obtain ⟨b, o, hd2, ka3, kn3, kc3, da3, dn3, dc3, hao, hb, ⟨c0, c1, c2, c3, c4, c5, c6, c7, c8⟩, hlies⟩ := kid_at (punhide HKID) hBw k hlt
        subst hao
        have C := punhide IH wr _ _ (List.getElem_mem hlt) hlies
        have HT := phide (deep_take (n := n) (a := h.m) hlt)
        obtain ⟨D, hD⟩ : ∃ D, deepT n (l[k]'hlt) = D := ⟨_, rfl⟩
        rw [hD] at C HT
        have HBR := phide hBr
        have HAA := phide hA
        have hi1 : (k : Int) < (l.length : Int) := by omega
        clear hD hlies hBr hBw hA
        go_wp2_with fail
        refine C.mono ?_
        rintro e w2 ⟨rfl, hD64, b2⟩
        have hor : bits BinOp.or IntKind.u64 (A : Int) (D : Int) = ((A ||| D : Nat) : Int) := u64_or_nat _ _ (punhide HAA) hD64
        obtain ⟨A2, hA2⟩ : ∃ A2, A ||| D = A2 := ⟨_, rfl⟩
        rw [hA2] at hor
        have HK2 : Hid ((l.take (k + 1)).foldl (fun a k => a ||| deepT n k) h.m = A2) := phide ((punhide HT).trans (by rw [punhide HK]; exact hA2))
        have HA2 : Hid (A2 < 18446744073709551616) := phide (by rw [← hA2]; exact Nat.or_lt_two_pow (n := 64) (punhide HAA) hD64)
        have HB2 := phide ((punhide HBR).trans (b2.mono (punhide HBR).size))
        clear C hA2 hD64 b2 c0 c1 c2 c3 c4 c5 c6 c7 c8 y7
        go_wp2
        go_roundw
        case rel => exact ⟨k + 1, A2, by go_num, rfl, hlt, HK2, punhide HA2, punhide HB2⟩
        case measure => simp [intOf]; omega
      case neg =>
        have hkl : k = l.length := by omega
        have hAq : A = q := by
          rw [← punhide HK, List.take_of_length_le (by omega)]
          exact punhide HQ
        subst hAq
        have hd : decide ((k : Int) < (l.length : Int)) = false := decide_eq_false (by omega)
        go_wp2
        go_ret
        exact ⟨rfl, hA, hB1.trans (hBr.mono hB1.size)⟩
/-- Every mask is 1. -/
def oneT : Nat → Tr → Prop
  | 0, _ => True
  | n + 1, t => (Tr.hd t).m = 1 ∧ ∀ k, k ∈ Tr.kd t → oneT n k
set_option maxHeartbeats 4000000 in
theorem all_any : ∀ (n : Nat) (v : Value) (t : Tr) (w : World), Lies anyB w n v t → okT n t → oneT n t →
    Calls Tryz.prog 27 #[v] w fun e w' => e = .returned (.bool true) ∧ Below w.heap.size w w'
  | 0, _, _, _, h, _, _ => h.elim
  | n + 1, v, t, w, hl, ho, h1 => by
    obtain ⟨h, l, ka, kc, da, dc, rfl, rfl, hm64, hkc, hdc, hks, hkid⟩ := hl.node
    have hlen : l.length ≤ 1000000 := ho.2.1
    have hm1 : h.m = 1 := h1.1
    have IH := phide (fun (W : World) (v : Value) (t : Tr) (ht : t ∈ l) (hv : Lies anyB W n v t) => all_any n v t W hv (ho.2.2 t ht) (h1.2 t ht))
    have HKID := phide hkid
    have hB1 : Below w.heap.size w (w.alloc (.cells #[.int .i64 h.k, .int .u64 (h.m : Int), .bool h.ng, .string h.dg, .int .i64 h.sc, .string h.tx, .slice ka h.ks.length kc, .slice da l.length dc, .int .i64 h.cd] 42)) := (Below.refl _ _).alloc (Nat.le_refl _) _
    have x1 : (w.alloc (.cells #[.int .i64 h.k, .int .u64 (h.m : Int), .bool h.ng, .string h.dg, .int .i64 h.sc, .string h.tx, .slice ka h.ks.length kc, .slice da l.length dc, .int .i64 h.cd] 42)).cell? ⟨w.heap.size, 1, none⟩ = some (.int .u64 1) := by rw [World.cell?_alloc_at _ _ _ _ rfl, hm1]; rfl
    have x7 : (w.alloc (.cells #[.int .i64 h.k, .int .u64 (h.m : Int), .bool h.ng, .string h.dg, .int .i64 h.sc, .string h.tx, .slice ka h.ks.length kc, .slice da l.length dc, .int .i64 h.cd] 42)).cell? ⟨w.heap.size, 7, none⟩ = some (.slice da l.length dc) := World.cell?_alloc_at _ _ _ _ rfl
    have hlt0 : w.heap.size < (w.alloc (.cells #[.int .i64 h.k, .int .u64 (h.m : Int), .bool h.ng, .string h.dg, .int .i64 h.sc, .string h.tx, .slice ka h.ks.length kc, .slice da l.length dc, .int .i64 h.cd] 42)).heap.size := by simp
    have HBB := phide hB1
    clear hl ho hkid hks hkc hdc h1 hm1
    go_enter Tryz.func27, Tryz.ntmps27
    go_upto_region 2 with fail
    have hB1 := punhide HBB
    clear HBB
    generalize w.alloc (.cells #[.int .i64 h.k, .int .u64 (h.m : Int), .bool h.ng, .string h.dg, .int .i64 h.sc, .string h.tx, .slice ka h.ks.length kc, .slice da l.length dc, .int .i64 h.cd] 42) = w1 at hB1 x1 x7 hlt0 ⊢
    go_wp2_with fail
    go_loopw [3, 4] (fun acc i wr => ∃ (k : Nat), i = .int .i64 (k : Int) ∧ acc = .bool true ∧ k ≤ l.length ∧ Below w1.heap.size w1 wr) (fun _ i _ => l.length - (intOf i).toNat)
    case atStart => exact ⟨0, rfl, rfl, Nat.zero_le _, Below.refl _ _⟩
    case round =>
      obtain ⟨k, rfl, rfl, hk, hBr⟩ := hrel
      have y7 := (hBr.cell (p := ⟨w.heap.size, 7, none⟩) hlt0).trans x7
      by_cases hlt : k < l.length
      case pos =>
        have hBw : Below w.heap.size w wr := hB1.trans (hBr.mono hB1.size)
        obtain ⟨b, o, hd2, ka3, kn3, kc3, da3, dn3, dc3, hao, hb, ⟨c0, c1, c2, c3, c4, c5, c6, c7, c8⟩, hlies⟩ := kid_at (punhide HKID) hBw k hlt
        subst hao
        have C := punhide IH wr _ _ (List.getElem_mem hlt) hlies
        have HBR := phide hBr
        have hi1 : (k : Int) < (l.length : Int) := by omega
        clear hlies hBr hBw
        go_wp2_with fail
        refine C.mono ?_
        rintro e w2 ⟨rfl, b2⟩
        have HB2 := phide ((punhide HBR).trans (b2.mono (punhide HBR).size))
        clear C b2 c0 c1 c2 c3 c4 c5 c6 c7 c8 y7
        go_wp2
        go_roundw
        case rel => exact ⟨k + 1, by go_num, rfl, hlt, punhide HB2⟩
        case measure => simp [intOf]; omega
      case neg =>
        have hd : decide ((k : Int) < (l.length : Int)) = false := decide_eq_false (by omega)
        go_wp2
        go_ret
        exact ⟨rfl, hB1.trans (hBr.mono hB1.size)⟩
end Go.Proofs.YtnagecbepidfiaaGreatDoor.Pol
/- What is proved here: joined of the laws, walked; conditions: the values lie, and not too many keys and kids anywhere. Written by joined_gen.py. -/
namespace Go.Proofs.YtnagecbepidfiaaGreatDoor.Pol
set_option maxRecDepth 100000
open Go.RowKit Go.Proofs.YtnagecbepidfiaaGreatDoor.Nc Go.Proofs.YtnagecbepidfiaaGreatDoor.Np Go.Proofs.YtnagecbepidfiaaGreatDoor.Nq
set_option linter.unusedVariables false
set_option linter.unusedSimpArgs false

/-- The third tree has the masks of the two others, node by node. -/
def joinT : Nat → Tr → Tr → Tr → Prop
  | 0, _, _, _ => True
  | n + 1, a, b, c => (Tr.hd c).m = (Tr.hd a).m ||| (Tr.hd b).m ∧ (Tr.kd a).length = (Tr.kd c).length ∧ (Tr.kd b).length = (Tr.kd c).length ∧
      ∀ i, ∀ h1 : i < (Tr.kd a).length, ∀ h2 : i < (Tr.kd b).length, ∀ h3 : i < (Tr.kd c).length, joinT n ((Tr.kd a)[i]'h1) ((Tr.kd b)[i]'h2) ((Tr.kd c)[i]'h3)
set_option maxHeartbeats 8000000 in
theorem joined_any : ∀ (n : Nat) (vA vB vC : Value) (tA tB tC : Tr) (w : World), Lies anyB w n vA tA → Lies anyB w n vB tB → Lies anyB w n vC tC → okT n tC → joinT n tA tB tC →
    Calls Tryz.prog 26 #[vA, vB, vC] w fun e w' => e = .returned (.bool true) ∧ Below w.heap.size w w'
  | 0, _, _, _, _, _, _, _, h, _, _, _, _ => h.elim
  | n + 1, vA, vB, vC, tA, tB, tC, w, hlA, hlB, hlC, ho, hj => by
    obtain ⟨hA, lA, kaA, kcA, daA, dcA, rfl, rfl, hmA, hkcA, hdcA, hksA, hkidA⟩ := hlA.node
    obtain ⟨hB, lB, kaB, kcB, daB, dcB, rfl, rfl, hmB, hkcB, hdcB, hksB, hkidB⟩ := hlB.node
    obtain ⟨hC, lC, kaC, kcC, daC, dcC, rfl, rfl, hmC, hkcC, hdcC, hksC, hkidC⟩ := hlC.node
    obtain ⟨j1, j2, j3, j4⟩ := hj
    simp only [Tr.hd_mk, Tr.kd_mk] at j1 j2 j3 j4
    have hlen : lC.length ≤ 1000000 := ho.2.1
    have IH := phide (fun (W : World) (vA vB vC : Value) (i : Nat) (h1 : i < lA.length) (h2 : i < lB.length) (h3 : i < lC.length) (hA : Lies anyB W n vA (lA[i]'h1)) (hB : Lies anyB W n vB (lB[i]'h2)) (hC : Lies anyB W n vC (lC[i]'h3)) => joined_any n vA vB vC _ _ _ W hA hB hC (ho.2.2 _ (List.getElem_mem h3)) (j4 i h1 h2 h3))
    have hor : bits BinOp.or IntKind.u64 (hA.m : Int) (hB.m : Int) = (hC.m : Int) := by rw [j1]; exact u64_or_nat _ _ hmA hmB
    have HKA := phide hkidA
    have HKB := phide hkidB
    have HKC := phide hkidC
    obtain ⟨N, hN⟩ : ∃ N, lC.length = N := ⟨_, rfl⟩
    have HN := phide (And.intro (j2.trans hN) (And.intro (j3.trans hN) hN))
    have hB1 : Below w.heap.size w (((w.alloc (.cells #[.int .i64 hA.k, .int .u64 (hA.m : Int), .bool hA.ng, .string hA.dg, .int .i64 hA.sc, .string hA.tx, .slice kaA hA.ks.length kcA, .slice daA lA.length dcA, .int .i64 hA.cd] 42)).alloc (.cells #[.int .i64 hB.k, .int .u64 (hB.m : Int), .bool hB.ng, .string hB.dg, .int .i64 hB.sc, .string hB.tx, .slice kaB hB.ks.length kcB, .slice daB lB.length dcB, .int .i64 hB.cd] 42)).alloc (.cells #[.int .i64 hC.k, .int .u64 (hC.m : Int), .bool hC.ng, .string hC.dg, .int .i64 hC.sc, .string hC.tx, .slice kaC hC.ks.length kcC, .slice daC lC.length dcC, .int .i64 hC.cd] 42)) := (((Below.refl _ _).alloc (Nat.le_refl _) _).alloc (by simp) _).alloc (by simp; omega) _
    have xA1 : (((w.alloc (.cells #[.int .i64 hA.k, .int .u64 (hA.m : Int), .bool hA.ng, .string hA.dg, .int .i64 hA.sc, .string hA.tx, .slice kaA hA.ks.length kcA, .slice daA lA.length dcA, .int .i64 hA.cd] 42)).alloc (.cells #[.int .i64 hB.k, .int .u64 (hB.m : Int), .bool hB.ng, .string hB.dg, .int .i64 hB.sc, .string hB.tx, .slice kaB hB.ks.length kcB, .slice daB lB.length dcB, .int .i64 hB.cd] 42)).alloc (.cells #[.int .i64 hC.k, .int .u64 (hC.m : Int), .bool hC.ng, .string hC.dg, .int .i64 hC.sc, .string hC.tx, .slice kaC hC.ks.length kcC, .slice daC lC.length dcC, .int .i64 hC.cd] 42)).cell? ⟨w.heap.size, 1, none⟩ = some (.int .u64 (hA.m : Int)) := by rw [World.cell?_alloc_past _ _ _ (by simp; omega), World.cell?_alloc_past _ _ _ (by simp)]; exact World.cell?_alloc_at _ _ _ _ rfl
    have xA7 : (((w.alloc (.cells #[.int .i64 hA.k, .int .u64 (hA.m : Int), .bool hA.ng, .string hA.dg, .int .i64 hA.sc, .string hA.tx, .slice kaA hA.ks.length kcA, .slice daA lA.length dcA, .int .i64 hA.cd] 42)).alloc (.cells #[.int .i64 hB.k, .int .u64 (hB.m : Int), .bool hB.ng, .string hB.dg, .int .i64 hB.sc, .string hB.tx, .slice kaB hB.ks.length kcB, .slice daB lB.length dcB, .int .i64 hB.cd] 42)).alloc (.cells #[.int .i64 hC.k, .int .u64 (hC.m : Int), .bool hC.ng, .string hC.dg, .int .i64 hC.sc, .string hC.tx, .slice kaC hC.ks.length kcC, .slice daC lC.length dcC, .int .i64 hC.cd] 42)).cell? ⟨w.heap.size, 7, none⟩ = some (.slice daA N dcA) := by rw [← j2.trans hN]; rw [World.cell?_alloc_past _ _ _ (by simp; omega), World.cell?_alloc_past _ _ _ (by simp)]; exact World.cell?_alloc_at _ _ _ _ rfl
    have xB1 : (((w.alloc (.cells #[.int .i64 hA.k, .int .u64 (hA.m : Int), .bool hA.ng, .string hA.dg, .int .i64 hA.sc, .string hA.tx, .slice kaA hA.ks.length kcA, .slice daA lA.length dcA, .int .i64 hA.cd] 42)).alloc (.cells #[.int .i64 hB.k, .int .u64 (hB.m : Int), .bool hB.ng, .string hB.dg, .int .i64 hB.sc, .string hB.tx, .slice kaB hB.ks.length kcB, .slice daB lB.length dcB, .int .i64 hB.cd] 42)).alloc (.cells #[.int .i64 hC.k, .int .u64 (hC.m : Int), .bool hC.ng, .string hC.dg, .int .i64 hC.sc, .string hC.tx, .slice kaC hC.ks.length kcC, .slice daC lC.length dcC, .int .i64 hC.cd] 42)).cell? ⟨w.heap.size + 1, 1, none⟩ = some (.int .u64 (hB.m : Int)) := by rw [World.cell?_alloc_past _ _ _ (by simp)]; exact World.cell?_alloc_at _ _ _ _ (by simp)
    have xB7 : (((w.alloc (.cells #[.int .i64 hA.k, .int .u64 (hA.m : Int), .bool hA.ng, .string hA.dg, .int .i64 hA.sc, .string hA.tx, .slice kaA hA.ks.length kcA, .slice daA lA.length dcA, .int .i64 hA.cd] 42)).alloc (.cells #[.int .i64 hB.k, .int .u64 (hB.m : Int), .bool hB.ng, .string hB.dg, .int .i64 hB.sc, .string hB.tx, .slice kaB hB.ks.length kcB, .slice daB lB.length dcB, .int .i64 hB.cd] 42)).alloc (.cells #[.int .i64 hC.k, .int .u64 (hC.m : Int), .bool hC.ng, .string hC.dg, .int .i64 hC.sc, .string hC.tx, .slice kaC hC.ks.length kcC, .slice daC lC.length dcC, .int .i64 hC.cd] 42)).cell? ⟨w.heap.size + 1, 7, none⟩ = some (.slice daB N dcB) := by rw [← j3.trans hN]; rw [World.cell?_alloc_past _ _ _ (by simp)]; exact World.cell?_alloc_at _ _ _ _ (by simp)
    have xC1 : (((w.alloc (.cells #[.int .i64 hA.k, .int .u64 (hA.m : Int), .bool hA.ng, .string hA.dg, .int .i64 hA.sc, .string hA.tx, .slice kaA hA.ks.length kcA, .slice daA lA.length dcA, .int .i64 hA.cd] 42)).alloc (.cells #[.int .i64 hB.k, .int .u64 (hB.m : Int), .bool hB.ng, .string hB.dg, .int .i64 hB.sc, .string hB.tx, .slice kaB hB.ks.length kcB, .slice daB lB.length dcB, .int .i64 hB.cd] 42)).alloc (.cells #[.int .i64 hC.k, .int .u64 (hC.m : Int), .bool hC.ng, .string hC.dg, .int .i64 hC.sc, .string hC.tx, .slice kaC hC.ks.length kcC, .slice daC lC.length dcC, .int .i64 hC.cd] 42)).cell? ⟨w.heap.size + 1 + 1, 1, none⟩ = some (.int .u64 (hC.m : Int)) := by exact World.cell?_alloc_at _ _ _ _ (by simp)
    have xC7 : (((w.alloc (.cells #[.int .i64 hA.k, .int .u64 (hA.m : Int), .bool hA.ng, .string hA.dg, .int .i64 hA.sc, .string hA.tx, .slice kaA hA.ks.length kcA, .slice daA lA.length dcA, .int .i64 hA.cd] 42)).alloc (.cells #[.int .i64 hB.k, .int .u64 (hB.m : Int), .bool hB.ng, .string hB.dg, .int .i64 hB.sc, .string hB.tx, .slice kaB hB.ks.length kcB, .slice daB lB.length dcB, .int .i64 hB.cd] 42)).alloc (.cells #[.int .i64 hC.k, .int .u64 (hC.m : Int), .bool hC.ng, .string hC.dg, .int .i64 hC.sc, .string hC.tx, .slice kaC hC.ks.length kcC, .slice daC lC.length dcC, .int .i64 hC.cd] 42)).cell? ⟨w.heap.size + 1 + 1, 7, none⟩ = some (.slice daC N dcC) := by rw [← hN]; exact World.cell?_alloc_at _ _ _ _ (by simp)
    have hlt0 : w.heap.size + 1 + 1 < (((w.alloc (.cells #[.int .i64 hA.k, .int .u64 (hA.m : Int), .bool hA.ng, .string hA.dg, .int .i64 hA.sc, .string hA.tx, .slice kaA hA.ks.length kcA, .slice daA lA.length dcA, .int .i64 hA.cd] 42)).alloc (.cells #[.int .i64 hB.k, .int .u64 (hB.m : Int), .bool hB.ng, .string hB.dg, .int .i64 hB.sc, .string hB.tx, .slice kaB hB.ks.length kcB, .slice daB lB.length dcB, .int .i64 hB.cd] 42)).alloc (.cells #[.int .i64 hC.k, .int .u64 (hC.m : Int), .bool hC.ng, .string hC.dg, .int .i64 hC.sc, .string hC.tx, .slice kaC hC.ks.length kcC, .slice daC lC.length dcC, .int .i64 hC.cd] 42)).heap.size := by simp
    have HBB := phide hB1
    rw [j2.trans hN, j3.trans hN, hN] at HBB xA1 xA7 xB1 xB7 xC1 xC7 hlt0 ⊢
    clear hB1 hlA hlB hlC ho hkidA hkidB hkidC hksA hksB hksC hkcA hkcB hkcC hdcA hdcB hdcC j1 j2 j3 j4
    go_enter Tryz.func26, Tryz.ntmps26
    go_upto_region 1 with fail
    have hB1 := punhide HBB
    clear HBB
    generalize ((w.alloc (.cells #[.int .i64 hA.k, .int .u64 (hA.m : Int), .bool hA.ng, .string hA.dg, .int .i64 hA.sc, .string hA.tx, .slice kaA hA.ks.length kcA, .slice daA N dcA, .int .i64 hA.cd] 42)).alloc (.cells #[.int .i64 hB.k, .int .u64 (hB.m : Int), .bool hB.ng, .string hB.dg, .int .i64 hB.sc, .string hB.tx, .slice kaB hB.ks.length kcB, .slice daB N dcB, .int .i64 hB.cd] 42)).alloc (.cells #[.int .i64 hC.k, .int .u64 (hC.m : Int), .bool hC.ng, .string hC.dg, .int .i64 hC.sc, .string hC.tx, .slice kaC hC.ks.length kcC, .slice daC N dcC, .int .i64 hC.cd] 42) = w1 at hB1 xA1 xA7 xB1 xB7 xC1 xC7 hlt0 ⊢
    go_wp2_with fail
    go_loopw [7] (fun i wr => ∃ k : Nat, i = .int .i64 (k : Int) ∧ k ≤ N ∧ Below w1.heap.size w1 wr) (fun i _ => N - (intOf i).toNat)
    case atStart => exact ⟨0, rfl, Nat.zero_le _, Below.refl _ _⟩
    case round =>
      obtain ⟨k, rfl, hk, hBr⟩ := hrel
      have yA := (hBr.cell (p := ⟨w.heap.size, 7, none⟩) (by show w.heap.size < _; omega)).trans xA7
      have yB := (hBr.cell (p := ⟨w.heap.size + 1, 7, none⟩) (by show w.heap.size + 1 < _; omega)).trans xB7
      have yC := (hBr.cell (p := ⟨w.heap.size + 1 + 1, 7, none⟩) hlt0).trans xC7
      by_cases hlt : k < N
      case pos =>
        have hBw : Below w.heap.size w wr := hB1.trans (hBr.mono hB1.size)
        obtain ⟨eA, eB, eC⟩ := punhide HN
        obtain ⟨bA, oA, hdA, kaA2, knA2, kcA2, daA2, dnA2, dcA2, haA, hbA, ⟨cA0, cA1, cA2, cA3, cA4, cA5, cA6, cA7, cA8⟩, hliesA⟩ := kid_at (punhide HKA) hBw k (by omega)
        subst haA
        obtain ⟨bB, oB, hdB, kaB2, knB2, kcB2, daB2, dnB2, dcB2, haB, hbB, ⟨cB0, cB1, cB2, cB3, cB4, cB5, cB6, cB7, cB8⟩, hliesB⟩ := kid_at (punhide HKB) hBw k (by omega)
        subst haB
        obtain ⟨bC, oC, hdC, kaC2, knC2, kcC2, daC2, dnC2, dcC2, haC, hbC, ⟨cC0, cC1, cC2, cC3, cC4, cC5, cC6, cC7, cC8⟩, hliesC⟩ := kid_at (punhide HKC) hBw k (by omega)
        subst haC
        have hzz := hBw.size
        have hrz := hBr.size
        have HSB : Hid (∀ W, Below wr.heap.size wr W → (W.cell? ⟨w.heap.size, 7, none⟩ = some (.slice (some ⟨bA, oA, none⟩) N dcA) ∧ W.cell? ⟨bA, oA + k * 9, none⟩ = some (.int .i64 hdA.k) ∧ W.cell? ⟨bA, oA + k * 9 + 1, none⟩ = some (.int .u64 (hdA.m : Int)) ∧ W.cell? ⟨bA, oA + k * 9 + 2, none⟩ = some (.bool hdA.ng) ∧ W.cell? ⟨bA, oA + k * 9 + 3, none⟩ = some (.string hdA.dg) ∧ W.cell? ⟨bA, oA + k * 9 + 4, none⟩ = some (.int .i64 hdA.sc) ∧ W.cell? ⟨bA, oA + k * 9 + 5, none⟩ = some (.string hdA.tx) ∧ W.cell? ⟨bA, oA + k * 9 + 6, none⟩ = some (.slice kaA2 knA2 kcA2) ∧ W.cell? ⟨bA, oA + k * 9 + 7, none⟩ = some (.slice daA2 dnA2 dcA2) ∧ W.cell? ⟨bA, oA + k * 9 + 8, none⟩ = some (.int .i64 hdA.cd)) ∧ (W.cell? ⟨w.heap.size + 1, 7, none⟩ = some (.slice (some ⟨bB, oB, none⟩) N dcB) ∧ W.cell? ⟨bB, oB + k * 9, none⟩ = some (.int .i64 hdB.k) ∧ W.cell? ⟨bB, oB + k * 9 + 1, none⟩ = some (.int .u64 (hdB.m : Int)) ∧ W.cell? ⟨bB, oB + k * 9 + 2, none⟩ = some (.bool hdB.ng) ∧ W.cell? ⟨bB, oB + k * 9 + 3, none⟩ = some (.string hdB.dg) ∧ W.cell? ⟨bB, oB + k * 9 + 4, none⟩ = some (.int .i64 hdB.sc) ∧ W.cell? ⟨bB, oB + k * 9 + 5, none⟩ = some (.string hdB.tx) ∧ W.cell? ⟨bB, oB + k * 9 + 6, none⟩ = some (.slice kaB2 knB2 kcB2) ∧ W.cell? ⟨bB, oB + k * 9 + 7, none⟩ = some (.slice daB2 dnB2 dcB2) ∧ W.cell? ⟨bB, oB + k * 9 + 8, none⟩ = some (.int .i64 hdB.cd)) ∧ (W.cell? ⟨w.heap.size + 1 + 1, 7, none⟩ = some (.slice (some ⟨bC, oC, none⟩) N dcC) ∧ W.cell? ⟨bC, oC + k * 9, none⟩ = some (.int .i64 hdC.k) ∧ W.cell? ⟨bC, oC + k * 9 + 1, none⟩ = some (.int .u64 (hdC.m : Int)) ∧ W.cell? ⟨bC, oC + k * 9 + 2, none⟩ = some (.bool hdC.ng) ∧ W.cell? ⟨bC, oC + k * 9 + 3, none⟩ = some (.string hdC.dg) ∧ W.cell? ⟨bC, oC + k * 9 + 4, none⟩ = some (.int .i64 hdC.sc) ∧ W.cell? ⟨bC, oC + k * 9 + 5, none⟩ = some (.string hdC.tx) ∧ W.cell? ⟨bC, oC + k * 9 + 6, none⟩ = some (.slice kaC2 knC2 kcC2) ∧ W.cell? ⟨bC, oC + k * 9 + 7, none⟩ = some (.slice daC2 dnC2 dcC2) ∧ W.cell? ⟨bC, oC + k * 9 + 8, none⟩ = some (.int .i64 hdC.cd))) := phide fun W hW => ⟨⟨(hW.cell (p := ⟨w.heap.size, 7, none⟩) (by show w.heap.size < _; omega)).trans yA, (hW.cell (p := ⟨bA, oA + k * 9, none⟩) (Nat.lt_of_lt_of_le hbA hzz)).trans cA0, (hW.cell (p := ⟨bA, oA + k * 9 + 1, none⟩) (Nat.lt_of_lt_of_le hbA hzz)).trans cA1, (hW.cell (p := ⟨bA, oA + k * 9 + 2, none⟩) (Nat.lt_of_lt_of_le hbA hzz)).trans cA2, (hW.cell (p := ⟨bA, oA + k * 9 + 3, none⟩) (Nat.lt_of_lt_of_le hbA hzz)).trans cA3, (hW.cell (p := ⟨bA, oA + k * 9 + 4, none⟩) (Nat.lt_of_lt_of_le hbA hzz)).trans cA4, (hW.cell (p := ⟨bA, oA + k * 9 + 5, none⟩) (Nat.lt_of_lt_of_le hbA hzz)).trans cA5, (hW.cell (p := ⟨bA, oA + k * 9 + 6, none⟩) (Nat.lt_of_lt_of_le hbA hzz)).trans cA6, (hW.cell (p := ⟨bA, oA + k * 9 + 7, none⟩) (Nat.lt_of_lt_of_le hbA hzz)).trans cA7, (hW.cell (p := ⟨bA, oA + k * 9 + 8, none⟩) (Nat.lt_of_lt_of_le hbA hzz)).trans cA8⟩, ⟨(hW.cell (p := ⟨w.heap.size + 1, 7, none⟩) (by show w.heap.size + 1 < _; omega)).trans yB, (hW.cell (p := ⟨bB, oB + k * 9, none⟩) (Nat.lt_of_lt_of_le hbB hzz)).trans cB0, (hW.cell (p := ⟨bB, oB + k * 9 + 1, none⟩) (Nat.lt_of_lt_of_le hbB hzz)).trans cB1, (hW.cell (p := ⟨bB, oB + k * 9 + 2, none⟩) (Nat.lt_of_lt_of_le hbB hzz)).trans cB2, (hW.cell (p := ⟨bB, oB + k * 9 + 3, none⟩) (Nat.lt_of_lt_of_le hbB hzz)).trans cB3, (hW.cell (p := ⟨bB, oB + k * 9 + 4, none⟩) (Nat.lt_of_lt_of_le hbB hzz)).trans cB4, (hW.cell (p := ⟨bB, oB + k * 9 + 5, none⟩) (Nat.lt_of_lt_of_le hbB hzz)).trans cB5, (hW.cell (p := ⟨bB, oB + k * 9 + 6, none⟩) (Nat.lt_of_lt_of_le hbB hzz)).trans cB6, (hW.cell (p := ⟨bB, oB + k * 9 + 7, none⟩) (Nat.lt_of_lt_of_le hbB hzz)).trans cB7, (hW.cell (p := ⟨bB, oB + k * 9 + 8, none⟩) (Nat.lt_of_lt_of_le hbB hzz)).trans cB8⟩, ⟨(hW.cell (p := ⟨w.heap.size + 1 + 1, 7, none⟩) (by show w.heap.size + 1 + 1 < _; omega)).trans yC, (hW.cell (p := ⟨bC, oC + k * 9, none⟩) (Nat.lt_of_lt_of_le hbC hzz)).trans cC0, (hW.cell (p := ⟨bC, oC + k * 9 + 1, none⟩) (Nat.lt_of_lt_of_le hbC hzz)).trans cC1, (hW.cell (p := ⟨bC, oC + k * 9 + 2, none⟩) (Nat.lt_of_lt_of_le hbC hzz)).trans cC2, (hW.cell (p := ⟨bC, oC + k * 9 + 3, none⟩) (Nat.lt_of_lt_of_le hbC hzz)).trans cC3, (hW.cell (p := ⟨bC, oC + k * 9 + 4, none⟩) (Nat.lt_of_lt_of_le hbC hzz)).trans cC4, (hW.cell (p := ⟨bC, oC + k * 9 + 5, none⟩) (Nat.lt_of_lt_of_le hbC hzz)).trans cC5, (hW.cell (p := ⟨bC, oC + k * 9 + 6, none⟩) (Nat.lt_of_lt_of_le hbC hzz)).trans cC6, (hW.cell (p := ⟨bC, oC + k * 9 + 7, none⟩) (Nat.lt_of_lt_of_le hbC hzz)).trans cC7, (hW.cell (p := ⟨bC, oC + k * 9 + 8, none⟩) (Nat.lt_of_lt_of_le hbC hzz)).trans cC8⟩⟩
        have HCC := phide (fun W (hW : Below wr.heap.size wr W) => punhide IH W _ _ _ k (by omega) (by omega) (by omega) (hliesA.below hW) (hliesB.below hW) (hliesC.below hW))
        have HBR := phide hBr
        have hi0 : (0 : Int) ≤ (k : Int) := by omega
        have hi1 : (k : Int) < (N : Int) := by omega
        have hS : Below wr.heap.size wr wr.drew := (Below.refl _ _).drew
        clear hliesA hliesB hliesC hBr hBw hzz hrz eA eB eC cA0 cA1 cA2 cA3 cA4 cA5 cA6 cA7 cA8 cB0 cB1 cB2 cB3 cB4 cB5 cB6 cB7 cB8 cC0 cC1 cC2 cC3 cC4 cC5 cC6 cC7 cC8 yA yB yC
        obtain ⟨⟨yA, cA0, cA1, cA2, cA3, cA4, cA5, cA6, cA7, cA8⟩, ⟨yB, cB0, cB1, cB2, cB3, cB4, cB5, cB6, cB7, cB8⟩, ⟨yC, cC0, cC1, cC2, cC3, cC4, cC5, cC6, cC7, cC8⟩⟩ := punhide HSB wr (Below.refl _ _)
        go_wp2_with fail
        go_region_held3 (fun W => (W.cell? ⟨w.heap.size, 7, none⟩ = some (.slice (some ⟨bA, oA, none⟩) N dcA) ∧ W.cell? ⟨bA, oA + k * 9, none⟩ = some (.int .i64 hdA.k) ∧ W.cell? ⟨bA, oA + k * 9 + 1, none⟩ = some (.int .u64 (hdA.m : Int)) ∧ W.cell? ⟨bA, oA + k * 9 + 2, none⟩ = some (.bool hdA.ng) ∧ W.cell? ⟨bA, oA + k * 9 + 3, none⟩ = some (.string hdA.dg) ∧ W.cell? ⟨bA, oA + k * 9 + 4, none⟩ = some (.int .i64 hdA.sc) ∧ W.cell? ⟨bA, oA + k * 9 + 5, none⟩ = some (.string hdA.tx) ∧ W.cell? ⟨bA, oA + k * 9 + 6, none⟩ = some (.slice kaA2 knA2 kcA2) ∧ W.cell? ⟨bA, oA + k * 9 + 7, none⟩ = some (.slice daA2 dnA2 dcA2) ∧ W.cell? ⟨bA, oA + k * 9 + 8, none⟩ = some (.int .i64 hdA.cd)) ∧ (W.cell? ⟨w.heap.size + 1, 7, none⟩ = some (.slice (some ⟨bB, oB, none⟩) N dcB) ∧ W.cell? ⟨bB, oB + k * 9, none⟩ = some (.int .i64 hdB.k) ∧ W.cell? ⟨bB, oB + k * 9 + 1, none⟩ = some (.int .u64 (hdB.m : Int)) ∧ W.cell? ⟨bB, oB + k * 9 + 2, none⟩ = some (.bool hdB.ng) ∧ W.cell? ⟨bB, oB + k * 9 + 3, none⟩ = some (.string hdB.dg) ∧ W.cell? ⟨bB, oB + k * 9 + 4, none⟩ = some (.int .i64 hdB.sc) ∧ W.cell? ⟨bB, oB + k * 9 + 5, none⟩ = some (.string hdB.tx) ∧ W.cell? ⟨bB, oB + k * 9 + 6, none⟩ = some (.slice kaB2 knB2 kcB2) ∧ W.cell? ⟨bB, oB + k * 9 + 7, none⟩ = some (.slice daB2 dnB2 dcB2) ∧ W.cell? ⟨bB, oB + k * 9 + 8, none⟩ = some (.int .i64 hdB.cd)) ∧ (W.cell? ⟨w.heap.size + 1 + 1, 7, none⟩ = some (.slice (some ⟨bC, oC, none⟩) N dcC) ∧ W.cell? ⟨bC, oC + k * 9, none⟩ = some (.int .i64 hdC.k) ∧ W.cell? ⟨bC, oC + k * 9 + 1, none⟩ = some (.int .u64 (hdC.m : Int)) ∧ W.cell? ⟨bC, oC + k * 9 + 2, none⟩ = some (.bool hdC.ng) ∧ W.cell? ⟨bC, oC + k * 9 + 3, none⟩ = some (.string hdC.dg) ∧ W.cell? ⟨bC, oC + k * 9 + 4, none⟩ = some (.int .i64 hdC.sc) ∧ W.cell? ⟨bC, oC + k * 9 + 5, none⟩ = some (.string hdC.tx) ∧ W.cell? ⟨bC, oC + k * 9 + 6, none⟩ = some (.slice kaC2 knC2 kcC2) ∧ W.cell? ⟨bC, oC + k * 9 + 7, none⟩ = some (.slice daC2 dnC2 dcC2) ∧ W.cell? ⟨bC, oC + k * 9 + 8, none⟩ = some (.int .i64 hdC.cd))) (exact punhide HSB _ hS)
          (first | (go_at_call 26; refine (punhide HCC _ hS).mono ?_; rintro e w2 ⟨rfl, b2⟩; replace hS := hS.trans (b2.mono hS.size)))
        have HB2 := phide ((punhide HBR).trans (hS.mono (punhide HBR).size))
        clear hS b2
        go_wp2
        go_roundw
        case rel => exact ⟨k + 1, by go_num, hlt, punhide HB2⟩
        case measure => simp [intOf]; omega
      case neg =>
        have hd : decide ((k : Int) < (N : Int)) = false := decide_eq_false (by omega)
        go_wp2
        go_ret
        exact ⟨rfl, hB1.trans (hBr.mono hB1.size)⟩
end Go.Proofs.YtnagecbepidfiaaGreatDoor.Pol
/- What is proved here: plain facts on rows of marks, and on trees with the masks of their places. -/
namespace Go.Proofs.YtnagecbepidfiaaGreatDoor.Pol
set_option maxRecDepth 100000
open Go.RowKit Go.Proofs.YtnagecbepidfiaaGreatDoor.Nc Go.Proofs.YtnagecbepidfiaaGreatDoor.Np Go.Proofs.YtnagecbepidfiaaGreatDoor.Nq
set_option linter.unusedVariables false
set_option linter.unusedSimpArgs false

theorem MarksIn.drop {w : World} {g o n : Nat} {ms : List Mk} (h : MarksIn w (some ⟨g, o, none⟩) n ms) (k : Nat) (hk : k ≤ n) : MarksIn w (some ⟨g, o + k * 2, none⟩) (n - k) (ms.drop k) := by
  refine ⟨by rw [List.length_drop, h.1], ?_⟩
  rcases Nat.eq_or_lt_of_le hk with rfl | hlt
  · exact .inl (by omega)
  obtain ⟨g', o', e, hg, r⟩ := h.2.resolve_left (by omega)
  cases e
  refine .inr ⟨g, _, rfl, hg, fun i hi => ?_⟩
  have hi2 : k + i < ms.length := by rw [List.length_drop] at hi; omega
  obtain ⟨h1, b, q, c, r1, r2, r3⟩ := r (k + i) hi2
  rw [List.getElem_drop]
  have e : o + k * 2 + i * 2 = o + (k + i) * 2 := by omega
  rw [e]
  exact ⟨h1, b, q, c, r1, r2, r3⟩
theorem MarksIn.take {w : World} {a : Option Addr} {n : Nat} {ms : List Mk} (h : MarksIn w a n ms) (k : Nat) (hk : k ≤ n) : MarksIn w a k (ms.take k) := by
  refine ⟨by rw [List.length_take, h.1]; omega, ?_⟩
  rcases Nat.eq_zero_or_pos k with rfl | hlt
  · exact .inl rfl
  obtain ⟨g, o, e, hg, r⟩ := h.2.resolve_left (by omega)
  refine .inr ⟨g, o, e, hg, fun i hi => ?_⟩
  have hi2 : i < ms.length := by rw [List.length_take] at hi; omega
  obtain ⟨h1, b, q, c, r1, r2, r3⟩ := r i hi2
  rw [List.getElem_take]
  exact ⟨h1, b, q, c, r1, r2, r3⟩
theorem MarksIn.nil (w : World) (a : Option Addr) : MarksIn w a 0 [] := ⟨rfl, .inl rfl⟩
theorem PolIn.parts {w : World} {a b : Option Addr} {n c m d : Nat} {tok : ByteArray} {fu qu : Int} {p : Po} (h : PolIn w (.agg #[.slice a n c, .slice b m d, .string tok, .int .i64 fu, .int .i64 qu]) p) : tok.data.toList = p.token ∧ TxIn w a n p.cats ∧ MarksIn w b m p.marks := by
  obtain ⟨a2, n2, c2, b2, m2, d2, tok2, e, h1, h2, h3⟩ := h
  have e2 := Value.agg.inj e
  simp only [Array.mk.injEq, List.cons.injEq, Value.slice.injEq, Value.string.injEq] at e2
  obtain ⟨⟨rfl, rfl, rfl⟩, ⟨rfl, rfl, rfl⟩, rfl, -⟩ := e2
  exact ⟨h1, h2, h3⟩
theorem MRoom.of {x t f q : Value} {b : Option Addr} {m d : Nat} (h : MRoom (.agg #[x, .slice b m d, t, f, q])) : ∃ g, b = some ⟨g, 0, none⟩ ∧ m ≤ d := by
  obtain ⟨x2, g, m2, d2, t2, f2, q2, e, hmd⟩ := h
  have e2 := Value.agg.inj e
  simp only [Array.mk.injEq, List.cons.injEq, Value.slice.injEq] at e2
  obtain ⟨-, ⟨rfl, rfl, rfl⟩, -⟩ := e2
  exact ⟨g, rfl, hmd⟩
theorem label_hd (M : List Mk) (n : Nat) (a : List Pm.St) (t : Tr) : (Tr.hd (labelT M (n + 1) a t)).m = maskL a M := rfl
theorem label_len (M : List Mk) (n : Nat) (a : List Pm.St) (t : Tr) : (Tr.kd (labelT M (n + 1) a t)).length = (Tr.kd t).length := by
  show (List.mapIdx _ _).length = _
  rw [List.length_mapIdx]
theorem label_at (M : List Mk) (n : Nat) (a : List Pm.St) (t : Tr) (i : Nat) (hi : i < (Tr.kd t).length) (h : i < (Tr.kd (labelT M (n + 1) a t)).length) : (Tr.kd (labelT M (n + 1) a t))[i]'h = labelT M n (a ++ [stepT (Tr.hd t) i]) ((Tr.kd t)[i]'hi) := List.getElem_mapIdx ..
theorem join_label (M1 M2 : List Mk) : ∀ n a t, joinT n (labelT M1 n a t) (labelT M2 n a t) (labelT (M1 ++ M2) n a t)
  | 0, _, _ => trivial
  | n + 1, a, t => by
    refine ⟨maskL_app a M1 M2, by rw [label_len, label_len], by rw [label_len, label_len], fun i h1 h2 h3 => ?_⟩
    have hi : i < (Tr.kd t).length := by rwa [label_len] at h1
    rw [label_at _ _ _ _ _ hi, label_at _ _ _ _ _ hi, label_at _ _ _ _ _ hi]
    exact join_label M1 M2 n _ _
theorem one_label (M : List Mk) (h : ∀ a, maskL a M = 1) : ∀ n a t, oneT n (labelT M n a t)
  | 0, _, _ => trivial
  | n + 1, a, t => ⟨h a, fun k hk => by
      obtain ⟨i, hi, rfl⟩ := kid_label hk
      exact one_label M h n _ _⟩
theorem SubN.antisymm {x y : Nat} (h : SubN x y) (g : SubN y x) : x = y := by
  unfold SubN at *
  rw [← g, Nat.or_comm y x, h]
theorem SubN.and {x y : Nat} (h : SubN x y) : x &&& y = x := by
  unfold SubN at h
  rw [← h]
  apply Nat.eq_of_testBit_eq
  intro i
  rw [Nat.testBit_and, Nat.testBit_or]
  cases x.testBit i <;> simp
theorem deep_far (M : List Mk) (x : Nat) : ∀ n a t, (∀ b, SubN (maskL (a ++ b) M) x) → SubN (deepT n (labelT M n a t)) x
  | 0, _, _, _ => Nat.zero_or x
  | n + 1, a, t, h => (deep_sub n _ x).2 ⟨by have := h []; rwa [List.append_nil] at this, fun k hk => by
      obtain ⟨i, hi, rfl⟩ := kid_label hk
      exact deep_far M x n _ _ (fun b => by rw [List.append_assoc]; exact h _)⟩
/-- One mark of the first category. -/
def oneM (l : List Pm.St) : List Mk := [⟨l, 1⟩]
theorem one_mask (l a : List Pm.St) : maskL a (oneM l) = if Pm.mt l a then 1 else 0 := by
  show (if Pm.mt l a then 1 else 0) ||| 0 = _
  rw [Nat.or_zero]
theorem mask_deep (a : List Pm.St) : maskL a (oneM [⟨5, ⟨#[]⟩, 0⟩]) = 1 := by
  rw [one_mask, if_pos]
  refine (Pm.mt_deep rfl _ _).2 ⟨a.length, Nat.le_refl _, ?_⟩
  rw [List.drop_length]
  rfl
theorem mask_top : maskL [] (oneM []) = 1 := rfl
theorem mask_under (x : Pm.St) (r : List Pm.St) : maskL (x :: r) (oneM []) = 0 := by
  rw [one_mask, if_neg (fun h => by have := (Pm.mt_nil _).1 h; cases this)]
theorem deep_under (n : Nat) (x : Pm.St) (t : Tr) : deepT n (labelT (oneM []) n [x] t) = 0 := by
  have h := deep_far (oneM []) 0 n [x] t (fun b => by
    rw [List.singleton_append, mask_under]
    exact Nat.or_self 0)
  unfold SubN at h
  rwa [Nat.or_zero] at h
theorem mt_step {s : Pm.St} (h : s.k = 1 ∨ s.k = 2) (x : Pm.St) : Pm.mt [s] [x] = true ↔ Pm.bareS x = Pm.bareS s := by
  rw [Pm.mt_one (by omega)]
  have e : Pm.leadB s x = decide (Pm.bareS x = Pm.bareS s) := by unfold Pm.leadB; rw [if_pos h]
  constructor
  · rintro ⟨y, r, e2, h1, h2⟩
    cases e2
    rw [e] at h1
    exact of_decide_eq_true h1
  · intro g
    exact ⟨x, [], rfl, by rw [e]; exact decide_eq_true g, rfl⟩
theorem mt_step0 {s : Pm.St} (h : s.k = 1 ∨ s.k = 2) : Pm.mt [s] [] = false := by
  cases e : Pm.mt [s] [] with
  | false => rfl
  | true =>
    obtain ⟨x, r, e2, _⟩ := (Pm.mt_one (by omega) _ _).1 e
    cases e2
theorem step_kind {h : Hd} {m i : Nat} (hg : goodH h m) (hi : i < m) : (stepT h i).k = 1 ∨ (stepT h i).k = 2 := by
  obtain ⟨⟨_, _, _, h1, _⟩, h2, h3⟩ := hg
  unfold stepT
  by_cases h6 : h.k = 6
  · rw [if_pos h6]; exact .inr rfl
  · rw [if_neg h6]
    by_cases h7 : h.k = 7
    · rw [if_pos h7, dif_pos (by rw [(h2 h7).1]; exact hi)]; exact .inl rfl
    · have := h1 h6 h7; omega
theorem step_inj {h : Hd} {m i j : Nat} (hg : goodH h m) (hi : i < m) (hj : j < m) (e : stepT h i = stepT h j) : i = j := by
  obtain ⟨⟨_, _, _, h1, _⟩, h2, h3⟩ := hg
  unfold stepT at e
  by_cases h6 : h.k = 6
  · rw [if_pos h6, if_pos h6] at e
    have := congrArg Pm.St.n e
    simp at this
    omega
  · rw [if_neg h6, if_neg h6] at e
    by_cases h7 : h.k = 7
    · obtain ⟨hl, hn, _⟩ := h2 h7
      rw [if_pos h7, if_pos h7, dif_pos (by rw [hl]; exact hi), dif_pos (by rw [hl]; exact hj)] at e
      have e2 := congrArg Pm.St.s e
      rcases Nat.lt_trichotomy i j with hij | hij | hij
      · exact absurd e2 (List.pairwise_iff_getElem.1 hn i j _ _ hij)
      · exact hij
      · exact absurd e2.symm (List.pairwise_iff_getElem.1 hn j i _ _ hij)
    · have := h1 h6 h7; omega
theorem step_bare {h : Hd} {m i : Nat} (hg : goodH h m) (hi : i < m) : Pm.bareS (stepT h i) = stepT h i := by
  obtain ⟨⟨_, _, _, h1, _⟩, h2, h3⟩ := hg
  unfold stepT
  by_cases h6 : h.k = 6
  · rw [if_pos h6]; rfl
  · rw [if_neg h6]
    by_cases h7 : h.k = 7
    · rw [if_pos h7, dif_pos (by rw [(h2 h7).1]; exact hi)]; rfl
    · have := h1 h6 h7; omega
/-- A mark of the step to a kid marks just what lies there. -/
theorem kid_mask {h : Hd} {m i j : Nat} (hg : goodH h m) (hi : i < m) (hj : j < m) : maskL [stepT h i] (oneM [stepT h j]) = if i = j then 1 else 0 := by
  rw [one_mask]
  have hx := mt_step (step_kind hg hj) (stepT h i)
  rw [step_bare hg hi, step_bare hg hj] at hx
  by_cases e : i = j
  · rw [if_pos e, if_pos (hx.2 (by rw [e]))]
  · rw [if_neg e, if_neg (fun g => e (step_inj hg hi hj (hx.1 g)))]
theorem top_mask {h : Hd} {m j : Nat} (hg : goodH h m) (hj : j < m) : maskL [] (oneM [stepT h j]) = 0 := by
  rw [one_mask, mt_step0 (step_kind hg hj)]
  rfl
theorem key_deep {n : Nat} {t : Tr} {j : Nat} (hg : goodH (Tr.hd t) (Tr.kd t).length) (hj : j < (Tr.kd t).length) : deepT (n + 2) (labelT (oneM [stepT (Tr.hd t) j]) (n + 2) [] t) = 1 := by
  refine SubN.antisymm ?_ ?_
  · refine deep_within _ 1 (fun a => ?_) _ _ _
    rw [one_mask]
    split
    · exact Nat.or_self 1
    · exact Nat.zero_or 1
  · have key := (deep_sub (n + 1) (labelT (oneM [stepT (Tr.hd t) j]) (n + 2) [] t) _).1 (SubN.refl _)
    have h1 := key.2 _ (label_kid hj)
    have h2 := ((deep_sub n _ _).1 h1).1
    rw [label_hd] at h2
    have e : maskL ([] ++ [stepT (Tr.hd t) j]) (oneM [stepT (Tr.hd t) j]) = 1 := by
      rw [List.nil_append, kid_mask hg hj hj, if_pos rfl]
    rwa [e] at h2
end Go.Proofs.YtnagecbepidfiaaGreatDoor.Pol
/- What is proved here: a row of marks behind one of the call's own, at a step of a region that draws its order; conditions: as each theorem states. -/
namespace Go.Proofs.YtnagecbepidfiaaGreatDoor.Pol
set_option maxRecDepth 100000
open Go.RowKit Go.Proofs.YtnagecbepidfiaaGreatDoor.Nc Go.Proofs.YtnagecbepidfiaaGreatDoor.Np Go.Proofs.YtnagecbepidfiaaGreatDoor.Nq
set_option linter.unusedVariables false
set_option linter.unusedSimpArgs false

/-- The cells of a row of marks lie. -/
def RowM (w : World) (g o : Nat) (D : List Dk) : Prop := ∀ j u, (rowM D)[j]? = some u → g < w.heap.size ∧ w.cell? ((⟨g, o, none⟩ : Addr).add j) = some u
theorem marks_dk {w : World} {g o n : Nat} {ms : List Mk} (h : MarksIn w (some ⟨g, o, none⟩) n ms) : ∃ D : List Dk, D.map (·.m) = ms ∧ D.length = n ∧ RowM w g o D ∧ ∀ d ∈ D, d.m.mask < 18446744073709551616 ∧ Np.StepsIn w d.a d.n d.m.path := by
  have key : ∀ i : Fin ms.length, ∃ d : Dk, d.m = ms[i.1]'i.2 ∧ w.cell? ⟨g, o + i.1 * 2, none⟩ = some (.slice d.a d.n d.c) ∧ w.cell? ⟨g, o + i.1 * 2 + 1, none⟩ = some (.int .u64 (d.m.mask : Int)) ∧ d.m.mask < 18446744073709551616 ∧ Np.StepsIn w d.a d.n d.m.path := by
    intro ⟨i, hi⟩
    obtain ⟨g', o', e, hg, r⟩ := h.2.resolve_left (by have := h.1; omega)
    cases e
    obtain ⟨h1, b, q, c, r1, r2, r3⟩ := r i hi
    exact ⟨⟨b, q, c, ms[i]'hi⟩, rfl, r1, r2, h1, r3⟩
  obtain ⟨f, hf⟩ := Classical.axiomOfChoice key
  have hlen : (List.ofFn f).length = ms.length := by simp
  refine ⟨List.ofFn f, ?_, by rw [hlen, h.1], ?_, ?_⟩
  · apply List.ext_getElem
    · simp
    · intro i h1 h2
      simp [(hf ⟨i, h2⟩).1]
  · intro j u hj
    have hl : j < (rowM (List.ofFn f)).length := (List.getElem?_eq_some_iff.1 hj).1
    rw [rowM_len] at hl
    have hi : j / 2 < (List.ofFn f).length := by omega
    have hr : j % 2 < 2 := Nat.mod_lt _ (by decide)
    have e := rowM_at (List.ofFn f) (j / 2) (j % 2) hr hi
    rw [show j / 2 * 2 + j % 2 = j by omega, hj] at e
    rw [addM]
    have hi2 : j / 2 < ms.length := by rw [← hlen]; exact hi
    have hgs : g < w.heap.size := by
      obtain ⟨g', o', e, hg, r⟩ := h.2.resolve_left (by have := h.1; omega)
      cases e
      exact hg
    refine ⟨hgs, ?_⟩
    obtain ⟨e1, c0, c1, e2, e3⟩ := hf ⟨j / 2, hi2⟩
    rw [List.getElem_ofFn] at e
    rcases (show j % 2 = 0 ∨ j % 2 = 1 by omega) with m | m
    · rw [m] at e
      rw [show o + j = o + j / 2 * 2 by omega]
      rw [show w.cell? ⟨g, o + j / 2 * 2, none⟩ = _ from c0]
      exact e.symm
    · rw [m] at e
      rw [show o + j = o + j / 2 * 2 + 1 by omega]
      rw [show w.cell? ⟨g, o + j / 2 * 2 + 1, none⟩ = _ from c1]
      exact e.symm
  · intro d hd
    obtain ⟨i, hi, rfl⟩ := List.mem_iff_getElem.1 hd
    rw [List.getElem_ofFn]
    exact (hf _).2.2.2
theorem RowM.step {w w' : World} {g o : Nat} {D : List Dk} (h : RowM w g o D) (hB : Below w.heap.size w w') : RowM w' g o D := by
  intro j u hj
  obtain ⟨h1, h2⟩ := h j u hj
  rw [addM] at h2 ⊢
  exact ⟨Nat.lt_of_lt_of_le h1 hB.size, (hB.cell (p := ⟨g, o + j, none⟩) h1).trans h2⟩
theorem rowM_app (X Y : List Dk) : rowM (X ++ Y) = rowM X ++ rowM Y := by unfold rowM; simp
theorem rowM_one {D : List Dk} : ∀ u ∈ rowM D, u.oneCell' = true := by
  intro u hu
  obtain ⟨d, _, hu⟩ := List.mem_flatMap.1 hu
  simp only [cellsM, List.mem_cons, List.not_mem_nil, or_false] at hu
  rcases hu with rfl | rfl <;> rfl
theorem marks_own {W : World} {base k : Nat} {v : Value} {D : List Dk} (h : W.ownsRow base 59 2 v k (rowM D)) (hk : D.length = k) (hd : ∀ d ∈ D, d.m.mask < 18446744073709551616 ∧ Np.StepsIn W d.a d.n d.m.path) :
    ∃ a c, v = .slice a k c ∧ MarksIn W a k (D.map (·.m)) := by
  by_cases h0 : k = 0
  · rcases h.2 with ⟨e, _⟩ | ⟨g, cap, cur, hv, _⟩
    · exact ⟨none, 0, by rw [e, h0], by simp [hk], .inl h0⟩
    · exact ⟨_, cap, hv, by simp [hk], .inl h0⟩
  · obtain ⟨g, cap, rfl, hb, hg⟩ := h.form (by omega)
    refine ⟨_, cap, rfl, by simp [hk], .inr ⟨g, 0, rfl, hg, fun i hi => ?_⟩⟩
    have hi2 : i < D.length := by simpa using hi
    have e0 := h.cells (g := g) rfl (i * 2) (.slice (D[i]'hi2).a (D[i]'hi2).n (D[i]'hi2).c) (by have := rowM_at D i 0 (by omega) hi2; rw [Nat.add_zero] at this; rw [this]; rfl)
    have e1 := h.cells (g := g) rfl (i * 2 + 1) (.int .u64 ((D[i]'hi2).m.mask : Int)) (by rw [rowM_at D i 1 (by omega) hi2]; rfl)
    rw [addM] at e0 e1
    obtain ⟨d1, d2⟩ := hd _ (List.getElem_mem hi2)
    simp only [List.getElem_map]
    exact ⟨d1, _, _, _, e0, e1, d2⟩
theorem oper_append_marks (w : World) {o : Oper} {a : Act} {K : Act → World → Prop} {Q : Exit → Act → World → Prop} (s x : Operand)
    (ho : o.op = .call { callee := .builtin .append, args := #[s, x], argTypes := #[23, 23] })
    (base g cap n : Nat) (X : List Dk) (hs : a.eval s = .slice (some ⟨g, 0, none⟩) n cap) (hown : w.ownsRow base 59 2 (.slice (some ⟨g, 0, none⟩) n cap) n (rowM X))
    (b ob m c : Nat) (Y : List Dk) (hx : a.eval x = .slice (some ⟨b, ob, none⟩) m c) (hl : Y.length = m) (hY : RowM w b ob Y)
    (hnm : n + m ≤ 1000) (hbase : base ≤ w.heap.size)
    (h : ∀ g' cap' w', w'.ownsRow base 59 2 (.slice (some ⟨g', 0, none⟩) (n + m) cap') (n + m) (rowM (X ++ Y)) → Below base w w' → K (a.put o.dst (.slice (some ⟨g', 0, none⟩) (n + m) cap')) w') :
    Oper.wp Tryz.prog o a w K Q := by
  obtain ⟨i0, hi, hz0, hz1, hz2⟩ := info_parts infoM
  obtain ⟨g', cap', w', hr, h2, h3, h4⟩ := run_append_own2 (P := Tryz.prog) w base 23 o.type 59 i0 (.agg #[.slice none 0 0, .int .u64 0]) 2 32 Tryz.underlying23 hi hz0 hz1 hz2 rfl (by decide) g cap n (rowM X) hown ⟨b, ob, none⟩ m c (rowM Y) (by rw [rowM_len, hl]) (fun j u h => (hY j u h).2) rowM_one (by unfold maxLen; omega) (by omega) hbase
  unfold Oper.wp execOp
  simp only [ho, resolve, invoke, builtin, Sem.run_bind, Sem.run_pure, Result.andThen_ok, List.map_toArray, List.map_cons, List.map_nil, hs, hx, hr]
  refine h g' cap' w' (by rw [rowM_app]; exact h2) ((Below.refl _ _).grown h3 hbase (fun k hk => ?_))
  obtain rfl := Option.some.inj hk
  exact (hown.lt _ rfl).1
theorem own_noneM (w : World) (base : Nat) (hb : base ≤ w.heap.size) : (w.alloc (.cells #[] 59)).ownsRow base 59 2 (.slice (some ⟨w.heap.size, 0, none⟩) 0 0) 0 (rowM []) :=
  ⟨rfl, .inr ⟨w.heap.size, 0, #[], rfl, hb, heap_alloc_new w _, Nat.le_refl _, by unfold maxLen; omega, rfl, rfl⟩⟩
theorem step_append_marks (w : World) {ops : Array Oper} {o : Oper} {a : Act} {K : Act → World → Prop} {Q : Exit → Act → World → Prop} {E : Prop} (hgd : o.guard = none) (s x : Operand)
    (ho : o.op = .call { callee := .builtin .append, args := #[s, x], argTypes := #[23, 23] })
    (base g cap n : Nat) (X : List Dk) (hs : a.eval s = .slice (some ⟨g, 0, none⟩) n cap) (hown : w.ownsRow base 59 2 (.slice (some ⟨g, 0, none⟩) n cap) n (rowM X))
    (b ob m c : Nat) (Y : List Dk) (hx : a.eval x = .slice (some ⟨b, ob, none⟩) m c) (hl : Y.length = m) (hY : RowM w b ob Y)
    (nm : Nat) (he : n + m = nm) (hnm : nm ≤ 1000) (hbase : base ≤ w.heap.size)
    (h : ∀ g' cap' w', w'.ownsRow base 59 2 (.slice (some ⟨g', 0, none⟩) nm cap') nm (rowM (X ++ Y)) → Below base w w' → K (a.put o.dst (.slice (some ⟨g', 0, none⟩) nm cap')) w') :
    if Region.wanted o (yielded ops a.tmps) = true then Oper.wp Tryz.prog o a w K Q else E := by
  subst he
  have hw : Region.wanted o (yielded ops a.tmps) = true := by simp [Region.wanted, hgd]
  rw [if_pos hw]
  exact oper_append_marks w s x ho base g cap n X hs hown b ob m c Y hx hl hY hnm hbase h
theorem own_noneM_at (w : World) (base s : Nat) (hs : w.heap.size = s) (hb : base ≤ s) : (w.alloc (.cells #[] 59)).ownsRow base 59 2 (.slice (some ⟨s, 0, none⟩) 0 0) 0 (rowM []) := by
  subst hs
  exact own_noneM w base hb
theorem marksE_app (n : Nat) : ∀ k l, marksE n k = 0 → marksE n l = 0 → marksE n (k ++ l) = 0
  | [], _, _, h => h
  | m :: r, l, h1, h2 => by
    unfold marksE at h1
    show marksE n (m :: (r ++ l)) = 0
    unfold marksE
    split at h1
    · rename_i h; exact absurd h1 h
    · rename_i h
      rw [if_neg h]
      split at h1
      · cases h1
      · rename_i h3
        rw [if_neg h3]
        exact marksE_app n r l h1 h2
/-- The parts of 'may'. -/
theorem mayP_parts {p : Po} (h : mayP p = 0) : Cm.mayE p.cats = 0 ∧ p.marks.length ≤ 16 ∧ marksE p.cats.length p.marks = 0 ∧ ¬ (24 < p.token.length ∨ Lib.validD p.token = false ∨ fuelB p.fuel = false ∨ fuelB p.quota = false) := by
  unfold mayP at h
  split at h
  · rename_i h1; exact absurd (by omega) h1
  · rename_i h1
    split at h
    · cases h
    · rename_i h2
      split at h
      · rename_i h3; exact absurd h h3
      · rename_i h3
        split at h
        · cases h
        · rename_i h4
          exact ⟨Decidable.not_not.1 h1, by omega, Decidable.not_not.1 h3, h4⟩
theorem mayP_of {p : Po} (h1 : Cm.mayE p.cats = 0) (h2 : p.marks.length ≤ 16) (h3 : marksE p.cats.length p.marks = 0) (h4 : ¬ (24 < p.token.length ∨ Lib.validD p.token = false ∨ fuelB p.fuel = false ∨ fuelB p.quota = false)) : mayP p = 0 := by
  unfold mayP
  rw [if_neg (by omega), if_neg (by omega), if_neg (by omega), if_neg h4]
/-- Two policies of the same categories that may be, joined, may be. -/
theorem mayP_both {C : List Tx} {M1 M2 : List Mk} {t1 t2 : Tx} {f1 f2 q1 q2 : Int} (h1 : mayP ⟨C, M1, t1, f1, q1⟩ = 0) (h2 : mayP ⟨C, M2, t2, f2, q2⟩ = 0) (hl : M1.length + M2.length ≤ 16) : mayP ⟨C, M1 ++ M2, t1, f1, q1⟩ = 0 := by
  obtain ⟨a1, a2, a3, a4⟩ := mayP_parts h1
  obtain ⟨b1, b2, b3, b4⟩ := mayP_parts h2
  exact mayP_of a1 (by rw [List.length_append]; exact hl) (marksE_app _ _ _ a3 b3) a4
end Go.Proofs.YtnagecbepidfiaaGreatDoor.Pol
