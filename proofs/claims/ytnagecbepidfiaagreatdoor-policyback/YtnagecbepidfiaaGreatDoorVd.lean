/- What is proved here: readCats, readFuel and readMark of package policy, walked; conditions: as each theorem states. -/
import Derived.Test.YtnagecbepidfiaaGreatDoorVc
namespace Go.Proofs.YtnagecbepidfiaaGreatDoor.Pol
set_option maxRecDepth 100000
open Go.RowKit Go.Proofs.YtnagecbepidfiaaGreatDoor.Nc Go.Proofs.YtnagecbepidfiaaGreatDoor.Np Go.Proofs.YtnagecbepidfiaaGreatDoor.Nq
set_option linter.unusedVariables false
set_option linter.unusedSimpArgs false

theorem sp32 : (⟨#[32]⟩ : ByteArray).data.toList = [32] := rfl
/-- A text with, or without, a blank ahead. -/
theorem trim_ex (x : ByteArray) : ∃ y : ByteArray, (∀ W, Calls Tryz.prog 70 #[.string x, .string ⟨#[32]⟩] W fun e w' => e = .returned (.string y) ∧ w' = W) ∧ y.size ≤ x.size ∧ ∀ l, x.data.toList = 32 :: l → y.data.toList = l := by
  obtain ⟨b, hb⟩ : ∃ b, (⟨#[32]⟩ : ByteArray).data.toList.isPrefixOf x.data.toList = b := ⟨_, rfl⟩
  obtain ⟨y, hy⟩ : ∃ y : ByteArray, y.data.toList = if b then x.data.toList.drop (⟨#[32]⟩ : ByteArray).data.toList.length else x.data.toList := ⟨⟨(if b then x.data.toList.drop (⟨#[32]⟩ : ByteArray).data.toList.length else x.data.toList).toArray⟩, by simp⟩
  refine ⟨y, fun W => trimPre x ⟨#[32]⟩ y b hb hy W, ?_, fun l hl => ?_⟩
  · rw [← len_size, ← len_size x, hy]
    split
    · rw [List.length_drop]; omega
    · exact Nat.le_refl _
  · rw [sp32, hl] at hb
    rw [hl] at hy
    have hbt : b = true := by rw [← hb]; simp [List.isPrefixOf]
    subst hbt
    rw [hy, if_pos rfl]
    rfl
theorem readFuel_any (x : ByteArray) (hx : x.size ≤ 1000000) (w : World) (hE : Errs w) :
    Calls Tryz.prog 71 #[.string x] w fun e w' => Below w.heap.size w w' ∧ ∃ v : Int, e = .returned (.int .i64 v) ∧ ∀ n : Int, 0 ≤ n → n ≤ 100000 → x.data.toList = 32 :: Lib.itoa n → v = n := by
  obtain ⟨y, CT, hy, hyl⟩ := trim_ex x
  have CA := fun W h => atoi_any y (by omega) W h
  go_enter Tryz.func71, Tryz.ntmps71
  go_wp2_with fail
  refine (CT _).mono ?_
  rintro e w ⟨rfl, rfl⟩
  go_wp2_with fail
  refine (CA _ hE).mono ?_
  rintro e w2 ⟨hB, ⟨v, hv, rfl⟩ | ⟨hv, v, t, p, rfl⟩⟩
  · go_wp2
    go_ret
    refine ⟨hB, v, rfl, fun n h0 h1 hl => ?_⟩
    rw [hyl _ hl, atoi_itoa h0 h1] at hv
    cases hv
    rfl
  · go_wp2
    go_ret
    refine ⟨hB, v, rfl, fun n h0 h1 hl => ?_⟩
    exact absurd (atoi_itoa h0 h1) (by rw [← hyl _ hl]; exact hv n)

/-! ### categories -/
theorem cellsOf_at {LB : List ByteArray} {N i : Nat} (h : i < LB.length) : (Lib.cellsOf LB N)[i]? = some (.string (LB[i]'h)) := by
  unfold Lib.cellsOf
  simp [h, List.getElem?_append]
theorem names_of (x : ByteArray) (N : Nat) (hN : min 65 (x.size + 1) = N) (LB : List ByteArray) (hL : Lib.splitB ⟨#[32]⟩ 0 (N - 1) x = LB) :
    1 ≤ LB.length ∧ LB.length ≤ N ∧ (∀ y ∈ LB, y.size ≤ x.size) ∧ ∀ ws : List Tx, (∀ y ∈ ws, (32 : UInt8) ∉ y) → ws.length ≤ 64 → Cm.flatB ws = x.data.toList → (LB.drop 1).map (·.data.toList) = ws := by
  have hlen := Lib.splitB_length_le ⟨#[32]⟩ 0 (N - 1) x
  rw [hL] at hlen
  have hmap := Lib.splitB_data ⟨#[32]⟩ 0 (N - 1) x
  rw [hL] at hmap
  have hsz : ∀ (k : Nat) (s : ByteArray), ∀ y ∈ Lib.splitB ⟨#[32]⟩ 0 k s, y.size ≤ s.size := by
    intro k
    induction k with
    | zero => intro s y hy; rw [Lib.splitB_zero, List.mem_singleton] at hy; rw [hy]; exact Nat.le_refl _
    | succ k ih =>
      intro s y hy
      unfold Lib.splitB at hy
      split at hy
      · rw [List.mem_singleton] at hy; rw [hy]; exact Nat.le_refl _
      · rcases List.mem_cons.1 hy with rfl | hy
        · rw [ByteArray.size_extract]; omega
        · have := ih _ y hy
          rw [ByteArray.size_extract] at this; omega
  have hpos : 1 ≤ LB.length := by
    rw [← hL]
    cases h : N - 1 with
    | zero => simp [Lib.splitB_zero]
    | succ k => unfold Lib.splitB; split <;> simp
  refine ⟨hpos, by omega, fun y hy => hsz _ _ y (by rw [hL]; exact hy), fun ws hw h64 hf => ?_⟩
  have hk : ws.length ≤ N - 1 := by
    have h1 : ws.length ≤ x.size := by
      rw [← len_size, ← hf]
      clear hf h64 hw
      induction ws with
      | nil => simp
      | cons y r ih => rw [Cm.flatB_cons]; simp; omega
    omega
  have := split_flat ws [] (N - 1) hw (by simp) hk
  rw [List.nil_append, hf] at this
  rw [List.map_drop, hmap, sp32, this]
  rfl
set_option maxHeartbeats 2000000 in
theorem readCats_any (x : ByteArray) (hx : x.size ≤ 1000000) (w : World) :
    Calls Tryz.prog 67 #[.string x] w fun e w' => Below w.heap.size w w' ∧ ∃ a n c L, e = .returned (.slice a n c) ∧ TxIn w' a n L ∧ n ≤ 64 ∧ (∀ g o, a = some ⟨g, o, none⟩ → w.heap.size ≤ g) ∧ (∀ y ∈ L, y.length ≤ 1000000) ∧
      ∀ ws : List Tx, (∀ y ∈ ws, (32 : UInt8) ∉ y) → ws.length ≤ 64 → Cm.flatB ws = x.data.toList → L = ws := by
  obtain ⟨N, hN⟩ : ∃ N, min 65 (x.size + 1) = N := ⟨_, rfl⟩
  obtain ⟨LB, hLB⟩ : ∃ LB, Lib.splitB ⟨#[32]⟩ 0 (N - 1) x = LB := ⟨_, rfl⟩
  obtain ⟨h1, h2, h3, h4⟩ := names_of x N hN LB hLB
  obtain ⟨n, hn⟩ : ∃ n, LB.length = n + 1 := ⟨LB.length - 1, by omega⟩
  have C := fun W => splitN_any x N hx hN LB hLB (n + 1) hn W
  obtain ⟨M, rfl⟩ : ∃ M, N = M + 1 := ⟨N - 1, by omega⟩
  have hM : M ≤ 64 := by omega
  have hnM : n ≤ M := by omega
  obtain ⟨L, hL⟩ : ∃ L : List Tx, (LB.drop 1).map (·.data.toList) = L := ⟨_, rfl⟩
  have hLn : L.length = n := by rw [← hL, List.length_map, List.length_drop]; omega
  rw [hL] at h4
  have hLs : ∀ y ∈ L, y.length ≤ 1000000 := by
    intro y hy
    rw [← hL] at hy
    obtain ⟨z, hz, rfl⟩ := List.mem_map.1 hy
    have := h3 z (List.mem_of_mem_drop hz)
    rw [len_size]; omega
  have hrow : RowO (w.alloc (.cells (Lib.cellsOf LB (M + 1)) 9)) w.heap.size 1 L := by
    refine ⟨by simp, fun i hi => ?_⟩
    have hi2 : 1 + i < LB.length := by omega
    have e : L[i]'hi = (LB[1 + i]'hi2).data.toList := by
      subst hL
      rw [List.getElem_map, List.getElem_drop]
    rw [e]
    exact (World.cell?_alloc_new _ _ _ _).trans (cellsOf_at hi2)
  have hfr : ∀ j, (w.alloc (.cells (Lib.cellsOf LB (M + 1)) 9)).frozen? ⟨w.heap.size, j, none⟩ = false := fun j => World.frozen?_alloc_new _ _ _ _
  have hB := (Below.refl w.heap.size w).alloc (Nat.le_refl _) (.cells (Lib.cellsOf LB (M + 1)) 9)
  have H4 := phide h4
  have HLS := phide hLs
  clear h3 h4 hLB hN h1 h2 hL
  go_enter Tryz.func67, Tryz.ntmps67
  go_wp2_with fail
  refine (C _).mono ?_
  rintro e W ⟨rfl, rfl⟩
  clear C
  generalize w.alloc (.cells (Lib.cellsOf LB (M + 1)) 9) = W1 at *
  by_cases hM0 : M = 0
  · have hn0 : n = 0 := by omega
    subst hM0
    subst hn0
    have hLe : L = [] := List.eq_nil_of_length_eq_zero hLn
    subst hLe
    clear hn hLs hLn hrow hfr hnM hM hx
    go_wp2
    go_loopw [11] (fun i wr => i = .int .i64 0 ∧ wr = W1) (fun i _ => 0)
    case atStart => exact ⟨rfl, rfl⟩
    case round =>
      obtain ⟨rfl, rfl⟩ := hrel
      go_wp2
      go_ret
      exact ⟨hB, _, _, _, [], rfl, ⟨rfl, .inl rfl⟩, by omega, (fun g o h => by cases h; exact Nat.le_refl _), (fun y hy => by cases hy), punhide H4⟩
  · clear hLs hx hn LB
    have HB := phide hB
    have HR := phide hrow
    generalize hg : w.heap.size = g at *
    have HG := phide hg
    clear hg
    go_wp2
    go_loopw [11] (fun i wr => ∃ k : Nat, k ≤ n ∧ i = .int .i64 (k : Int) ∧ Below g w wr ∧ RowO wr g 1 L ∧ ∀ j, wr.frozen? ⟨g, j, none⟩ = false) (fun i _ => n - (intOf i).toNat)
    case atStart => exact ⟨0, Nat.zero_le _, rfl, punhide HB, punhide HR, hfr⟩
    case round =>
      obtain ⟨k, hk, rfl, hBr, hRr, hFr⟩ := hrel
      clear hfr hB hrow
      by_cases hlt : k < n
      · obtain ⟨s, hs, hs2, hs3⟩ := txt (L[k]'(by omega))
        have hc := hRr.2 k (by omega)
        rw [hs] at hc
        have hsl : s.size ≤ 1000000 := by
          rw [hs3]
          exact punhide HLS _ (List.getElem_mem _)
        have CC := fun W => clone_any s W hsl
        have hgl := hRr.1
        have HS := phide hs
        clear hs hs2 hs3 hsl
        go_wp2_with fail
        refine (CC _).mono ?_
        rintro e w2 ⟨rfl, b2⟩
        have hF2 : ∀ j, w2.frozen? ⟨g, j, none⟩ = false := fun j => (b2.frozen (p := ⟨g, j, none⟩) hgl).trans (hFr j)
        have hR2 := hRr.step b2
        have hB2 := hBr.trans (b2.mono (by have := hBr.size; have := punhide HG; omega))
        have hfk := hF2 (1 + k)
        have hck : w2.cell? ⟨g, 1 + k, none⟩ = some (.string s) := by
          have := hR2.2 k (by omega)
          rw [punhide HS] at this
          exact this
        have hput : RowO (w2.setCell ⟨g, 1 + k, none⟩ (.string s)) g 1 L := by
          refine ⟨by simp [World.setCell]; exact hR2.1, fun i hi => ?_⟩
          by_cases e : i = k
          · subst e
            rw [World.cell?_setCell_same _ _ _ hck]
            exact congrArg (fun x => some (Value.string x)) (punhide HS).symm
          · rw [World.cell?_setCell_other _ _ _ _ (fun h => e (by have := congrArg Addr.off h; simp at this; omega))]
            exact hR2.2 i hi
        have hfput : ∀ j, (w2.setCell ⟨g, 1 + k, none⟩ (.string s)).frozen? ⟨g, j, none⟩ = false := fun j => by rw [frozen_set]; exact hF2 j
        have hBput := hB2.setCell (p := ⟨g, 1 + k, none⟩) (Nat.le_refl _) (.string s)
        clear CC hRr hFr hBr b2 hR2 hF2 hB2
        go_wp2
        go_roundw
        case rel => exact ⟨k + 1, hlt, by go_num, hBput, hput, hfput⟩
        case measure => simp [intOf]; omega
      · have hkn : k = n := by omega
        subst hkn
        go_wp2
        go_ret
        exact ⟨by rw [punhide HG]; exact hBr, _, _, _, L, rfl, ⟨hLn, .inr ⟨g, 1, rfl, hRr⟩⟩, by omega, (fun g2 o h => by cases h; exact Nat.le_of_eq (punhide HG)), punhide HLS, punhide H4⟩
/-! ### a mark -/
theorem mask_ex (L : List Tx) (n : Nat) (hn : L.length = n) (hn2 : n ≤ 64) (hl : ∀ x ∈ L, x.length ≤ 1000000) (s : ByteArray) (hs : s.size ≤ 1000000) : ∃ (q e0 : Nat), q < 18446744073709551616 ∧ (∀ ad c w, TxIn w ad n L → Calls Tryz.prog 101 #[.slice ad n c, .string s] w fun e w' => e = .returned (.tuple #[.int .u64 (q : Int), .int .i64 (e0 : Int)]) ∧ Below w.heap.size w w') ∧
    ∀ m, L.Nodup → (∀ x ∈ L, Cm.Word x) → m < 2 ^ L.length → s.data.toList = 32 :: (namesT L m ++ [32]) → q = m := by
  obtain ⟨⟨q, e0⟩, hq⟩ : ∃ x, maskG L 0 (Cm.words s.data.toList) = x := ⟨_, rfl⟩
  have hlt : ∀ (ws : List Tx) (m : Nat), m < 18446744073709551616 → (maskG L m ws).1 < 18446744073709551616 := by
    intro ws
    induction ws with
    | nil => intro m hm; exact hm
    | cons x r ih =>
      intro m hm
      unfold maskG
      split
      · exact ih _ (Nat.or_lt_two_pow (n := 64) hm (Cm.valK_lt _ _ _))
      · decide
  refine ⟨q, e0, ?_, fun ad c w h => mask_o ad n c L hn (by omega) hl s (by omega) q e0 hq w h, fun m hd hw hm he => ?_⟩
  · have := hlt (Cm.words s.data.toList) 0 (by decide)
    rwa [hq] at this
  · rw [maskG_is hd (by omega), he, mark_mask hd hw hm] at hq
    exact (Prod.mk.inj hq).1.symm
/-- Whether the parts of a mark can be told from its line. -/
def MarkOk (L : List Tx) (mk : Mk) : Prop := L.Nodup ∧ (∀ x ∈ L, Cm.Word x) ∧ (∀ x ∈ L, (36 : UInt8) ∉ x) ∧ mk.mask < 2 ^ L.length ∧ mk.path.length ≤ 8 ∧ (∀ t ∈ mk.path, mayB t = true)
/-- A text, cut where its first dollar stands. -/
theorem dollar_ex (x : ByteArray) : ∃ (k : Nat) (a r : ByteArray), k ≤ x.size ∧ x.extract 0 k = a ∧ x.extract k x.size = r ∧ a.size ≤ x.size ∧ r.size ≤ x.size ∧ (Lib.indexByte x.data.toList 36 = (k : Int) ∨ (Lib.indexByte x.data.toList 36 = -1 ∧ k = 0)) ∧
    ∀ (p u : Tx), (36 : UInt8) ∉ p → x.data.toList = p ++ 36 :: u → a.data.toList = p ∧ r.data.toList = 36 :: u := by
  have hz : ∃ k : Nat, k ≤ x.size ∧ (Lib.indexByte x.data.toList 36 = (k : Int) ∨ (Lib.indexByte x.data.toList 36 = -1 ∧ k = 0)) := by
    by_cases hm : (36 : UInt8) ∈ x.data.toList
    · obtain ⟨p, q, hpq, hp⟩ : ∃ p q, x.data.toList = p ++ 36 :: q ∧ (36 : UInt8) ∉ p := by
        generalize x.data.toList = l at hm
        induction l with
        | nil => cases hm
        | cons c l ih =>
          by_cases e : c = 36
          · exact ⟨[], l, by rw [e]; rfl, by simp⟩
          · obtain ⟨p, q, h1, h2⟩ := ih (by rcases List.mem_cons.1 hm with g | g; exact absurd g.symm e; exact g)
            exact ⟨c :: p, q, by rw [h1]; rfl, by simp only [List.mem_cons, not_or]; exact ⟨fun g => e g.symm, h2⟩⟩
      refine ⟨p.length, ?_, .inl (by rw [hpq]; exact ib_hit hp)⟩
      rw [← len_size, hpq, List.length_append]; omega
    · exact ⟨0, Nat.zero_le _, .inr ⟨ib_miss hm, rfl⟩⟩
  obtain ⟨k, hk, hz⟩ := hz
  refine ⟨k, x.extract 0 k, x.extract k x.size, hk, rfl, rfl, by rw [ByteArray.size_extract]; omega, by rw [ByteArray.size_extract]; omega, hz, fun p u hp hx => ?_⟩
  have hkp : k = p.length := by
    rw [hx, ib_hit hp] at hz
    omega
  rw [ext_drop, hx, hkp, List.drop_left]
  refine ⟨?_, rfl⟩
  rw [Lib.extract_data, hx, List.drop_zero, Nat.sub_zero, List.take_left]
/-- A block of two cells that may be written. -/
structure Two (w : World) (b : Nat) (u v : Value) : Prop where
  lt : b < w.heap.size
  c0 : w.cell? ⟨b, 0, none⟩ = some u
  c1 : w.cell? ⟨b, 1, none⟩ = some v
  c2 : ∀ i, w.cell? ⟨b, i + 2, none⟩ = none
  f0 : w.frozen? ⟨b, 0, none⟩ = false
  f1 : w.frozen? ⟨b, 1, none⟩ = false
theorem Two.new (w : World) (u v : Value) (ty : TypeId) : Two (w.alloc (.cells #[u, v] ty)) w.heap.size u v :=
  ⟨by simp, World.cell?_alloc_at _ _ _ _ rfl, World.cell?_alloc_at _ _ _ _ rfl, fun i => (World.cell?_alloc_at _ _ _ _ rfl).trans (by simp), World.frozen?_alloc_new _ _ _ _, World.frozen?_alloc_new _ _ _ _⟩
theorem Two.step {w w' : World} {b : Nat} {u v : Value} (h : Two w b u v) (hb : Below w.heap.size w w') : Two w' b u v :=
  ⟨Nat.lt_of_lt_of_le h.lt hb.size, (hb.cell (p := ⟨b, 0, none⟩) h.lt).trans h.c0, (hb.cell (p := ⟨b, 1, none⟩) h.lt).trans h.c1, fun i => (hb.cell (p := ⟨b, i + 2, none⟩) h.lt).trans (h.c2 i), (hb.frozen (p := ⟨b, 0, none⟩) h.lt).trans h.f0, (hb.frozen (p := ⟨b, 1, none⟩) h.lt).trans h.f1⟩
theorem Two.put0 {w : World} {b : Nat} {u v : Value} (h : Two w b u v) (x : Value) : Two (w.setCell ⟨b, 0, none⟩ x) b x v :=
  ⟨by simp [World.setCell]; exact h.lt, World.cell?_setCell_same _ _ _ h.c0, by rw [World.cell?_setCell_other _ _ _ _ (fun e => by simp at e)]; exact h.c1, fun i => by rw [World.cell?_setCell_other _ _ _ _ (fun e => by simp at e)]; exact h.c2 i, by rw [frozen_set]; exact h.f0, by rw [frozen_set]; exact h.f1⟩
theorem Two.put1 {w : World} {b : Nat} {u v : Value} (h : Two w b u v) (x : Value) : Two (w.setCell ⟨b, 1, none⟩ x) b u x :=
  ⟨by simp [World.setCell]; exact h.lt, by rw [World.cell?_setCell_other _ _ _ _ (fun e => by simp at e)]; exact h.c0, World.cell?_setCell_same _ _ _ h.c1, fun i => by rw [World.cell?_setCell_other _ _ _ _ (fun e => by simp at e)]; exact h.c2 i, by rw [frozen_set]; exact h.f0, by rw [frozen_set]; exact h.f1⟩
theorem Two.other {w : World} {b : Nat} {u v : Value} (h : Two w b u v) (p : Addr) (hp : b ≠ p.block) (x : Value) : Two (w.setCell p x) b u v :=
  ⟨by simp [World.setCell]; exact h.lt, by rw [World.cell?_setCell_other _ _ _ _ (fun e => hp (congrArg Addr.block e).symm)]; exact h.c0, by rw [World.cell?_setCell_other _ _ _ _ (fun e => hp (congrArg Addr.block e).symm)]; exact h.c1, fun i => by rw [World.cell?_setCell_other _ _ _ _ (fun e => hp (congrArg Addr.block e).symm)]; exact h.c2 i, by rw [frozen_set]; exact h.f0, by rw [frozen_set]; exact h.f1⟩
/-- No row of steps lies in a block that begins with a slice and has a mask behind it. -/
theorem Two.no_steps {w : World} {b : Nat} {a : Option Addr} {m c : Nat} {z : Int} (h : Two w b (.slice a m c) (.int .u64 z)) {o : Nat} {L : List Pm.St} (hr : Np.RowSt w b o L) : L = [] := by
  cases L with
  | nil => rfl
  | cons t r =>
    obtain ⟨e, _, _⟩ := hr.2 0 (by simp)
    rw [Nat.zero_mul, Nat.add_zero] at e
    match o, e with
    | 0, e => rw [h.c0] at e; cases e
    | 1, e => rw [h.c1] at e; cases e
    | o + 2, e => rw [h.c2] at e; cases e
theorem steps_set {w : World} {a : Option Addr} {n : Nat} {L : List Pm.St} {b i : Nat} {x : Value} (h : Np.StepsIn w a n L) (hb : ∀ g o, a = some ⟨g, o, none⟩ → n ≠ 0 → g ≠ b) : Np.StepsIn (w.setCell ⟨b, i, none⟩ x) a n L := by
  refine ⟨h.1, ?_⟩
  rcases h.2 with e | ⟨g, o, e, r⟩
  · exact .inl e
  · by_cases hn : n = 0
    · exact .inl (by first | exact hn | (have := h.1; omega))
    · have hne := hb g o e hn
      refine .inr ⟨g, o, e, by simp [World.setCell]; exact r.1, fun i hi => ?_⟩
      obtain ⟨c0, c1, c2⟩ := r.2 i hi
      exact ⟨by rw [World.cell?_setCell_other _ _ _ _ (fun e => hne (congrArg Addr.block e).symm)]; exact c0, by rw [World.cell?_setCell_other _ _ _ _ (fun e => hne (congrArg Addr.block e).symm)]; exact c1, by rw [World.cell?_setCell_other _ _ _ _ (fun e => hne (congrArg Addr.block e).symm)]; exact c2⟩
set_option maxHeartbeats 2000000 in
theorem readMark_any (ad : Option Addr) (n c : Nat) (L : List Tx) (hn2 : n ≤ 64) (hl : ∀ x ∈ L, x.length ≤ 1000000) (x : ByteArray) (hx : x.size ≤ 99000) (w : World) (hI : TxIn w ad n L) (hT : Tabs w) (hP : Pow w) (hE : Errs w) :
    Calls Tryz.prog 68 #[.slice ad n c, .string x] w fun e w' => Below w.heap.size w w' ∧ ∃ a m c2 M, ∃ q : Nat, e = .returned (.agg #[.slice a m c2, .int .u64 (q : Int)]) ∧ Np.StepsIn w' a m M ∧ (∀ g o, a = some ⟨g, o, none⟩ → w.heap.size ≤ g) ∧ q < 18446744073709551616 ∧ M.length ≤ 8 ∧
      ∀ mk : Mk, MarkOk L mk → x.data.toList = Cm.flatB [namesT L mk.mask, ptL mk.path] → M = mk.path ∧ q = mk.mask := by
  obtain ⟨k, a, r, hk, ha, hr, has, hrs, hz, hpart⟩ := dollar_ex x
  obtain ⟨q, e0, hq, CM, hqm⟩ := mask_ex L n hI.1 hn2 hl a (by omega)
  obtain ⟨ok, M0, hp1, hp2, CP⟩ := parse_ex r (by omega)
  have HF : Hid (∀ mk : Mk, MarkOk L mk → x.data.toList = Cm.flatB [namesT L mk.mask, ptL mk.path] → (ok = true ∧ M0 = mk.path) ∧ q = mk.mask) := phide (by
    intro mk ⟨h1, h2, h3, h4, h5, h6⟩ he
    have he2 : x.data.toList = (32 :: (namesT L mk.mask ++ [32])) ++ 36 :: mk.path.flatMap prL := by rw [he]; unfold ptL; simp [Cm.flatB]
    have hn36 : (36 : UInt8) ∉ (32 :: (namesT L mk.mask ++ [32]) : Tx) := by
      simp only [List.mem_cons, List.mem_append, List.not_mem_nil, or_false, not_or]
      exact ⟨by decide, names_no (by decide) h3 mk.mask, by decide⟩
    obtain ⟨g1, g2⟩ := hpart _ _ hn36 he2
    exact ⟨hp2 mk.path h5 h6 (by rw [g2]; rfl), hqm mk.mask h1 h2 h4 g1⟩)
  have HP1 := phide hp1
  have HQ := phide hq
  have CI := fun W => sidx_36 x _ rfl W
  have hkz : (0 : Int) ≤ (k : Int) := by omega
  have hkx : (k : Int) ≤ (x.size : Int) := by omega
  have hmx : max (Lib.indexByte x.data.toList 36) 0 = (k : Int) := by omega
  generalize Lib.indexByte x.data.toList 36 = z at *
  clear hp1 hp2 hqm hpart hq hz has hrs hk hl hx
  go_enter Tryz.func68, Tryz.ntmps68
  go_wp2_with fail
  refine (CI _).mono ?_
  rintro e w ⟨rfl, rfl⟩
  have HQQ := punhide HQ
  have t0 : Two ((w.alloc (.cells #[.slice none 0 0, .int .u64 0] 59)).alloc (.cells #[.slice none 0 0, .int .u64 0] 59)) w.heap.size (.slice none 0 0) (.int .u64 0) := (Two.new w _ _ _).step ((Below.refl _ _).alloc (Nat.le_refl _) _)
  have t1 : Two ((w.alloc (.cells #[.slice none 0 0, .int .u64 0] 59)).alloc (.cells #[.slice none 0 0, .int .u64 0] 59)) (w.heap.size + 1) (.slice none 0 0) (.int .u64 0) := by
    have := Two.new (w.alloc (.cells #[.slice none 0 0, .int .u64 0] 59)) (.slice none 0 0) (.int .u64 0) 59
    simpa using this
  have hB0 : Below w.heap.size w ((w.alloc (.cells #[.slice none 0 0, .int .u64 0] 59)).alloc (.cells #[.slice none 0 0, .int .u64 0] 59)) := ((Below.refl _ _).alloc (Nat.le_refl _) _).alloc (by simp) _
  go_wp2_with fail
  refine (CM _ _ _ (hI.step hB0)).mono ?_
  rintro e w2 ⟨rfl, b2⟩
  replace t0 := t0.step b2
  replace t1 := t1.step b2
  have hB2 := hB0.trans (b2.mono hB0.size)
  clear b2 CM CI hI hB0
  obtain ⟨-, x0, x1, -, x2, x3⟩ := id t1
  have hB3 := hB2.setCell (p := ⟨w.heap.size + 1, 1, none⟩) (by show w.heap.size ≤ w.heap.size + 1; omega) (.int .u64 (q : Int))
  replace t1 := t1.put1 (.int .u64 (q : Int))
  replace t0 := t0.other ⟨w.heap.size + 1, 1, none⟩ (by show w.heap.size ≠ w.heap.size + 1; omega) (.int .u64 (q : Int))
  go_wp2_with fail
  refine (CP _ (tabs_step hT hB3) (hP.next hB3) (Errs.next hE hB3)).mono ?_
  rintro e w3 ⟨b3, hc⟩
  replace t0 := t0.step b3
  replace t1 := t1.step b3
  have hB4 := hB3.trans (b3.mono hB3.size)
  clear b3 CP hB2 x0 x1 x2 x3 hT hP hE
  obtain ⟨-, x0, x1, -, x2, x3⟩ := id t1
  obtain ⟨-, y0, y1, -, y2, y3⟩ := id t0
  obtain ⟨a9, m9, c9, M9, e9, rfl, hs9, hf9⟩ : ∃ a9 m9 c9 M9 e9, e = .returned (.tuple #[.slice a9 m9 c9, .int .i64 e9]) ∧ Np.StepsIn w3 a9 m9 M9 ∧ Hid (((ok = true → M9 = M0) ∧ ∀ g o, a9 = some ⟨g, o, none⟩ → w.heap.size ≤ g) ∧ M9.length ≤ 8) := by
    rcases hc with ⟨hf, rfl | rfl⟩ | ⟨ht, a, c, rfl, hs, hnew⟩
    · exact ⟨none, 0, 0, [], _, rfl, ⟨rfl, .inl rfl⟩, phide ⟨⟨fun h => (by rw [hf] at h; cases h), fun g o h => by cases h⟩, by decide⟩⟩
    · exact ⟨none, 0, 0, [], _, rfl, ⟨rfl, .inl rfl⟩, phide ⟨⟨fun h => (by rw [hf] at h; cases h), fun g o h => by cases h⟩, by decide⟩⟩
    · exact ⟨a, _, c, M0, _, rfl, hs, phide ⟨⟨fun _ => rfl, fun g o h => Nat.le_trans hB3.size (hnew g o h)⟩, (punhide HP1 ht).1⟩⟩
  clear hc hB3
  have hne : ∀ {u v : Value} {b : Nat}, (∃ a m c z, u = .slice a m c ∧ v = .int .u64 z) → Two w3 b u v → ∀ g o, a9 = some ⟨g, o, none⟩ → m9 ≠ 0 → g ≠ b := by
    rintro u v b ⟨a, m, c, z, rfl, rfl⟩ h g o e hm rfl
    rcases hs9.2 with h0 | ⟨g2, o2, e2, r⟩
    · exact hm h0
    · rw [e] at e2
      obtain ⟨rfl, rfl, _⟩ := Addr.mk.inj (Option.some.inj e2)
      have := h.no_steps r
      exact hm (by rw [← hs9.1, this]; rfl)
  have s1 := steps_set (i := 0) (x := .slice a9 m9 c9) hs9 (hne ⟨_, _, _, _, rfl, rfl⟩ t1)
  have s2 := steps_set (i := 0) (x := .slice a9 m9 c9) s1 (hne ⟨_, _, _, _, rfl, rfl⟩ t0)
  have s3 := steps_set (i := 1) (x := .int .u64 (q : Int)) s2 (hne ⟨_, _, _, _, rfl, rfl⟩ t0)
  have u1 := t1.put0 (.slice a9 m9 c9)
  have u0 := t0.other ⟨w.heap.size + 1, 0, none⟩ (by show w.heap.size ≠ w.heap.size + 1; omega) (.slice a9 m9 c9)
  have v0 := u0.put0 (.slice a9 m9 c9)
  have z0 := v0.put1 (.int .u64 (q : Int))
  have hB5 := ((hB4.setCell (p := ⟨w.heap.size + 1, 0, none⟩) (by show w.heap.size ≤ w.heap.size + 1; omega) (.slice a9 m9 c9)).setCell (p := ⟨w.heap.size, 0, none⟩) (Nat.le_refl _) (.slice a9 m9 c9)).setCell (p := ⟨w.heap.size, 1, none⟩) (Nat.le_refl _) (.int .u64 (q : Int))
  obtain ⟨-, g0, g1, -, -, -⟩ := u1
  obtain ⟨-, g2, g3, -, g4, g5⟩ := u0
  obtain ⟨-, g6, g7, -, -, -⟩ := z0
  obtain ⟨-, k0, k1, -, -, -⟩ := id v0
  have HS3 := phide s3
  have HB5 := phide hB5
  clear s1 s2 s3 hs9 hne v0 t0 t1 hB4 hB5
  go_wp2_with fail
  refine bodyPost_ret (v := .agg #[.slice a9 m9 c9, .int .u64 (q : Int)]) (by simp [results, Tryz.results68, go_sem, k0, k1, g6, g7]) rfl ?_
  refine ⟨punhide HB5, a9, m9, c9, M9, q, rfl, punhide HS3, (punhide hf9).1.2, punhide HQ, (punhide hf9).2, fun mk hmk he => ?_⟩
  obtain ⟨⟨h1, h2⟩, h3⟩ := punhide HF mk hmk he
  exact ⟨((punhide hf9).1.1 h1).trans h2, h3⟩
end Go.Proofs.YtnagecbepidfiaaGreatDoor.Pol
