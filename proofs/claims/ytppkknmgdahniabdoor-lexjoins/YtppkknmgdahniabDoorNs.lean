/- What is proved here: what Print of package lex does with tokens that were read, walked; conditions: the row lies, at most 600 tokens. Written by print10_gen.py. -/
import Derived.Test.YtppkknmgdahniabDoorNr
namespace Go.Proofs.YtppkknmgdahniabDoor.Lex
set_option maxRecDepth 100000
open Go.RowKit Go.Joins Go.Proofs.YtppkknmgdahniabDoor.Nc Go.Proofs.YtppkknmgdahniabDoor.Nq
set_option maxRecDepth 100000
set_option linter.unusedVariables false
set_option linter.unusedSimpArgs false

abbrev IsW (B : Nat) (l : List UInt8) (W : World) : Prop := Lib.IsBuilderF 43 5 B B (Lib.byteCells l) W
theorem isW_lt {B : Nat} {l : List UInt8} {W : World} (h : IsW B l W) : B < W.heap.size := by rcases h with h | h <;> exact h.lt
theorem isW_stays {B : Nat} {l : List UInt8} {W W' : World} (h : IsW B l W) (hk : Below W.heap.size W W') : IsW B l W' := Nq.stays h hk
theorem wcells_of (s : ByteArray) : Lib.strCells s = Lib.byteCells s.data.toList := rfl
def Fr (B : Nat) (w w' : World) : Prop := Below B w w' ∧ Lib.OthersKept 5 (some B) w w'
theorem Fr.refl (B : Nat) (w : World) : Fr B w w := ⟨Below.refl _ _, Lib.OthersKept.refl _ _ _⟩
theorem Fr.trans {B : Nat} {a b c : World} (h : Fr B a b) (g : Fr B b c) : Fr B a c := ⟨h.1.trans g.1, h.2.trans g.2⟩
theorem Fr.of {B : Nat} {a b : World} (h : Below a.heap.size a b) (hB : B ≤ a.heap.size) : Fr B a b := ⟨h.mono hB, fun k o hk _ _ => (h.block k (by
  rcases Nat.lt_or_ge k a.heap.size with g | g
  · exact g
  · rw [Array.getElem?_eq_none g] at hk; cases hk)).trans hk⟩
/-- A block that holds these cells. -/
def Bx (W : World) (b : Nat) (cs : Array Value) (t : TypeId) : Prop := W.heap[b]? = some (.cells cs t)
theorem Bx.new (W : World) (cs : Array Value) (t : TypeId) : Bx (W.alloc (.cells cs t)) W.heap.size cs t := Go.heap_alloc_new W _
theorem Bx.lt {W : World} {b : Nat} {cs : Array Value} {t : TypeId} (h : Bx W b cs t) : b < W.heap.size := by
  rcases Nat.lt_or_ge b W.heap.size with g | g
  · exact g
  · unfold Bx at h; rw [Array.getElem?_eq_none g] at h; cases h
theorem Bx.below {W W' : World} {b : Nat} {cs : Array Value} {t : TypeId} (h : Bx W b cs t) (g : Below W.heap.size W W') : Bx W' b cs t := (g.block b h.lt).trans h
theorem Bx.fr {W W' : World} {B b : Nat} {cs : Array Value} {t : TypeId} (h : Bx W b cs t) (g : Fr B W W') (ht : t ≠ 5) (hb : b ≠ B) : Bx W' b cs t :=
  g.2 b _ h (fun e => hb (Option.some.inj e)) (fun c fz e => by cases e; exact ht rfl)
theorem Bx.cell {W : World} {b : Nat} {cs : Array Value} {t : TypeId} (h : Bx W b cs t) (i : Nat) : W.cell? ⟨b, i, none⟩ = cs[i]? := cell_of_row W b i _ _ _ h
theorem Bx.free {W : World} {b : Nat} {cs : Array Value} {t : TypeId} (h : Bx W b cs t) (i : Nat) : W.frozen? ⟨b, i, none⟩ = false := by
  unfold Bx at h
  simp [World.frozen?, h]
theorem alloc_facts (w : World) (cs : Array Value) (t : TypeId) : ∃ w1, w.alloc (.cells cs t) = w1 ∧ w1.heap.size = w.heap.size + 1 ∧ Below w.heap.size w w1 ∧ Bx w1 w.heap.size cs t := ⟨_, rfl, by simp, (Below.refl _ _).alloc (Nat.le_refl _) _, Bx.new _ _ _⟩
theorem str_w (B : Nat) (l : List UInt8) (s : ByteArray) (w : World) (hI : IsW B l w) (hl : l.length + s.size ≤ 140737488355328) :
    Calls Tryd.prog 20 #[.pointer (some ⟨B, 0, none⟩), .string s] w fun e w' => e = .returned (.tuple #[.int .i64 s.size, .nilIface]) ∧ IsW B (l ++ s.data.toList) w' ∧ Fr B w w' := by
  refine (Tryd.Builder_WriteString_k B B _ s w hI (by rw [Lib.byteCells_length]; exact hl) (Nat.le_of_lt (isW_lt hI))).mono ?_
  rintro e w' ⟨rfl, i1, b1, k1⟩
  refine ⟨rfl, ?_, b1, k1⟩
  rw [wcells_of, ← Lib.byteCells_append] at i1
  exact .inr i1
theorem text_w (B : Nat) (l : List UInt8) (w : World) (hI : IsW B l w) :
    Calls Tryd.prog 22 #[.pointer (some ⟨B, 0, none⟩)] w fun e w' => e = .returned (.string ⟨l.toArray⟩) ∧ IsW B l w' ∧ Fr B w w' := by
  refine (Tryd.Builder_String_any_k B B l w hI (Nat.le_of_lt (isW_lt hI))).mono ?_
  rintro e w' ⟨rfl, i1, b1, k1⟩
  exact ⟨rfl, i1, b1, k1⟩
theorem prL10_snoc : ∀ (L : List Lx.Tk) (t : Lx.Tk), Lx.prL10 (L ++ [t]) = Lx.prL10 L ++ ((if L = [] then [] else [32]) ++ Lx.prT t)
  | [], t => by simp [Lx.prL10]
  | [u], t => by
    show Lx.prT u ++ 32 :: Lx.prL10 [t] = Lx.prT u ++ _
    rw [if_neg (by simp)]
    rfl
  | u :: v :: L, t => by
    have := prL10_snoc (v :: L) t
    rw [if_neg (by simp)] at this ⊢
    show Lx.prT u ++ 32 :: Lx.prL10 ((v :: L) ++ [t]) = (Lx.prT u ++ 32 :: Lx.prL10 (v :: L)) ++ _
    rw [this]
    simp
theorem prL10_len : ∀ (L : List Lx.Tk), (∀ t ∈ L, Lx.tkGood t) → (Lx.prL10 L).length ≤ L.length * 25001
  | [], _ => by simp [Lx.prL10]
  | [t], h => by
    have := prT_len (h t (by simp))
    show (Lx.prT t).length ≤ 1 * 25001
    omega
  | t :: u :: L, h => by
    have h1 := prT_len (h t (by simp))
    have h2 := prL10_len (u :: L) (fun x hx => h x (by simp [hx]))
    rw [Lx.prL10_cons, List.length_append, List.length_cons]
    simp only [List.length_cons] at h2 ⊢
    omega
def sepB (k : Nat) : ByteArray := if k = 0 then ⟨#[]⟩ else ⟨#[32]⟩
theorem sepB_zero : sepB 0 = ⟨#[]⟩ := rfl
theorem sepB_more (k : Nat) : sepB (k + 1) = ⟨#[32]⟩ := rfl
theorem sepB_is (k : Nat) : (sepB k).data.toList = if k = 0 then [] else [32] := by unfold sepB; split <;> rfl
theorem sepB_len (k : Nat) : (sepB k).size ≤ 1 := by unfold sepB; split <;> decide
set_option maxHeartbeats 4000000 in
theorem print10_any (T : List (Lx.Tk × Nat)) (hg : ∀ x ∈ T, Lx.tkGood x.1) (h6 : T.length ≤ 600) (V : Value) (N : Nat) (p : ByteArray) (hp : Lx.prL10 (T.map Prod.fst) = p.data.toList) (w : World) (h : TokIn w V N T) :
    Calls Tryd.prog 9 #[V] w fun e w' => e = .returned (.string p) ∧ Below w.heap.size w w' := by
  obtain ⟨a, c, rfl⟩ := h.shape
  obtain ⟨n, hn⟩ : ∃ n, T.length = n := ⟨_, rfl⟩
  have HH := lhide h
  have HG := lhide hg
  have HN := lhide hn
  have HP := lhide hp
  rw [hn]
  rw [hn] at h6
  clear h hg hn hp
  go_enter Tryd.func9, Tryd.ntmps9
  go_wp2_with fail
  go_loopw [4, 9] (fun bt I wr => ∃ k : Nat, I = .int .i64 (k : Int) ∧ k ≤ n ∧ bt = .string (sepB k) ∧ IsW w.heap.size (Lx.prL10 ((T.map Prod.fst).take k)) wr ∧ Below w.heap.size w wr) (fun _ I _ => n - (intOf I).toNat)
  case atStart => exact ⟨0, rfl, Nat.zero_le _, rfl, Lib.IsBuilderF.of (Lib.fresh_isBuilder 43 5 w), (Below.refl _ w).alloc (Nat.le_refl _) _⟩
  case round =>
    obtain ⟨k, rfl, hk9, rfl, hI, hB⟩ := hrel
    by_cases hlt : k < n
    · have hn := lunhide HN
      have hk1 : k < T.length := by omega
      obtain ⟨g, e1, -, hgl, c0, c1, c2, c3, c4, c5⟩ := tok_at (lunhide HH) k hk1
      have hgd := lunhide HG _ (List.getElem_mem hk1)
      obtain ⟨⟨t, r⟩, ht⟩ : ∃ x, T[k]'hk1 = x := ⟨_, rfl⟩
      rw [ht] at c0 c1 c2 c3 c4 c5 hgd
      dsimp only at c0 c1 c2 c3 c4 c5 hgd
      obtain ⟨u, hu⟩ := ex_txt (Lx.prT t)
      have hul : u.size ≤ 25000 := by have := prT_len hgd; rw [hu, lsize] at this; exact this
      obtain ⟨ps, hps⟩ : ∃ l, Lx.prL10 ((T.map Prod.fst).take k) = l := ⟨_, rfl⟩
      have hpl : ps.length ≤ 600 * 25001 := by
        have h1 := prL10_len ((T.map Prod.fst).take k) (fun x hx => by
          obtain ⟨y, hy, rfl⟩ := List.mem_map.1 (List.mem_of_mem_take hx)
          exact lunhide HG y hy)
        rw [hps, List.length_take] at h1
        have h2 := Nat.mul_le_mul_right 25001 (show min k (T.map Prod.fst).length ≤ 600 by omega)
        omega
      have hnext : ps ++ (sepB k).data.toList ++ u.data.toList = Lx.prL10 ((T.map Prod.fst).take (k + 1)) := by
        have hk2 : k < (T.map Prod.fst).length := by rw [List.length_map]; exact hk1
        rw [List.take_succ_eq_append_getElem hk2, prL10_snoc, hps, sepB_is, List.getElem_map, ht, hu, List.append_assoc]
        congr 2
        by_cases hk0 : k = 0
        · rw [if_pos hk0, if_pos (by rw [hk0]; rfl)]
        · rw [if_neg hk0, if_neg]
          intro e
          have := congrArg List.length e
          rw [List.length_take, List.length_map] at this
          simp only [List.length_nil] at this
          omega
      rw [hps] at hI
      have HNX := lhide hnext
      have HGD := lhide hgd
      have HU := lhide hu
      obtain ⟨w3, e3, z3, g3, x3⟩ := alloc_facts wr #[.int .i64 (t.k : Int), .int .i64 ((N : Int) - (r : Int)), .string ⟨t.tx.toArray⟩, .bool t.ng, .string ⟨t.dg.toArray⟩, .int .i64 (t.sc : Int)] 33
      have hlw := isW_lt hI
      have hI3 := isW_stays hI g3
      have hB3 : Below w.heap.size w w3 := hB.trans (g3.mono hB.size)
      have HE := lhide e3
      have HX3 := lhide x3
      have HI3 := lhide hI3
      have HB3 := lhide hB3
      have hbb : wr.heap.size ≠ w.heap.size := by omega
      have key : ∀ {i : Nat} {v : Value}, w.cell? ⟨g, i, none⟩ = some v → wr.cell? ⟨g, i, none⟩ = some v := fun hc => (hB.cell (p := ⟨g, _, none⟩) hgl).trans hc
      replace c0 := key c0
      replace c1 := key c1
      replace c2 := key c2
      replace c3 := key c3
      replace c4 := key c4
      replace c5 := key c5
      subst e1
      have hki : (k : Int) < (n : Int) := by omega
      have hsl := sepB_len k
      have HL1 : Hid (ps.length + (sepB k).size ≤ 140737488355328) := lhide (by omega)
      have HL2 : Hid ((ps ++ (sepB k).data.toList).length + u.size ≤ 140737488355328) := lhide (by rw [List.length_append, lsize]; omega)
      clear hB hI hgd hu ht hn hk1 e3 z3 g3 x3 hI3 hB3 hlw hnext hps key hgl hpl hul hsl
      go_upto_region 6 with fail
      rw [lunhide HE]
      clear HE c0 c1 c2 c3 c4 c5
      go_wp2_with fail
      refine (str_w _ ps (sepB k) w3 (lunhide HI3) (lunhide HL1)).mono ?_
      rintro e w4 ⟨rfl, hI4, hF4⟩
      have HX4 := lhide ((lunhide HX3).fr hF4 (by decide) hbb)
      have HB4 := lhide ((lunhide HB3).trans hF4.1)
      have HI4 := lhide hI4
      obtain ⟨d0, d1, d2, d3, d4, d5⟩ : _ ∧ _ ∧ _ ∧ _ ∧ _ ∧ _ := ⟨(lunhide HX4).cell 0, (lunhide HX4).cell 1, (lunhide HX4).cell 2, (lunhide HX4).cell 3, (lunhide HX4).cell 4, (lunhide HX4).cell 5⟩
      clear hI4 hF4
      go_wp2_with fail
      refine (printToken_any t (lunhide HGD) _ u (lunhide HU) w4).mono ?_
      rintro e w5 ⟨rfl, b5⟩
      have HI5 := lhide (isW_stays (lunhide HI4) b5)
      have HB5 := lhide ((lunhide HB4).trans (b5.mono (lunhide HB4).size))
      clear b5 d0 d1 d2 d3 d4 d5
      go_wp2_with fail
      refine (str_w _ (ps ++ (sepB k).data.toList) u w5 (lunhide HI5) (lunhide HL2)).mono ?_
      rintro e w6 ⟨rfl, hI6, hF6⟩
      have HB6 := lhide ((lunhide HB5).trans hF6.1)
      rw [lunhide HNX] at hI6
      have HI6 := lhide hI6
      clear hI6 hF6
      go_wp2_with fail
      go_roundw
      case rel => exact ⟨k + 1, by go_num, hlt, rfl, lunhide HI6, lunhide HB6⟩
      case measure => simp [intOf]; omega
    · have hki : ¬ (k : Int) < (n : Int) := by omega
      have hfin : Lx.prL10 ((T.map Prod.fst).take k) = p.data.toList := by
        rw [List.take_of_length_le (by rw [List.length_map, lunhide HN]; omega)]; exact lunhide HP
      rw [hfin] at hI
      have HI := lhide hI
      have HB := lhide hB
      clear hI hB hfin
      go_wp2_with fail
      refine (text_w _ _ _ (lunhide HI)).mono ?_
      rintro e w3 ⟨rfl, i3, f3⟩
      have HB3 := lhide ((lunhide HB).trans f3.1)
      clear i3 f3
      rw [mk_of]
      go_wp2_with fail
      go_ret
      exact ⟨rfl, lunhide HB3⟩
end Go.Proofs.YtppkknmgdahniabDoor.Lex
