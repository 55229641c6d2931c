/- What is proved here: what All of package lex does, walked; conditions: the text has at most a million bytes, the tables of unicode/utf8 and of signs lie. -/
import Derived.Test.YtppkknmgdahniabDoorNg
import Derived.Deep.LoopGhost
import Derived.WalkMore
namespace Go.Proofs.YtppkknmgdahniabDoor.Lex
set_option maxRecDepth 100000
open Go.RowKit Go.Proofs.YtppkknmgdahniabDoor.Nc Go.Proofs.YtppkknmgdahniabDoor.Nq
set_option maxRecDepth 100000
set_option linter.unusedVariables false
set_option linter.unusedSimpArgs false

/-- A token's cells. -/
def tkC (N : Nat) (x : Lx.Tk × Nat) : List Value := [.int .i64 (x.1.k : Int), .int .i64 ((N : Int) - (x.2 : Int)), .string ⟨x.1.tx.toArray⟩, .bool x.1.ng, .string ⟨x.1.dg.toArray⟩, .int .i64 (x.1.sc : Int)]
def rowC (N : Nat) (T : List (Lx.Tk × Nat)) : List Value := T.flatMap (tkC N)
theorem rowC_len (N : Nat) (T : List (Lx.Tk × Nat)) : (rowC N T).length = T.length * 6 := by
  induction T with
  | nil => rfl
  | cons x r ih => simp only [rowC, List.flatMap_cons, List.length_append, List.length_cons] at *; rw [ih]; simp [tkC]; omega
theorem rowC_snoc (N : Nat) (T : List (Lx.Tk × Nat)) (x : Lx.Tk × Nat) : rowC N (T ++ [x]) = rowC N T ++ tkC N x := by
  simp [rowC, List.flatMap_append]
/-- A row of tokens of a text of N bytes. -/
def TokIn (w : World) (V : Value) (N : Nat) (T : List (Lx.Tk × Nat)) : Prop := w.ownsRow 0 33 6 V T.length (rowC N T)

theorem dropWhile_idem (p : UInt8 → Bool) : ∀ l : List UInt8, (l.dropWhile p).dropWhile p = l.dropWhile p
  | [] => rfl
  | c :: t => by
    by_cases h : p c = true
    · simp only [List.dropWhile_cons, h, if_true]; exact dropWhile_idem p t
    · simp only [List.dropWhile_cons, h, if_false, Bool.false_eq_true]
theorem trim_idem (l : Lx.Tx) : Lx.trimB (Lx.trimB l) = Lx.trimB l := by
  unfold Lx.trimB Lx.trimC
  exact dropWhile_idem _ l
theorem lex_trim (l : Lx.Tx) : Lx.lexO (Lx.trimB l) = Lx.lexO l := by
  by_cases h : Lx.trimB l = []
  · rw [Lx.lex_end h, Lx.lex_end (by rw [trim_idem]; exact h)]
  · cases hr : Lx.readO (Lx.trimB l) with
    | none => rw [Lx.lex_wrong h hr, Lx.lex_wrong (by rw [trim_idem]; exact h) (by rw [trim_idem]; exact hr)]
    | some x => rw [Lx.lex_next h hr, Lx.lex_next (by rw [trim_idem]; exact h) (by rw [trim_idem]; exact hr), trim_idem]

theorem own_below {w w' : World} {base : Nat} {e : TypeId} {size : Nat} {v : Value} {n : Nat} {xs : List Value} (h : w.ownsRow base e size v n xs) (hB : Below w.heap.size w w') : w'.ownsRow base e size v n xs := by
  refine ⟨h.1, ?_⟩
  rcases h.2 with hn | ⟨g, cap, cur, hv, hb, hg, rest⟩
  · exact .inl hn
  · exact .inr ⟨g, cap, cur, hv, hb, (hB.block g (Array.getElem?_eq_some_iff.1 hg).1).trans hg, rest⟩
theorem own_base {w : World} {base b2 : Nat} {e : TypeId} {size : Nat} {v : Value} {n : Nat} {xs : List Value} (h : w.ownsRow base e size v n xs) (hb2 : b2 ≤ base) : w.ownsRow b2 e size v n xs := by
  refine ⟨h.1, ?_⟩
  rcases h.2 with hn | ⟨g, cap, cur, hv, hb, rest⟩
  · exact .inl hn
  · exact .inr ⟨g, cap, cur, hv, Nat.le_trans hb2 hb, rest⟩
theorem own_shape {w : World} {base : Nat} {e : TypeId} {size : Nat} {v : Value} {n : Nat} {xs : List Value} (h : w.ownsRow base e size v n xs) : ∃ a c, v = .slice a n c := by
  rcases h.2 with ⟨rfl, rfl⟩ | ⟨g, cap, cur, rfl, _⟩
  · exact ⟨none, 0, rfl⟩
  · exact ⟨_, _, rfl⟩
theorem own_blk {w : World} {base : Nat} {e : TypeId} {size : Nat} {v : Value} {n : Nat} {xs : List Value} (h : w.ownsRow base e size v n xs) : ∀ j, v.ownBlock = some j → base ≤ j := by
  intro j hj
  rcases h.2 with ⟨rfl, rfl⟩ | ⟨g, cap, cur, rfl, hb, _⟩
  · cases hj
  · have : g = j := Option.some.inj hj
    omega
theorem new_cells (W : World) (cs : List Value) (t : TypeId) : ∀ j u, cs[j]? = some u → (W.alloc (.cells cs.toArray t)).cell? ((⟨W.heap.size, 0, none⟩ : Addr).add j) = some u := by
  intro j u h
  have e : (⟨W.heap.size, 0, none⟩ : Addr).add j = ⟨W.heap.size, j, none⟩ := by unfold Addr.add; split <;> simp_all
  rw [e, World.cell?_alloc_at _ _ _ _ rfl]
  simpa using h
theorem one_tk (N : Nat) (x : Lx.Tk × Nat) : ∀ u ∈ tkC N x, u.oneCell' = true := by
  intro u hu
  simp only [tkC, List.mem_cons, List.not_mem_nil, or_false] at hu
  rcases hu with rfl | rfl | rfl | rfl | rfl | rfl <;> rfl
theorem tk_info : ∃ i, Tryd.prog.info? 33 = some i ∧ i.zero = some (.agg #[.int .i64 0, .int .i64 0, .string ⟨#[]⟩, .bool false, .string ⟨#[]⟩, .int .i64 0]) ∧ i.size = 6 ∧ i.bytes = 64 := by
  have h : (Tryd.prog.info? 33).map (fun i => (i.zero, i.size, i.bytes)) = some (some (.agg #[.int .i64 0, .int .i64 0, .string ⟨#[]⟩, .bool false, .string ⟨#[]⟩, .int .i64 0]), 6, 64) := by kernel_rfl
  obtain ⟨i, hi, hx⟩ := Option.map_eq_some_iff.1 h
  simp only [Prod.mk.injEq] at hx
  exact ⟨i, hi, hx.1, hx.2.1, hx.2.2⟩
theorem trim_l (x y : ByteArray) (h : Lx.trimB x.data.toList = y.data.toList) (w : World) : Calls Tryd.prog 19 #[.string x, .string ⟨#[32, 9, 10, 13]⟩] w fun e w' => e = .returned (.string y) ∧ Below w.heap.size w w' := by
  refine (Tryd.strings_TrimLeft x ⟨#[32, 9, 10, 13]⟩ w (by decide) (ascii_of_all (by decide))).mono ?_
  rintro e w' ⟨rfl, hb⟩
  refine ⟨?_, hb⟩
  rw [show x.data.toList.dropWhile (fun c => (⟨#[32, 9, 10, 13]⟩ : ByteArray).data.toList.contains c) = y.data.toList from h, mk_of]
theorem trim_size {x y : ByteArray} (h : Lx.trimB x.data.toList = y.data.toList) : y.size ≤ x.size := by
  have := Lx.trim_le x.data.toList Lx.blanks
  rw [show Lx.trimC x.data.toList Lx.blanks = y.data.toList from h, lsize, lsize] at this
  exact this
theorem err_of {l : Lx.Tx} (h : ¬ 2000 < l.length) {T : List (Lx.Tk × Nat)} (hT : Lx.lexO l = some T) : (T.length ≤ 600 → Lx.errL l = 0 ∧ Lx.allL l = T) ∧ (600 < T.length → Lx.errL l = 3 ∧ Lx.allL l = []) := by
  unfold Lx.errL Lx.allL
  rw [if_neg h, if_neg h, hT]
  dsimp only
  exact ⟨fun h2 => by rw [if_neg (by omega), if_neg (by omega)]; exact ⟨rfl, rfl⟩, fun h2 => by rw [if_pos h2, if_pos h2]; exact ⟨rfl, rfl⟩⟩
theorem err_wrong {l : Lx.Tx} (h : ¬ 2000 < l.length) (hT : Lx.lexO l = none) : Lx.errL l = 30 ∧ Lx.allL l = [] := by
  unfold Lx.errL Lx.allL
  rw [if_neg h, if_neg h, hT]
  exact ⟨rfl, rfl⟩
theorem lex_step {l r : Lx.Tx} {T : List (Lx.Tk × Nat)} {x : Lx.Tk × Nat} (hl : Lx.lexO l = (Lx.lexO r).map (fun q => T ++ q)) (ht : Lx.trimB r = r) (hne : ¬ r = []) (hr : Lx.readO r = some x) (y : Lx.Tx) (hy : Lx.trimB (r.drop x.2) = y) :
    Lx.lexO l = (Lx.lexO y).map (fun q => (T ++ [(x.1, r.length)]) ++ q) := by
  have hn := Lx.lex_next (l := r) (x := x) (by rw [ht]; exact hne) (by rw [ht]; exact hr)
  rw [ht] at hn
  rw [hl, hn, ← hy, lex_trim, Option.map_map]
  congr 1
  funext q
  simp
set_option maxHeartbeats 16000000 in
theorem all_any (s : ByteArray) (hs : s.size ≤ 1000000) (w : World) (hT : Tabs w) (hS : Sg w) :
    Calls Tryd.prog 8 #[.string s] w fun e w' => ∃ V, e = .returned (.tuple #[V, .int .i64 (Lx.errL s.data.toList : Int)]) ∧ TokIn w' V s.size (Lx.allL s.data.toList) ∧ Below w.heap.size w w' := by
  by_cases hbig : 2000 < s.size
  · have e1 : Lx.errL s.data.toList = 3 := by unfold Lx.errL; rw [if_pos (by rw [lsize]; exact hbig)]
    have e2 : Lx.allL s.data.toList = [] := by unfold Lx.allL; rw [if_pos (by rw [lsize]; exact hbig)]
    rw [e1, e2]
    have hi : (2000 : Int) < (s.size : Int) := by omega
    clear hT hS e1 e2
    go_enter Tryd.func8, Tryd.ntmps8
    go_wp2_with fail
    go_step3
    go_wp2_with fail
    try rw [Exit.noGoto_ret]
    go_ret2
    exact ⟨_, rfl, World.ownsRow_nil _ _ _ _, Below.refl _ _⟩
  · have hi : ¬ (2000 : Int) < (s.size : Int) := by omega
    have hbl : ¬ 2000 < s.data.toList.length := by rw [lsize]; exact hbig
    obtain ⟨ti, hti, htz0, htz1, htz2⟩ := tk_info
    obtain ⟨er, her⟩ : ∃ n, Lx.errL s.data.toList = n := ⟨_, rfl⟩
    obtain ⟨TT, hTT⟩ : ∃ T, Lx.allL s.data.toList = T := ⟨_, rfl⟩
    rw [her, hTT]
    have HER := lhide (And.intro her hTT)
    have hz0 : (w.alloc (.cells #[.func (Fn.func 13) #[] #[], .func (Fn.func 14) #[] #[], .func (Fn.func 15) #[] #[], .func (Fn.func 16) #[] #[], .func (Fn.func 17) #[] #[], .func (Fn.func 18) #[] #[]] 36)).heap.size = w.heap.size + 1 := by simp
    have hB0 : Below w.heap.size w (w.alloc (.cells #[.func (Fn.func 13) #[] #[], .func (Fn.func 14) #[] #[], .func (Fn.func 15) #[] #[], .func (Fn.func 16) #[] #[], .func (Fn.func 17) #[] #[], .func (Fn.func 18) #[] #[]] 36)) := (Below.refl _ w).alloc (Nat.le_refl _) _
    have HF0 := lhide (And.intro hB0 (And.intro (Nq.Tabs.step hT ((Below.refl _ w).alloc (Nat.le_refl _) (.cells #[.func (Fn.func 13) #[] #[], .func (Fn.func 14) #[] #[], .func (Fn.func 15) #[] #[], .func (Fn.func 16) #[] #[], .func (Fn.func 17) #[] #[], .func (Fn.func 18) #[] #[]] 36))) (Sg.below hS ((Below.refl _ w).alloc (Nat.le_refl _) (.cells #[.func (Fn.func 13) #[] #[], .func (Fn.func 14) #[] #[], .func (Fn.func 15) #[] #[], .func (Fn.func 16) #[] #[], .func (Fn.func 17) #[] #[], .func (Fn.func 18) #[] #[]] 36)))))
    have HC0 : Hid ((w.alloc (.cells #[.func (Fn.func 13) #[] #[], .func (Fn.func 14) #[] #[], .func (Fn.func 15) #[] #[], .func (Fn.func 16) #[] #[], .func (Fn.func 17) #[] #[], .func (Fn.func 18) #[] #[]] 36)).cell? ⟨w.heap.size, 0, none⟩ = some (.func (Fn.func 13) #[] #[]) ∧ (w.alloc (.cells #[.func (Fn.func 13) #[] #[], .func (Fn.func 14) #[] #[], .func (Fn.func 15) #[] #[], .func (Fn.func 16) #[] #[], .func (Fn.func 17) #[] #[], .func (Fn.func 18) #[] #[]] 36)).cell? ⟨w.heap.size, 1, none⟩ = some (.func (Fn.func 14) #[] #[]) ∧ (w.alloc (.cells #[.func (Fn.func 13) #[] #[], .func (Fn.func 14) #[] #[], .func (Fn.func 15) #[] #[], .func (Fn.func 16) #[] #[], .func (Fn.func 17) #[] #[], .func (Fn.func 18) #[] #[]] 36)).cell? ⟨w.heap.size, 2, none⟩ = some (.func (Fn.func 15) #[] #[]) ∧ (w.alloc (.cells #[.func (Fn.func 13) #[] #[], .func (Fn.func 14) #[] #[], .func (Fn.func 15) #[] #[], .func (Fn.func 16) #[] #[], .func (Fn.func 17) #[] #[], .func (Fn.func 18) #[] #[]] 36)).cell? ⟨w.heap.size, 3, none⟩ = some (.func (Fn.func 16) #[] #[]) ∧ (w.alloc (.cells #[.func (Fn.func 13) #[] #[], .func (Fn.func 14) #[] #[], .func (Fn.func 15) #[] #[], .func (Fn.func 16) #[] #[], .func (Fn.func 17) #[] #[], .func (Fn.func 18) #[] #[]] 36)).cell? ⟨w.heap.size, 4, none⟩ = some (.func (Fn.func 17) #[] #[]) ∧ (w.alloc (.cells #[.func (Fn.func 13) #[] #[], .func (Fn.func 14) #[] #[], .func (Fn.func 15) #[] #[], .func (Fn.func 16) #[] #[], .func (Fn.func 17) #[] #[], .func (Fn.func 18) #[] #[]] 36)).cell? ⟨w.heap.size, 5, none⟩ = some (.func (Fn.func 18) #[] #[])) := lhide ⟨World.cell?_alloc_at _ _ _ _ rfl, World.cell?_alloc_at _ _ _ _ rfl, World.cell?_alloc_at _ _ _ _ rfl, World.cell?_alloc_at _ _ _ _ rfl, World.cell?_alloc_at _ _ _ _ rfl, World.cell?_alloc_at _ _ _ _ rfl⟩
    obtain ⟨r0, hr0⟩ := ex_txt (Lx.trimB s.data.toList)
    have C0 := lhide (fun W => trim_l s r0 hr0 W)
    have hr0s := trim_size hr0
    have hr0t : Lx.trimB r0.data.toList = r0.data.toList := by rw [← hr0]; exact trim_idem _
    have hr0l : Lx.lexO s.data.toList = (Lx.lexO r0.data.toList).map (fun q => [] ++ q) := by
      rw [← hr0, lex_trim]; cases Lx.lexO s.data.toList <;> rfl
    have HL0 := lhide (And.intro hr0l hr0t)
    clear hT hS her hTT hB0 hr0 hr0t hr0l
    go_enter Tryd.func8, Tryd.ntmps8
    go_wp2_with fail
    go_step3
    go_wp2_with fail
    go_step3
    generalize (w.alloc (.cells #[.func (Fn.func 13) #[] #[], .func (Fn.func 14) #[] #[], .func (Fn.func 15) #[] #[], .func (Fn.func 16) #[] #[], .func (Fn.func 17) #[] #[], .func (Fn.func 18) #[] #[]] 36)) = w0 at hz0 HF0 HC0 ⊢
    obtain ⟨rb, hrb⟩ : ∃ rb, w.heap.size = rb := ⟨_, rfl⟩
    rw [hrb] at HC0 hz0
    rw [hrb]
    have hrb9 : rb ≤ w0.heap.size ∧ w.heap.size ≤ w0.heap.size := by omega
    have hrbl : rb < w0.heap.size := by omega
    have HRB := lhide hrb
    have HTB : Hid (∀ W, Below w0.heap.size w0 W → Tabs W) := lhide (fun W hW => Nq.Tabs.step (lunhide HF0).2.1 hW)
    have HSG : Hid (∀ W, Below w0.heap.size w0 W → Sg W) := lhide (fun W hW => Sg.below (lunhide HF0).2.2 hW)
    have HC : Hid (∀ W, Below w0.heap.size w0 W → W.cell? ⟨rb, 0, none⟩ = some (.func (Fn.func 13) #[] #[]) ∧ W.cell? ⟨rb, 1, none⟩ = some (.func (Fn.func 14) #[] #[]) ∧ W.cell? ⟨rb, 2, none⟩ = some (.func (Fn.func 15) #[] #[]) ∧ W.cell? ⟨rb, 3, none⟩ = some (.func (Fn.func 16) #[] #[]) ∧ W.cell? ⟨rb, 4, none⟩ = some (.func (Fn.func 17) #[] #[]) ∧ W.cell? ⟨rb, 5, none⟩ = some (.func (Fn.func 18) #[] #[])) := lhide (fun W hW => by
      obtain ⟨c0, c1, c2, c3, c4, c5⟩ := lunhide HC0
      exact ⟨(hW.cell (p := ⟨rb, 0, none⟩) hrbl).trans c0, (hW.cell (p := ⟨rb, 1, none⟩) hrbl).trans c1, (hW.cell (p := ⟨rb, 2, none⟩) hrbl).trans c2, (hW.cell (p := ⟨rb, 3, none⟩) hrbl).trans c3, (hW.cell (p := ⟨rb, 4, none⟩) hrbl).trans c4, (hW.cell (p := ⟨rb, 5, none⟩) hrbl).trans c5⟩)
    have HBW : Hid (∀ W, Below w0.heap.size w0 W → Below w.heap.size w W) := lhide (fun W hW => (lunhide HF0).1.trans (hW.mono (by omega)))
    clear hrb HC0 hz0 hrb9
    go_wp2_with fail
    refine (lunhide C0 _).mono ?_
    rintro e w1 ⟨rfl, b1⟩
    have HB1 := lhide b1
    clear b1 C0
    go_wp2_with fail
    go_loopg [5, 6] (s.size + 1) (fun g V R wr => ∃ (T : List (Lx.Tk × Nat)) (r : ByteArray), R = .string r ∧ r.size + T.length ≤ s.size ∧ r.size < g ∧ Hid (Lx.lexO s.data.toList = (Lx.lexO r.data.toList).map (fun q => T ++ q) ∧ Lx.trimB r.data.toList = r.data.toList) ∧
      wr.ownsRow w0.heap.size 33 6 V T.length (rowC s.size T) ∧ Below w0.heap.size w0 wr)
    case atStart => exact ⟨[], r0, rfl, by simpa using hr0s, by omega, HL0, World.ownsRow_nil _ _ _ _, lunhide HB1⟩
    case round =>
      obtain ⟨T, r, rfl, hrT, hrg, HLX, hown, hB⟩ := hrel
      have HOWN := lhide hown
      have HB := lhide hB
      obtain ⟨va, vc, hve⟩ := own_shape hown
      subst hve
      clear hown hB
      obtain ⟨wo, rfl⟩ : ∃ wo, wo = wr := ⟨_, rfl⟩
      by_cases hr0 : r.size = 0
      · have hre : (r.toList.isEmpty) = true := empty_yes hr0
        have hre2 : r = ⟨#[]⟩ := bext (List.eq_nil_of_length_eq_zero (by rw [lsize]; exact hr0))
        have hlx : Lx.lexO s.data.toList = some T := by
          have h := (lunhide HLX).1
          rw [hre2, Lx.lex_end (show Lx.trimB (⟨#[]⟩ : ByteArray).data.toList = [] from rfl)] at h
          rw [h]; simp
        have HEE := lhide (err_of hbl hlx)
        subst hre2
        clear hlx hre
        by_cases hbig2 : 600 < T.length
        · have hi2 : (600 : Int) < (T.length : Int) := by omega
          obtain ⟨rfl, rfl⟩ : er = 3 ∧ TT = [] := by
            have h1 := (lunhide HEE).2 hbig2
            have h2 := lunhide HER
            exact ⟨h2.1.symm.trans h1.1, h2.2.symm.trans h1.2⟩
          clear hbig2
          go_wp2_with fail
          try rw [Exit.noGoto_ret]
          go_ret2
          exact ⟨_, rfl, World.ownsRow_nil _ _ _ _, lunhide HBW _ (lunhide HB)⟩
        · have hi2 : ¬ (600 : Int) < (T.length : Int) := by omega
          obtain ⟨rfl, hTT⟩ : er = 0 ∧ TT = T := by
            have h1 := (lunhide HEE).1 (by omega)
            have h2 := lunhide HER
            exact ⟨h2.1.symm.trans h1.1, h2.2.symm.trans h1.2⟩
          have HTT := lhide hTT
          clear hbig2 hTT
          go_wp2_with fail
          try rw [Exit.noGoto_ret]
          go_ret2
          exact ⟨_, rfl, by rw [lunhide HTT]; exact own_base (lunhide HOWN) (Nat.zero_le _), lunhide HBW _ (lunhide HB)⟩
      · have hre : (r.toList.isEmpty) = false := empty_no hr0
        have hne : ¬ r.data.toList = [] := fun e => hr0 (by have := congrArg List.length e; rw [lsize] at this; exact this)
        have hrs : r.size ≤ 4000 := by omega
        have HNE := lhide hne
        clear hne hr0
        cases gk with
        | zero => omega
        | succ g =>
        go_wp2_with fail
        go_loopg [5, 6, 23] 6 (fun h V5 R6 I wx => ∃ k : Nat, V5 = .slice va T.length vc ∧ R6 = .string r ∧ I = .int .i64 (k : Int) ∧ k + h = 6 ∧ Hid (∀ j, j < k → Lx.rdr j r.data.toList = none) ∧ Below wo.heap.size wo wx)
        case atStart => exact ⟨0, rfl, rfl, rfl, rfl, lhide (fun j hj => absurd hj (Nat.not_lt_zero _)), Below.refl _ _⟩
        case round =>
          obtain ⟨k, rfl, rfl, rfl, hkh, HNO, hBx⟩ := hrel
          have HB2 : Hid (Below w0.heap.size w0 wr) := lhide ((lunhide HB).trans (hBx.mono (lunhide HB).size))
          have HBX := lhide hBx
          clear hBx
          rcases (show k = 0 ∨ k = 1 ∨ k = 2 ∨ k = 3 ∨ k = 4 ∨ k = 5 ∨ k = 6 by omega) with rfl | rfl | rfl | rfl | rfl | rfl | rfl
          · obtain ⟨c0, c1, c2, c3, c4, c5⟩ := lunhide HC _ (lunhide HB2)
            have CR : Hid (∀ W, Below w0.heap.size w0 W → Calls Tryd.prog 13 #[.string r] W fun e w' => e = .returned (rdV (Lx.rdr 0 r.data.toList)) ∧ Below W.heap.size W w') := lhide (fun W hW => readName_any r _ rfl hrs W)
            cases hrd : Lx.rdr 0 r.data.toList with
            | none =>
              rw [hrd] at CR
              have CR2 : Hid (∀ W, Below w0.heap.size w0 W → Calls Tryd.prog 13 #[.string r] W fun e w' => e = .returned (.tuple #[.agg #[.int .i64 0, .int .i64 0, .string ⟨#[]⟩, .bool false, .string ⟨#[]⟩, .int .i64 0], .int .i64 0]) ∧ Below W.heap.size W w') := lhide (fun W hW => lunhide CR W hW)
              have HN2 : Hid (∀ j, j < 1 → Lx.rdr j r.data.toList = none) := lhide (fun j hj => by
                rcases (show j < 0 ∨ j = 0 by omega) with h | rfl
                · exact lunhide HNO j h
                · exact hrd)
              cases gk with
              | zero => omega
              | succ h9 =>
              clear CR hrd
              go_wp2_with fail
              refine (lunhide CR2 _ (lunhide HB2)).mono ?_
              rintro e w3 ⟨rfl, b3⟩
              have HB3 := lhide (((lunhide HBX).trans (b3.mono (lunhide HBX).size)).alloc (Nat.le_trans (lunhide HBX).size b3.size) (.cells #[.int .i64 0, .int .i64 0, .string ⟨#[]⟩, .bool false, .string ⟨#[]⟩, .int .i64 0] 33))
              clear b3 c0 c1 c2 c3 c4 c5
              go_wp2_with fail
              go_roundg h9
              case rel => exact ⟨1, rfl, rfl, by go_num, by omega, HN2, lunhide HB3⟩
              case measure => omega
            | some x =>
              obtain ⟨t, n⟩ := x
              rw [hrd] at CR
              have CR2 : Hid (∀ W, Below w0.heap.size w0 W → Calls Tryd.prog 13 #[.string r] W fun e w' => e = .returned (.tuple #[.agg #[.int .i64 (t.k : Int), .int .i64 0, .string ⟨t.tx.toArray⟩, .bool t.ng, .string ⟨t.dg.toArray⟩, .int .i64 (t.sc : Int)], .int .i64 (n : Int)]) ∧ Below W.heap.size W w') := lhide (fun W hW => lunhide CR W hW)
              have hsz := Lx.rdr_size hrd
              have hn1 : 1 ≤ n := hsz.1
              have hn2 : n ≤ r.size := by have := hsz.2; rw [lsize] at this; exact this
              obtain ⟨y, hy⟩ := ex_txt (Lx.trimB (r.extract n r.size).data.toList)
              have CT := lhide (fun W => trim_l (r.extract n r.size) y hy W)
              have hys : y.size ≤ r.size - n := by
                have := trim_size hy
                rw [ByteArray.size_extract] at this; omega
              have HST : Hid (Lx.lexO s.data.toList = (Lx.lexO y.data.toList).map (fun q => (T ++ [(t, r.size)]) ++ q) ∧ Lx.trimB y.data.toList = y.data.toList) := lhide ⟨by
                have := lex_step (lunhide HLX).1 (lunhide HLX).2 (lunhide HNE) (Lx.read_at (by decide) (lunhide HNO) hrd) y.data.toList (by rw [← hy, ldrop])
                rw [lsize] at this; exact this, by rw [← hy]; exact trim_idem _⟩
              have hpos : (0 : Int) < (n : Int) := by omega
              have hni : (n : Int) ≤ (r.size : Int) := by omega
              have hwa : IntKind.i64.wrap ((s.size : Int) - (r.size : Int)) = (s.size : Int) - (r.size : Int) := by rw [IntKind.wrap_i64]; omega
              have HW := lhide hwa
              clear CR hrd hsz hy hwa
              go_wp2_with fail
              refine (lunhide CR2 _ (lunhide HB2)).mono ?_
              rintro e w3 ⟨rfl, b3⟩
              have hB3 : Below wo.heap.size wo w3 := (lunhide HBX).trans (b3.mono (lunhide HBX).size)
              obtain ⟨w4, e4, z4, g4, ⟨d0, d1, d2, d3, d4, d5⟩⟩ := alloc6 w3 (.int .i64 (t.k : Int)) (.int .i64 ((s.size : Int) - (r.size : Int))) (.string ⟨t.tx.toArray⟩) (.bool t.ng) (.string ⟨t.dg.toArray⟩) (.int .i64 (t.sc : Int)) 33
              have hB4 : Below wo.heap.size wo w4 := hB3.trans (g4.mono hB3.size)
              have hB5 : Below wo.heap.size wo (w4.alloc (.cells #[.int .i64 (t.k : Int), .int .i64 ((s.size : Int) - (r.size : Int)), .string ⟨t.tx.toArray⟩, .bool t.ng, .string ⟨t.dg.toArray⟩, .int .i64 (t.sc : Int)] 33)) := hB4.alloc hB4.size _
              have HOW5 := lhide (own_below (lunhide HOWN) hB5)
              have HB05 : Hid (Below w0.heap.size w0 (w4.alloc (.cells #[.int .i64 (t.k : Int), .int .i64 ((s.size : Int) - (r.size : Int)), .string ⟨t.tx.toArray⟩, .bool t.ng, .string ⟨t.dg.toArray⟩, .int .i64 (t.sc : Int)] 33))) := lhide ((lunhide HB).trans (hB5.mono (lunhide HB).size))
              have hbs5 : w0.heap.size ≤ (w4.alloc (.cells #[.int .i64 (t.k : Int), .int .i64 ((s.size : Int) - (r.size : Int)), .string ⟨t.tx.toArray⟩, .bool t.ng, .string ⟨t.dg.toArray⟩, .int .i64 (t.sc : Int)] 33)).heap.size := (lunhide HB05).size
              have HBS := lhide hbs5
              have HE := lhide e4
              have hwa := lunhide HW
              clear b3 c0 c1 c2 c3 c4 c5 hB3 hB4 hB5 e4 z4 g4 hbs5
              go_upto_region 14 with fail
              rw [lunhide HE]
              clear HE hwa
              go_wp2_with (at_builtin; refine wpList_append_own _ rfl _ _ 23 rfl w0.heap.size 33 ti (.agg #[.int .i64 0, .int .i64 0, .string ⟨#[]⟩, .bool false, .string ⟨#[]⟩, .int .i64 0]) 6 64 Tryd.underlying23 hti htz0 htz1 htz2 rfl (by decide) _ T.length (rowC s.size T) rfl (lunhide HOW5) ⟨w4.heap.size, 0, none⟩ 1 1 [.int .i64 (t.k : Int), .int .i64 ((s.size : Int) - (r.size : Int)), .string ⟨t.tx.toArray⟩, .bool t.ng, .string ⟨t.dg.toArray⟩, .int .i64 (t.sc : Int)] rfl rfl (new_cells w4 [.int .i64 (t.k : Int), .int .i64 ((s.size : Int) - (r.size : Int)), .string ⟨t.tx.toArray⟩, .bool t.ng, .string ⟨t.dg.toArray⟩, .int .i64 (t.sc : Int)] 33) (one_tk s.size (t, r.size)) (by unfold maxLen; omega) (by omega) (lunhide HBS) ?_)
              intro v' w6 hown6 hgr6 hnn6
              have hB6 : Below w0.heap.size w0 w6 := (lunhide HB05).grown hgr6 (lunhide HBS) (fun j hj => own_blk (lunhide HOW5) j hj)
              have HF6 := lhide (And.intro hown6 hB6)
              clear hown6 hgr6 hnn6 hB6 d0 d1 d2 d3 d4 d5 HOW5 HB05 HBS
              go_wp2_with fail
              refine (lunhide CT _).mono ?_
              rintro e w7 ⟨rfl, b7⟩
              have HF7 := lhide (And.intro (own_below (lunhide HF6).1 b7) ((lunhide HF6).2.trans (b7.mono (lunhide HF6).2.size)))
              clear b7 HF6
              go_wp2_with fail
              go_roundg g
              case rel => exact ⟨T ++ [(t, r.size)], y, rfl, by rw [List.length_append]; simp; omega, by omega, HST, by rw [List.length_append, rowC_snoc]; exact (lunhide HF7).1, (lunhide HF7).2⟩
              case measure => omega
          · obtain ⟨c0, c1, c2, c3, c4, c5⟩ := lunhide HC _ (lunhide HB2)
            have CR : Hid (∀ W, Below w0.heap.size w0 W → Calls Tryd.prog 14 #[.string r] W fun e w' => e = .returned (rdV (Lx.rdr 1 r.data.toList)) ∧ Below W.heap.size W w') := lhide (fun W hW => readVar_any r _ rfl hrs W)
            cases hrd : Lx.rdr 1 r.data.toList with
            | none =>
              rw [hrd] at CR
              have CR2 : Hid (∀ W, Below w0.heap.size w0 W → Calls Tryd.prog 14 #[.string r] W fun e w' => e = .returned (.tuple #[.agg #[.int .i64 0, .int .i64 0, .string ⟨#[]⟩, .bool false, .string ⟨#[]⟩, .int .i64 0], .int .i64 0]) ∧ Below W.heap.size W w') := lhide (fun W hW => lunhide CR W hW)
              have HN2 : Hid (∀ j, j < 2 → Lx.rdr j r.data.toList = none) := lhide (fun j hj => by
                rcases (show j < 1 ∨ j = 1 by omega) with h | rfl
                · exact lunhide HNO j h
                · exact hrd)
              cases gk with
              | zero => omega
              | succ h9 =>
              clear CR hrd
              go_wp2_with fail
              refine (lunhide CR2 _ (lunhide HB2)).mono ?_
              rintro e w3 ⟨rfl, b3⟩
              have HB3 := lhide (((lunhide HBX).trans (b3.mono (lunhide HBX).size)).alloc (Nat.le_trans (lunhide HBX).size b3.size) (.cells #[.int .i64 0, .int .i64 0, .string ⟨#[]⟩, .bool false, .string ⟨#[]⟩, .int .i64 0] 33))
              clear b3 c0 c1 c2 c3 c4 c5
              go_wp2_with fail
              go_roundg h9
              case rel => exact ⟨2, rfl, rfl, by go_num, by omega, HN2, lunhide HB3⟩
              case measure => omega
            | some x =>
              obtain ⟨t, n⟩ := x
              rw [hrd] at CR
              have CR2 : Hid (∀ W, Below w0.heap.size w0 W → Calls Tryd.prog 14 #[.string r] W fun e w' => e = .returned (.tuple #[.agg #[.int .i64 (t.k : Int), .int .i64 0, .string ⟨t.tx.toArray⟩, .bool t.ng, .string ⟨t.dg.toArray⟩, .int .i64 (t.sc : Int)], .int .i64 (n : Int)]) ∧ Below W.heap.size W w') := lhide (fun W hW => lunhide CR W hW)
              have hsz := Lx.rdr_size hrd
              have hn1 : 1 ≤ n := hsz.1
              have hn2 : n ≤ r.size := by have := hsz.2; rw [lsize] at this; exact this
              obtain ⟨y, hy⟩ := ex_txt (Lx.trimB (r.extract n r.size).data.toList)
              have CT := lhide (fun W => trim_l (r.extract n r.size) y hy W)
              have hys : y.size ≤ r.size - n := by
                have := trim_size hy
                rw [ByteArray.size_extract] at this; omega
              have HST : Hid (Lx.lexO s.data.toList = (Lx.lexO y.data.toList).map (fun q => (T ++ [(t, r.size)]) ++ q) ∧ Lx.trimB y.data.toList = y.data.toList) := lhide ⟨by
                have := lex_step (lunhide HLX).1 (lunhide HLX).2 (lunhide HNE) (Lx.read_at (by decide) (lunhide HNO) hrd) y.data.toList (by rw [← hy, ldrop])
                rw [lsize] at this; exact this, by rw [← hy]; exact trim_idem _⟩
              have hpos : (0 : Int) < (n : Int) := by omega
              have hni : (n : Int) ≤ (r.size : Int) := by omega
              have hwa : IntKind.i64.wrap ((s.size : Int) - (r.size : Int)) = (s.size : Int) - (r.size : Int) := by rw [IntKind.wrap_i64]; omega
              have HW := lhide hwa
              clear CR hrd hsz hy hwa
              go_wp2_with fail
              refine (lunhide CR2 _ (lunhide HB2)).mono ?_
              rintro e w3 ⟨rfl, b3⟩
              have hB3 : Below wo.heap.size wo w3 := (lunhide HBX).trans (b3.mono (lunhide HBX).size)
              obtain ⟨w4, e4, z4, g4, ⟨d0, d1, d2, d3, d4, d5⟩⟩ := alloc6 w3 (.int .i64 (t.k : Int)) (.int .i64 ((s.size : Int) - (r.size : Int))) (.string ⟨t.tx.toArray⟩) (.bool t.ng) (.string ⟨t.dg.toArray⟩) (.int .i64 (t.sc : Int)) 33
              have hB4 : Below wo.heap.size wo w4 := hB3.trans (g4.mono hB3.size)
              have hB5 : Below wo.heap.size wo (w4.alloc (.cells #[.int .i64 (t.k : Int), .int .i64 ((s.size : Int) - (r.size : Int)), .string ⟨t.tx.toArray⟩, .bool t.ng, .string ⟨t.dg.toArray⟩, .int .i64 (t.sc : Int)] 33)) := hB4.alloc hB4.size _
              have HOW5 := lhide (own_below (lunhide HOWN) hB5)
              have HB05 : Hid (Below w0.heap.size w0 (w4.alloc (.cells #[.int .i64 (t.k : Int), .int .i64 ((s.size : Int) - (r.size : Int)), .string ⟨t.tx.toArray⟩, .bool t.ng, .string ⟨t.dg.toArray⟩, .int .i64 (t.sc : Int)] 33))) := lhide ((lunhide HB).trans (hB5.mono (lunhide HB).size))
              have hbs5 : w0.heap.size ≤ (w4.alloc (.cells #[.int .i64 (t.k : Int), .int .i64 ((s.size : Int) - (r.size : Int)), .string ⟨t.tx.toArray⟩, .bool t.ng, .string ⟨t.dg.toArray⟩, .int .i64 (t.sc : Int)] 33)).heap.size := (lunhide HB05).size
              have HBS := lhide hbs5
              have HE := lhide e4
              have hwa := lunhide HW
              clear b3 c0 c1 c2 c3 c4 c5 hB3 hB4 hB5 e4 z4 g4 hbs5
              go_upto_region 14 with fail
              rw [lunhide HE]
              clear HE hwa
              go_wp2_with (at_builtin; refine wpList_append_own _ rfl _ _ 23 rfl w0.heap.size 33 ti (.agg #[.int .i64 0, .int .i64 0, .string ⟨#[]⟩, .bool false, .string ⟨#[]⟩, .int .i64 0]) 6 64 Tryd.underlying23 hti htz0 htz1 htz2 rfl (by decide) _ T.length (rowC s.size T) rfl (lunhide HOW5) ⟨w4.heap.size, 0, none⟩ 1 1 [.int .i64 (t.k : Int), .int .i64 ((s.size : Int) - (r.size : Int)), .string ⟨t.tx.toArray⟩, .bool t.ng, .string ⟨t.dg.toArray⟩, .int .i64 (t.sc : Int)] rfl rfl (new_cells w4 [.int .i64 (t.k : Int), .int .i64 ((s.size : Int) - (r.size : Int)), .string ⟨t.tx.toArray⟩, .bool t.ng, .string ⟨t.dg.toArray⟩, .int .i64 (t.sc : Int)] 33) (one_tk s.size (t, r.size)) (by unfold maxLen; omega) (by omega) (lunhide HBS) ?_)
              intro v' w6 hown6 hgr6 hnn6
              have hB6 : Below w0.heap.size w0 w6 := (lunhide HB05).grown hgr6 (lunhide HBS) (fun j hj => own_blk (lunhide HOW5) j hj)
              have HF6 := lhide (And.intro hown6 hB6)
              clear hown6 hgr6 hnn6 hB6 d0 d1 d2 d3 d4 d5 HOW5 HB05 HBS
              go_wp2_with fail
              refine (lunhide CT _).mono ?_
              rintro e w7 ⟨rfl, b7⟩
              have HF7 := lhide (And.intro (own_below (lunhide HF6).1 b7) ((lunhide HF6).2.trans (b7.mono (lunhide HF6).2.size)))
              clear b7 HF6
              go_wp2_with fail
              go_roundg g
              case rel => exact ⟨T ++ [(t, r.size)], y, rfl, by rw [List.length_append]; simp; omega, by omega, HST, by rw [List.length_append, rowC_snoc]; exact (lunhide HF7).1, (lunhide HF7).2⟩
              case measure => omega
          · obtain ⟨c0, c1, c2, c3, c4, c5⟩ := lunhide HC _ (lunhide HB2)
            have CR : Hid (∀ W, Below w0.heap.size w0 W → Calls Tryd.prog 15 #[.string r] W fun e w' => e = .returned (rdV (Lx.rdr 2 r.data.toList)) ∧ Below W.heap.size W w') := lhide (fun W hW => readKey_any r _ rfl hrs W (lunhide HTB W hW))
            cases hrd : Lx.rdr 2 r.data.toList with
            | none =>
              rw [hrd] at CR
              have CR2 : Hid (∀ W, Below w0.heap.size w0 W → Calls Tryd.prog 15 #[.string r] W fun e w' => e = .returned (.tuple #[.agg #[.int .i64 0, .int .i64 0, .string ⟨#[]⟩, .bool false, .string ⟨#[]⟩, .int .i64 0], .int .i64 0]) ∧ Below W.heap.size W w') := lhide (fun W hW => lunhide CR W hW)
              have HN2 : Hid (∀ j, j < 3 → Lx.rdr j r.data.toList = none) := lhide (fun j hj => by
                rcases (show j < 2 ∨ j = 2 by omega) with h | rfl
                · exact lunhide HNO j h
                · exact hrd)
              cases gk with
              | zero => omega
              | succ h9 =>
              clear CR hrd
              go_wp2_with fail
              refine (lunhide CR2 _ (lunhide HB2)).mono ?_
              rintro e w3 ⟨rfl, b3⟩
              have HB3 := lhide (((lunhide HBX).trans (b3.mono (lunhide HBX).size)).alloc (Nat.le_trans (lunhide HBX).size b3.size) (.cells #[.int .i64 0, .int .i64 0, .string ⟨#[]⟩, .bool false, .string ⟨#[]⟩, .int .i64 0] 33))
              clear b3 c0 c1 c2 c3 c4 c5
              go_wp2_with fail
              go_roundg h9
              case rel => exact ⟨3, rfl, rfl, by go_num, by omega, HN2, lunhide HB3⟩
              case measure => omega
            | some x =>
              obtain ⟨t, n⟩ := x
              rw [hrd] at CR
              have CR2 : Hid (∀ W, Below w0.heap.size w0 W → Calls Tryd.prog 15 #[.string r] W fun e w' => e = .returned (.tuple #[.agg #[.int .i64 (t.k : Int), .int .i64 0, .string ⟨t.tx.toArray⟩, .bool t.ng, .string ⟨t.dg.toArray⟩, .int .i64 (t.sc : Int)], .int .i64 (n : Int)]) ∧ Below W.heap.size W w') := lhide (fun W hW => lunhide CR W hW)
              have hsz := Lx.rdr_size hrd
              have hn1 : 1 ≤ n := hsz.1
              have hn2 : n ≤ r.size := by have := hsz.2; rw [lsize] at this; exact this
              obtain ⟨y, hy⟩ := ex_txt (Lx.trimB (r.extract n r.size).data.toList)
              have CT := lhide (fun W => trim_l (r.extract n r.size) y hy W)
              have hys : y.size ≤ r.size - n := by
                have := trim_size hy
                rw [ByteArray.size_extract] at this; omega
              have HST : Hid (Lx.lexO s.data.toList = (Lx.lexO y.data.toList).map (fun q => (T ++ [(t, r.size)]) ++ q) ∧ Lx.trimB y.data.toList = y.data.toList) := lhide ⟨by
                have := lex_step (lunhide HLX).1 (lunhide HLX).2 (lunhide HNE) (Lx.read_at (by decide) (lunhide HNO) hrd) y.data.toList (by rw [← hy, ldrop])
                rw [lsize] at this; exact this, by rw [← hy]; exact trim_idem _⟩
              have hpos : (0 : Int) < (n : Int) := by omega
              have hni : (n : Int) ≤ (r.size : Int) := by omega
              have hwa : IntKind.i64.wrap ((s.size : Int) - (r.size : Int)) = (s.size : Int) - (r.size : Int) := by rw [IntKind.wrap_i64]; omega
              have HW := lhide hwa
              clear CR hrd hsz hy hwa
              go_wp2_with fail
              refine (lunhide CR2 _ (lunhide HB2)).mono ?_
              rintro e w3 ⟨rfl, b3⟩
              have hB3 : Below wo.heap.size wo w3 := (lunhide HBX).trans (b3.mono (lunhide HBX).size)
              obtain ⟨w4, e4, z4, g4, ⟨d0, d1, d2, d3, d4, d5⟩⟩ := alloc6 w3 (.int .i64 (t.k : Int)) (.int .i64 ((s.size : Int) - (r.size : Int))) (.string ⟨t.tx.toArray⟩) (.bool t.ng) (.string ⟨t.dg.toArray⟩) (.int .i64 (t.sc : Int)) 33
              have hB4 : Below wo.heap.size wo w4 := hB3.trans (g4.mono hB3.size)
              have hB5 : Below wo.heap.size wo (w4.alloc (.cells #[.int .i64 (t.k : Int), .int .i64 ((s.size : Int) - (r.size : Int)), .string ⟨t.tx.toArray⟩, .bool t.ng, .string ⟨t.dg.toArray⟩, .int .i64 (t.sc : Int)] 33)) := hB4.alloc hB4.size _
              have HOW5 := lhide (own_below (lunhide HOWN) hB5)
              have HB05 : Hid (Below w0.heap.size w0 (w4.alloc (.cells #[.int .i64 (t.k : Int), .int .i64 ((s.size : Int) - (r.size : Int)), .string ⟨t.tx.toArray⟩, .bool t.ng, .string ⟨t.dg.toArray⟩, .int .i64 (t.sc : Int)] 33))) := lhide ((lunhide HB).trans (hB5.mono (lunhide HB).size))
              have hbs5 : w0.heap.size ≤ (w4.alloc (.cells #[.int .i64 (t.k : Int), .int .i64 ((s.size : Int) - (r.size : Int)), .string ⟨t.tx.toArray⟩, .bool t.ng, .string ⟨t.dg.toArray⟩, .int .i64 (t.sc : Int)] 33)).heap.size := (lunhide HB05).size
              have HBS := lhide hbs5
              have HE := lhide e4
              have hwa := lunhide HW
              clear b3 c0 c1 c2 c3 c4 c5 hB3 hB4 hB5 e4 z4 g4 hbs5
              go_upto_region 14 with fail
              rw [lunhide HE]
              clear HE hwa
              go_wp2_with (at_builtin; refine wpList_append_own _ rfl _ _ 23 rfl w0.heap.size 33 ti (.agg #[.int .i64 0, .int .i64 0, .string ⟨#[]⟩, .bool false, .string ⟨#[]⟩, .int .i64 0]) 6 64 Tryd.underlying23 hti htz0 htz1 htz2 rfl (by decide) _ T.length (rowC s.size T) rfl (lunhide HOW5) ⟨w4.heap.size, 0, none⟩ 1 1 [.int .i64 (t.k : Int), .int .i64 ((s.size : Int) - (r.size : Int)), .string ⟨t.tx.toArray⟩, .bool t.ng, .string ⟨t.dg.toArray⟩, .int .i64 (t.sc : Int)] rfl rfl (new_cells w4 [.int .i64 (t.k : Int), .int .i64 ((s.size : Int) - (r.size : Int)), .string ⟨t.tx.toArray⟩, .bool t.ng, .string ⟨t.dg.toArray⟩, .int .i64 (t.sc : Int)] 33) (one_tk s.size (t, r.size)) (by unfold maxLen; omega) (by omega) (lunhide HBS) ?_)
              intro v' w6 hown6 hgr6 hnn6
              have hB6 : Below w0.heap.size w0 w6 := (lunhide HB05).grown hgr6 (lunhide HBS) (fun j hj => own_blk (lunhide HOW5) j hj)
              have HF6 := lhide (And.intro hown6 hB6)
              clear hown6 hgr6 hnn6 hB6 d0 d1 d2 d3 d4 d5 HOW5 HB05 HBS
              go_wp2_with fail
              refine (lunhide CT _).mono ?_
              rintro e w7 ⟨rfl, b7⟩
              have HF7 := lhide (And.intro (own_below (lunhide HF6).1 b7) ((lunhide HF6).2.trans (b7.mono (lunhide HF6).2.size)))
              clear b7 HF6
              go_wp2_with fail
              go_roundg g
              case rel => exact ⟨T ++ [(t, r.size)], y, rfl, by rw [List.length_append]; simp; omega, by omega, HST, by rw [List.length_append, rowC_snoc]; exact (lunhide HF7).1, (lunhide HF7).2⟩
              case measure => omega
          · obtain ⟨c0, c1, c2, c3, c4, c5⟩ := lunhide HC _ (lunhide HB2)
            have CR : Hid (∀ W, Below w0.heap.size w0 W → Calls Tryd.prog 16 #[.string r] W fun e w' => e = .returned (rdV (Lx.rdr 3 r.data.toList)) ∧ Below W.heap.size W w') := lhide (fun W hW => readNum_any r _ rfl hrs W)
            cases hrd : Lx.rdr 3 r.data.toList with
            | none =>
              rw [hrd] at CR
              have CR2 : Hid (∀ W, Below w0.heap.size w0 W → Calls Tryd.prog 16 #[.string r] W fun e w' => e = .returned (.tuple #[.agg #[.int .i64 0, .int .i64 0, .string ⟨#[]⟩, .bool false, .string ⟨#[]⟩, .int .i64 0], .int .i64 0]) ∧ Below W.heap.size W w') := lhide (fun W hW => lunhide CR W hW)
              have HN2 : Hid (∀ j, j < 4 → Lx.rdr j r.data.toList = none) := lhide (fun j hj => by
                rcases (show j < 3 ∨ j = 3 by omega) with h | rfl
                · exact lunhide HNO j h
                · exact hrd)
              cases gk with
              | zero => omega
              | succ h9 =>
              clear CR hrd
              go_wp2_with fail
              refine (lunhide CR2 _ (lunhide HB2)).mono ?_
              rintro e w3 ⟨rfl, b3⟩
              have HB3 := lhide (((lunhide HBX).trans (b3.mono (lunhide HBX).size)).alloc (Nat.le_trans (lunhide HBX).size b3.size) (.cells #[.int .i64 0, .int .i64 0, .string ⟨#[]⟩, .bool false, .string ⟨#[]⟩, .int .i64 0] 33))
              clear b3 c0 c1 c2 c3 c4 c5
              go_wp2_with fail
              go_roundg h9
              case rel => exact ⟨4, rfl, rfl, by go_num, by omega, HN2, lunhide HB3⟩
              case measure => omega
            | some x =>
              obtain ⟨t, n⟩ := x
              rw [hrd] at CR
              have CR2 : Hid (∀ W, Below w0.heap.size w0 W → Calls Tryd.prog 16 #[.string r] W fun e w' => e = .returned (.tuple #[.agg #[.int .i64 (t.k : Int), .int .i64 0, .string ⟨t.tx.toArray⟩, .bool t.ng, .string ⟨t.dg.toArray⟩, .int .i64 (t.sc : Int)], .int .i64 (n : Int)]) ∧ Below W.heap.size W w') := lhide (fun W hW => lunhide CR W hW)
              have hsz := Lx.rdr_size hrd
              have hn1 : 1 ≤ n := hsz.1
              have hn2 : n ≤ r.size := by have := hsz.2; rw [lsize] at this; exact this
              obtain ⟨y, hy⟩ := ex_txt (Lx.trimB (r.extract n r.size).data.toList)
              have CT := lhide (fun W => trim_l (r.extract n r.size) y hy W)
              have hys : y.size ≤ r.size - n := by
                have := trim_size hy
                rw [ByteArray.size_extract] at this; omega
              have HST : Hid (Lx.lexO s.data.toList = (Lx.lexO y.data.toList).map (fun q => (T ++ [(t, r.size)]) ++ q) ∧ Lx.trimB y.data.toList = y.data.toList) := lhide ⟨by
                have := lex_step (lunhide HLX).1 (lunhide HLX).2 (lunhide HNE) (Lx.read_at (by decide) (lunhide HNO) hrd) y.data.toList (by rw [← hy, ldrop])
                rw [lsize] at this; exact this, by rw [← hy]; exact trim_idem _⟩
              have hpos : (0 : Int) < (n : Int) := by omega
              have hni : (n : Int) ≤ (r.size : Int) := by omega
              have hwa : IntKind.i64.wrap ((s.size : Int) - (r.size : Int)) = (s.size : Int) - (r.size : Int) := by rw [IntKind.wrap_i64]; omega
              have HW := lhide hwa
              clear CR hrd hsz hy hwa
              go_wp2_with fail
              refine (lunhide CR2 _ (lunhide HB2)).mono ?_
              rintro e w3 ⟨rfl, b3⟩
              have hB3 : Below wo.heap.size wo w3 := (lunhide HBX).trans (b3.mono (lunhide HBX).size)
              obtain ⟨w4, e4, z4, g4, ⟨d0, d1, d2, d3, d4, d5⟩⟩ := alloc6 w3 (.int .i64 (t.k : Int)) (.int .i64 ((s.size : Int) - (r.size : Int))) (.string ⟨t.tx.toArray⟩) (.bool t.ng) (.string ⟨t.dg.toArray⟩) (.int .i64 (t.sc : Int)) 33
              have hB4 : Below wo.heap.size wo w4 := hB3.trans (g4.mono hB3.size)
              have hB5 : Below wo.heap.size wo (w4.alloc (.cells #[.int .i64 (t.k : Int), .int .i64 ((s.size : Int) - (r.size : Int)), .string ⟨t.tx.toArray⟩, .bool t.ng, .string ⟨t.dg.toArray⟩, .int .i64 (t.sc : Int)] 33)) := hB4.alloc hB4.size _
              have HOW5 := lhide (own_below (lunhide HOWN) hB5)
              have HB05 : Hid (Below w0.heap.size w0 (w4.alloc (.cells #[.int .i64 (t.k : Int), .int .i64 ((s.size : Int) - (r.size : Int)), .string ⟨t.tx.toArray⟩, .bool t.ng, .string ⟨t.dg.toArray⟩, .int .i64 (t.sc : Int)] 33))) := lhide ((lunhide HB).trans (hB5.mono (lunhide HB).size))
              have hbs5 : w0.heap.size ≤ (w4.alloc (.cells #[.int .i64 (t.k : Int), .int .i64 ((s.size : Int) - (r.size : Int)), .string ⟨t.tx.toArray⟩, .bool t.ng, .string ⟨t.dg.toArray⟩, .int .i64 (t.sc : Int)] 33)).heap.size := (lunhide HB05).size
              have HBS := lhide hbs5
              have HE := lhide e4
              have hwa := lunhide HW
              clear b3 c0 c1 c2 c3 c4 c5 hB3 hB4 hB5 e4 z4 g4 hbs5
              go_upto_region 14 with fail
              rw [lunhide HE]
              clear HE hwa
              go_wp2_with (at_builtin; refine wpList_append_own _ rfl _ _ 23 rfl w0.heap.size 33 ti (.agg #[.int .i64 0, .int .i64 0, .string ⟨#[]⟩, .bool false, .string ⟨#[]⟩, .int .i64 0]) 6 64 Tryd.underlying23 hti htz0 htz1 htz2 rfl (by decide) _ T.length (rowC s.size T) rfl (lunhide HOW5) ⟨w4.heap.size, 0, none⟩ 1 1 [.int .i64 (t.k : Int), .int .i64 ((s.size : Int) - (r.size : Int)), .string ⟨t.tx.toArray⟩, .bool t.ng, .string ⟨t.dg.toArray⟩, .int .i64 (t.sc : Int)] rfl rfl (new_cells w4 [.int .i64 (t.k : Int), .int .i64 ((s.size : Int) - (r.size : Int)), .string ⟨t.tx.toArray⟩, .bool t.ng, .string ⟨t.dg.toArray⟩, .int .i64 (t.sc : Int)] 33) (one_tk s.size (t, r.size)) (by unfold maxLen; omega) (by omega) (lunhide HBS) ?_)
              intro v' w6 hown6 hgr6 hnn6
              have hB6 : Below w0.heap.size w0 w6 := (lunhide HB05).grown hgr6 (lunhide HBS) (fun j hj => own_blk (lunhide HOW5) j hj)
              have HF6 := lhide (And.intro hown6 hB6)
              clear hown6 hgr6 hnn6 hB6 d0 d1 d2 d3 d4 d5 HOW5 HB05 HBS
              go_wp2_with fail
              refine (lunhide CT _).mono ?_
              rintro e w7 ⟨rfl, b7⟩
              have HF7 := lhide (And.intro (own_below (lunhide HF6).1 b7) ((lunhide HF6).2.trans (b7.mono (lunhide HF6).2.size)))
              clear b7 HF6
              go_wp2_with fail
              go_roundg g
              case rel => exact ⟨T ++ [(t, r.size)], y, rfl, by rw [List.length_append]; simp; omega, by omega, HST, by rw [List.length_append, rowC_snoc]; exact (lunhide HF7).1, (lunhide HF7).2⟩
              case measure => omega
          · obtain ⟨c0, c1, c2, c3, c4, c5⟩ := lunhide HC _ (lunhide HB2)
            have CR : Hid (∀ W, Below w0.heap.size w0 W → Calls Tryd.prog 17 #[.string r] W fun e w' => e = .returned (rdV (Lx.rdr 4 r.data.toList)) ∧ Below W.heap.size W w') := lhide (fun W hW => readText_any r _ rfl hrs W (lunhide HTB W hW))
            cases hrd : Lx.rdr 4 r.data.toList with
            | none =>
              rw [hrd] at CR
              have CR2 : Hid (∀ W, Below w0.heap.size w0 W → Calls Tryd.prog 17 #[.string r] W fun e w' => e = .returned (.tuple #[.agg #[.int .i64 0, .int .i64 0, .string ⟨#[]⟩, .bool false, .string ⟨#[]⟩, .int .i64 0], .int .i64 0]) ∧ Below W.heap.size W w') := lhide (fun W hW => lunhide CR W hW)
              have HN2 : Hid (∀ j, j < 5 → Lx.rdr j r.data.toList = none) := lhide (fun j hj => by
                rcases (show j < 4 ∨ j = 4 by omega) with h | rfl
                · exact lunhide HNO j h
                · exact hrd)
              cases gk with
              | zero => omega
              | succ h9 =>
              clear CR hrd
              go_wp2_with fail
              refine (lunhide CR2 _ (lunhide HB2)).mono ?_
              rintro e w3 ⟨rfl, b3⟩
              have HB3 := lhide (((lunhide HBX).trans (b3.mono (lunhide HBX).size)).alloc (Nat.le_trans (lunhide HBX).size b3.size) (.cells #[.int .i64 0, .int .i64 0, .string ⟨#[]⟩, .bool false, .string ⟨#[]⟩, .int .i64 0] 33))
              clear b3 c0 c1 c2 c3 c4 c5
              go_wp2_with fail
              go_roundg h9
              case rel => exact ⟨5, rfl, rfl, by go_num, by omega, HN2, lunhide HB3⟩
              case measure => omega
            | some x =>
              obtain ⟨t, n⟩ := x
              rw [hrd] at CR
              have CR2 : Hid (∀ W, Below w0.heap.size w0 W → Calls Tryd.prog 17 #[.string r] W fun e w' => e = .returned (.tuple #[.agg #[.int .i64 (t.k : Int), .int .i64 0, .string ⟨t.tx.toArray⟩, .bool t.ng, .string ⟨t.dg.toArray⟩, .int .i64 (t.sc : Int)], .int .i64 (n : Int)]) ∧ Below W.heap.size W w') := lhide (fun W hW => lunhide CR W hW)
              have hsz := Lx.rdr_size hrd
              have hn1 : 1 ≤ n := hsz.1
              have hn2 : n ≤ r.size := by have := hsz.2; rw [lsize] at this; exact this
              obtain ⟨y, hy⟩ := ex_txt (Lx.trimB (r.extract n r.size).data.toList)
              have CT := lhide (fun W => trim_l (r.extract n r.size) y hy W)
              have hys : y.size ≤ r.size - n := by
                have := trim_size hy
                rw [ByteArray.size_extract] at this; omega
              have HST : Hid (Lx.lexO s.data.toList = (Lx.lexO y.data.toList).map (fun q => (T ++ [(t, r.size)]) ++ q) ∧ Lx.trimB y.data.toList = y.data.toList) := lhide ⟨by
                have := lex_step (lunhide HLX).1 (lunhide HLX).2 (lunhide HNE) (Lx.read_at (by decide) (lunhide HNO) hrd) y.data.toList (by rw [← hy, ldrop])
                rw [lsize] at this; exact this, by rw [← hy]; exact trim_idem _⟩
              have hpos : (0 : Int) < (n : Int) := by omega
              have hni : (n : Int) ≤ (r.size : Int) := by omega
              have hwa : IntKind.i64.wrap ((s.size : Int) - (r.size : Int)) = (s.size : Int) - (r.size : Int) := by rw [IntKind.wrap_i64]; omega
              have HW := lhide hwa
              clear CR hrd hsz hy hwa
              go_wp2_with fail
              refine (lunhide CR2 _ (lunhide HB2)).mono ?_
              rintro e w3 ⟨rfl, b3⟩
              have hB3 : Below wo.heap.size wo w3 := (lunhide HBX).trans (b3.mono (lunhide HBX).size)
              obtain ⟨w4, e4, z4, g4, ⟨d0, d1, d2, d3, d4, d5⟩⟩ := alloc6 w3 (.int .i64 (t.k : Int)) (.int .i64 ((s.size : Int) - (r.size : Int))) (.string ⟨t.tx.toArray⟩) (.bool t.ng) (.string ⟨t.dg.toArray⟩) (.int .i64 (t.sc : Int)) 33
              have hB4 : Below wo.heap.size wo w4 := hB3.trans (g4.mono hB3.size)
              have hB5 : Below wo.heap.size wo (w4.alloc (.cells #[.int .i64 (t.k : Int), .int .i64 ((s.size : Int) - (r.size : Int)), .string ⟨t.tx.toArray⟩, .bool t.ng, .string ⟨t.dg.toArray⟩, .int .i64 (t.sc : Int)] 33)) := hB4.alloc hB4.size _
              have HOW5 := lhide (own_below (lunhide HOWN) hB5)
              have HB05 : Hid (Below w0.heap.size w0 (w4.alloc (.cells #[.int .i64 (t.k : Int), .int .i64 ((s.size : Int) - (r.size : Int)), .string ⟨t.tx.toArray⟩, .bool t.ng, .string ⟨t.dg.toArray⟩, .int .i64 (t.sc : Int)] 33))) := lhide ((lunhide HB).trans (hB5.mono (lunhide HB).size))
              have hbs5 : w0.heap.size ≤ (w4.alloc (.cells #[.int .i64 (t.k : Int), .int .i64 ((s.size : Int) - (r.size : Int)), .string ⟨t.tx.toArray⟩, .bool t.ng, .string ⟨t.dg.toArray⟩, .int .i64 (t.sc : Int)] 33)).heap.size := (lunhide HB05).size
              have HBS := lhide hbs5
              have HE := lhide e4
              have hwa := lunhide HW
              clear b3 c0 c1 c2 c3 c4 c5 hB3 hB4 hB5 e4 z4 g4 hbs5
              go_upto_region 14 with fail
              rw [lunhide HE]
              clear HE hwa
              go_wp2_with (at_builtin; refine wpList_append_own _ rfl _ _ 23 rfl w0.heap.size 33 ti (.agg #[.int .i64 0, .int .i64 0, .string ⟨#[]⟩, .bool false, .string ⟨#[]⟩, .int .i64 0]) 6 64 Tryd.underlying23 hti htz0 htz1 htz2 rfl (by decide) _ T.length (rowC s.size T) rfl (lunhide HOW5) ⟨w4.heap.size, 0, none⟩ 1 1 [.int .i64 (t.k : Int), .int .i64 ((s.size : Int) - (r.size : Int)), .string ⟨t.tx.toArray⟩, .bool t.ng, .string ⟨t.dg.toArray⟩, .int .i64 (t.sc : Int)] rfl rfl (new_cells w4 [.int .i64 (t.k : Int), .int .i64 ((s.size : Int) - (r.size : Int)), .string ⟨t.tx.toArray⟩, .bool t.ng, .string ⟨t.dg.toArray⟩, .int .i64 (t.sc : Int)] 33) (one_tk s.size (t, r.size)) (by unfold maxLen; omega) (by omega) (lunhide HBS) ?_)
              intro v' w6 hown6 hgr6 hnn6
              have hB6 : Below w0.heap.size w0 w6 := (lunhide HB05).grown hgr6 (lunhide HBS) (fun j hj => own_blk (lunhide HOW5) j hj)
              have HF6 := lhide (And.intro hown6 hB6)
              clear hown6 hgr6 hnn6 hB6 d0 d1 d2 d3 d4 d5 HOW5 HB05 HBS
              go_wp2_with fail
              refine (lunhide CT _).mono ?_
              rintro e w7 ⟨rfl, b7⟩
              have HF7 := lhide (And.intro (own_below (lunhide HF6).1 b7) ((lunhide HF6).2.trans (b7.mono (lunhide HF6).2.size)))
              clear b7 HF6
              go_wp2_with fail
              go_roundg g
              case rel => exact ⟨T ++ [(t, r.size)], y, rfl, by rw [List.length_append]; simp; omega, by omega, HST, by rw [List.length_append, rowC_snoc]; exact (lunhide HF7).1, (lunhide HF7).2⟩
              case measure => omega
          · obtain ⟨c0, c1, c2, c3, c4, c5⟩ := lunhide HC _ (lunhide HB2)
            have CR : Hid (∀ W, Below w0.heap.size w0 W → Calls Tryd.prog 18 #[.string r] W fun e w' => e = .returned (rdV (Lx.rdr 5 r.data.toList)) ∧ Below W.heap.size W w') := lhide (fun W hW => readSign_any r _ rfl hrs W (lunhide HSG W hW))
            cases hrd : Lx.rdr 5 r.data.toList with
            | none =>
              rw [hrd] at CR
              have CR2 : Hid (∀ W, Below w0.heap.size w0 W → Calls Tryd.prog 18 #[.string r] W fun e w' => e = .returned (.tuple #[.agg #[.int .i64 0, .int .i64 0, .string ⟨#[]⟩, .bool false, .string ⟨#[]⟩, .int .i64 0], .int .i64 0]) ∧ Below W.heap.size W w') := lhide (fun W hW => lunhide CR W hW)
              have HN2 : Hid (∀ j, j < 6 → Lx.rdr j r.data.toList = none) := lhide (fun j hj => by
                rcases (show j < 5 ∨ j = 5 by omega) with h | rfl
                · exact lunhide HNO j h
                · exact hrd)
              cases gk with
              | zero => omega
              | succ h9 =>
              clear CR hrd
              go_wp2_with fail
              refine (lunhide CR2 _ (lunhide HB2)).mono ?_
              rintro e w3 ⟨rfl, b3⟩
              have HB3 := lhide (((lunhide HBX).trans (b3.mono (lunhide HBX).size)).alloc (Nat.le_trans (lunhide HBX).size b3.size) (.cells #[.int .i64 0, .int .i64 0, .string ⟨#[]⟩, .bool false, .string ⟨#[]⟩, .int .i64 0] 33))
              clear b3 c0 c1 c2 c3 c4 c5
              go_wp2_with fail
              go_roundg h9
              case rel => exact ⟨6, rfl, rfl, by go_num, by omega, HN2, lunhide HB3⟩
              case measure => omega
            | some x =>
              obtain ⟨t, n⟩ := x
              rw [hrd] at CR
              have CR2 : Hid (∀ W, Below w0.heap.size w0 W → Calls Tryd.prog 18 #[.string r] W fun e w' => e = .returned (.tuple #[.agg #[.int .i64 (t.k : Int), .int .i64 0, .string ⟨t.tx.toArray⟩, .bool t.ng, .string ⟨t.dg.toArray⟩, .int .i64 (t.sc : Int)], .int .i64 (n : Int)]) ∧ Below W.heap.size W w') := lhide (fun W hW => lunhide CR W hW)
              have hsz := Lx.rdr_size hrd
              have hn1 : 1 ≤ n := hsz.1
              have hn2 : n ≤ r.size := by have := hsz.2; rw [lsize] at this; exact this
              obtain ⟨y, hy⟩ := ex_txt (Lx.trimB (r.extract n r.size).data.toList)
              have CT := lhide (fun W => trim_l (r.extract n r.size) y hy W)
              have hys : y.size ≤ r.size - n := by
                have := trim_size hy
                rw [ByteArray.size_extract] at this; omega
              have HST : Hid (Lx.lexO s.data.toList = (Lx.lexO y.data.toList).map (fun q => (T ++ [(t, r.size)]) ++ q) ∧ Lx.trimB y.data.toList = y.data.toList) := lhide ⟨by
                have := lex_step (lunhide HLX).1 (lunhide HLX).2 (lunhide HNE) (Lx.read_at (by decide) (lunhide HNO) hrd) y.data.toList (by rw [← hy, ldrop])
                rw [lsize] at this; exact this, by rw [← hy]; exact trim_idem _⟩
              have hpos : (0 : Int) < (n : Int) := by omega
              have hni : (n : Int) ≤ (r.size : Int) := by omega
              have hwa : IntKind.i64.wrap ((s.size : Int) - (r.size : Int)) = (s.size : Int) - (r.size : Int) := by rw [IntKind.wrap_i64]; omega
              have HW := lhide hwa
              clear CR hrd hsz hy hwa
              go_wp2_with fail
              refine (lunhide CR2 _ (lunhide HB2)).mono ?_
              rintro e w3 ⟨rfl, b3⟩
              have hB3 : Below wo.heap.size wo w3 := (lunhide HBX).trans (b3.mono (lunhide HBX).size)
              obtain ⟨w4, e4, z4, g4, ⟨d0, d1, d2, d3, d4, d5⟩⟩ := alloc6 w3 (.int .i64 (t.k : Int)) (.int .i64 ((s.size : Int) - (r.size : Int))) (.string ⟨t.tx.toArray⟩) (.bool t.ng) (.string ⟨t.dg.toArray⟩) (.int .i64 (t.sc : Int)) 33
              have hB4 : Below wo.heap.size wo w4 := hB3.trans (g4.mono hB3.size)
              have hB5 : Below wo.heap.size wo (w4.alloc (.cells #[.int .i64 (t.k : Int), .int .i64 ((s.size : Int) - (r.size : Int)), .string ⟨t.tx.toArray⟩, .bool t.ng, .string ⟨t.dg.toArray⟩, .int .i64 (t.sc : Int)] 33)) := hB4.alloc hB4.size _
              have HOW5 := lhide (own_below (lunhide HOWN) hB5)
              have HB05 : Hid (Below w0.heap.size w0 (w4.alloc (.cells #[.int .i64 (t.k : Int), .int .i64 ((s.size : Int) - (r.size : Int)), .string ⟨t.tx.toArray⟩, .bool t.ng, .string ⟨t.dg.toArray⟩, .int .i64 (t.sc : Int)] 33))) := lhide ((lunhide HB).trans (hB5.mono (lunhide HB).size))
              have hbs5 : w0.heap.size ≤ (w4.alloc (.cells #[.int .i64 (t.k : Int), .int .i64 ((s.size : Int) - (r.size : Int)), .string ⟨t.tx.toArray⟩, .bool t.ng, .string ⟨t.dg.toArray⟩, .int .i64 (t.sc : Int)] 33)).heap.size := (lunhide HB05).size
              have HBS := lhide hbs5
              have HE := lhide e4
              have hwa := lunhide HW
              clear b3 c0 c1 c2 c3 c4 c5 hB3 hB4 hB5 e4 z4 g4 hbs5
              go_upto_region 14 with fail
              rw [lunhide HE]
              clear HE hwa
              go_wp2_with (at_builtin; refine wpList_append_own _ rfl _ _ 23 rfl w0.heap.size 33 ti (.agg #[.int .i64 0, .int .i64 0, .string ⟨#[]⟩, .bool false, .string ⟨#[]⟩, .int .i64 0]) 6 64 Tryd.underlying23 hti htz0 htz1 htz2 rfl (by decide) _ T.length (rowC s.size T) rfl (lunhide HOW5) ⟨w4.heap.size, 0, none⟩ 1 1 [.int .i64 (t.k : Int), .int .i64 ((s.size : Int) - (r.size : Int)), .string ⟨t.tx.toArray⟩, .bool t.ng, .string ⟨t.dg.toArray⟩, .int .i64 (t.sc : Int)] rfl rfl (new_cells w4 [.int .i64 (t.k : Int), .int .i64 ((s.size : Int) - (r.size : Int)), .string ⟨t.tx.toArray⟩, .bool t.ng, .string ⟨t.dg.toArray⟩, .int .i64 (t.sc : Int)] 33) (one_tk s.size (t, r.size)) (by unfold maxLen; omega) (by omega) (lunhide HBS) ?_)
              intro v' w6 hown6 hgr6 hnn6
              have hB6 : Below w0.heap.size w0 w6 := (lunhide HB05).grown hgr6 (lunhide HBS) (fun j hj => own_blk (lunhide HOW5) j hj)
              have HF6 := lhide (And.intro hown6 hB6)
              clear hown6 hgr6 hnn6 hB6 d0 d1 d2 d3 d4 d5 HOW5 HB05 HBS
              go_wp2_with fail
              refine (lunhide CT _).mono ?_
              rintro e w7 ⟨rfl, b7⟩
              have HF7 := lhide (And.intro (own_below (lunhide HF6).1 b7) ((lunhide HF6).2.trans (b7.mono (lunhide HF6).2.size)))
              clear b7 HF6
              go_wp2_with fail
              go_roundg g
              case rel => exact ⟨T ++ [(t, r.size)], y, rfl, by rw [List.length_append]; simp; omega, by omega, HST, by rw [List.length_append, rowC_snoc]; exact (lunhide HF7).1, (lunhide HF7).2⟩
              case measure => omega
          · have hlx : Lx.lexO s.data.toList = none := by
              have h := lunhide HLX
              rw [h.1, Lx.lex_wrong (by rw [h.2]; exact lunhide HNE) (by rw [h.2]; exact Lx.read_none (lunhide HNO))]
              rfl
            obtain ⟨rfl, rfl⟩ : er = 30 ∧ TT = [] := by
              have h1 := err_wrong hbl hlx
              have h2 := lunhide HER
              exact ⟨h2.1.symm.trans h1.1, h2.2.symm.trans h1.2⟩
            clear hlx
            go_wp2_with fail
            try rw [Exit.noGoto_ret]
            go_ret2
            exact ⟨_, rfl, World.ownsRow_nil _ _ _ _, lunhide HBW _ (lunhide HB2)⟩
end Go.Proofs.YtppkknmgdahniabDoor.Lex
