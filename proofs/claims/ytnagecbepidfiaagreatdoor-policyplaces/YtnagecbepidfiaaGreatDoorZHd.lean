/- What is proved here: Print of package policy, walked; conditions: the tables of unicode/utf8 and the table of powers of ten lie, the policy lies and may be. -/
import Derived.Test.YtnagecbepidfiaaGreatDoorZHc
import Derived.Lib.ItoaLen
import Derived.BigQuiet
import Derived.Deep.CutBlock
import Derived.Deep.CutRange
import Derived.Deep.LoopGhost
namespace Go.Proofs.YtnagecbepidfiaaGreatDoor.Pol
set_option maxRecDepth 100000
open Go.RowKit Go.Proofs.YtnagecbepidfiaaGreatDoor.Nc Go.Proofs.YtnagecbepidfiaaGreatDoor.Np Go.Proofs.YtnagecbepidfiaaGreatDoor.Nq
set_option linter.unusedVariables false
set_option linter.unusedSimpArgs false

abbrev IsB (B : Nat) (l : Tx) (W : World) : Prop := Lib.IsBuilderF 81 5 B B (Lib.byteCells l) W
theorem cells_of (s : ByteArray) : Lib.strCells s = Lib.byteCells s.data.toList := rfl
theorem isB_lt {B : Nat} {l : Tx} {W : World} (h : IsB B l W) : B < W.heap.size := by rcases h with h | h <;> exact h.lt
theorem flat_take {ws : List Tx} {k : Nat} (h : k < ws.length) : Cm.flatB (ws.take (k + 1)) = Cm.flatB (ws.take k) ++ 32 :: ws[k]'h := by
  rw [List.take_succ_eq_append_getElem h, Cm.flatB_snoc]
theorem flat_take_len {ws : List Tx} {k b : Nat} (h : ∀ x ∈ ws, x.length ≤ b) (hk : k ≤ 1000) : (Cm.flatB (ws.take k)).length ≤ 1000 * (b + 1) := by
  have h1 := Cm.flatB_len (ws := ws.take k) (b := b) (fun x hx => h x (List.mem_of_mem_take hx))
  have h2 : (ws.take k).length ≤ 1000 := by rw [List.length_take]; omega
  exact Nat.le_trans h1 (Nat.mul_le_mul_right _ h2)
set_option maxHeartbeats 4000000 in
theorem line_any (B : Nat) (word : ByteArray) (a : Option Addr) (n c : Nat) (ws : List Tx) (l : Tx) (hn : n ≤ 1000) (hw : word.size ≤ 1000) (hl : l.length ≤ 1000000000) (hws : ∀ x ∈ ws, x.length ≤ 1000000) (w : World) (hI : IsB B l w) (HR : ∀ W, Below B w W → Lib.OthersKept 5 (some B) w W → TxIn W a n ws) :
    Calls Tryz.prog 46 #[.string word, .slice a n c, .pointer (some ⟨B, 0, none⟩)] w fun e w' => e = .returned (.tuple #[]) ∧ IsB B (l ++ lineT word.data.toList ws) w' ∧ Below B w w' ∧ Lib.OthersKept 5 (some B) w w' := by
  have hnn : ws.length = n := (HR w (Below.refl _ _) (Lib.OthersKept.refl _ _ _)).1
  have HRR := phide HR
  have HWS := phide hws
  have hwl : word.data.toList.length = word.size := len_size word
  have hB := Nat.le_of_lt (isB_lt hI)
  clear HR hws
  go_enter Tryz.func46, Tryz.ntmps46
  go_wp2_with fail
  refine (Tryz.Builder_WriteString_k B B _ word _ hI (by rw [Lib.byteCells_length]; omega) hB).mono ?_
  rintro e w1 ⟨rfl, i1, b1, k1⟩
  have hI1 : IsB B (l ++ (word.data.toList ++ Cm.flatB (ws.take 0))) w1 := by
    rw [cells_of, ← Lib.byteCells_append] at i1
    rw [List.take_zero, Cm.flatB_nil, List.append_nil]
    exact .inr i1
  clear i1 hI
  go_wp2
  go_loopw [11] (fun i wr => ∃ k : Nat, i = .int .i64 (k : Int) ∧ k ≤ n ∧ IsB B (l ++ (word.data.toList ++ Cm.flatB (ws.take k))) wr ∧ Below B w wr ∧ Lib.OthersKept 5 (some B) w wr) (fun i _ => n - (intOf i).toNat)
  case atStart => exact ⟨0, rfl, Nat.zero_le _, hI1, b1, k1⟩
  case round =>
    obtain ⟨k, rfl, hk, hIr, hBr, hOr⟩ := hrel
    clear hI1 b1 k1
    have hBs := Nat.le_of_lt (isB_lt hIr)
    have hfl := flat_take_len (b := 1000000) (punhide HWS) (Nat.le_trans hk hn)
    have hlen : (Lib.byteCells (l ++ (word.data.toList ++ Cm.flatB (ws.take k)))).length ≤ 3000000000 := by
      rw [Lib.byteCells_length, List.length_append, List.length_append]; omega
    have HLEN := phide hlen
    clear hlen hfl
    by_cases hlt : k < n
    · obtain ⟨g, o, rfl, hrow⟩ := (punhide HRR wr hBr hOr).get (by omega)
      obtain ⟨x, hx, hx2, hx3⟩ := txt (ws[k]'(by omega))
      have hc := hrow.2 k (by omega)
      rw [hx] at hc
      have hxl := punhide HWS _ (List.getElem_mem (show k < ws.length by omega))
      have hxs : x.size ≤ 1000000 := by omega
      have hft : Cm.flatB (ws.take (k + 1)) = Cm.flatB (ws.take k) ++ 32 :: x.data.toList := by rw [flat_take (by omega), hx2]
      have HFT := phide hft
      clear hx hx2 hx3 hrow hft hxl
      go_wp2_with fail
      refine (Tryz.Builder_WriteString_k B B _ ⟨#[32]⟩ _ hIr (by have := punhide HLEN; show _ + 1 ≤ _; omega) hBs).mono ?_
      rintro e w2 ⟨rfl, i2, b2, k2⟩
      have hB2 := hBr.trans b2
      have hO2 := hOr.trans k2
      clear hBr hOr b2 k2 hIr
      go_wp2_with fail
      refine (Tryz.Builder_WriteString_k B B _ x _ (.inr i2) (by have := punhide HLEN; rw [List.length_append]; show _ + 1 + _ ≤ _; omega) (Nat.le_trans hB hB2.size)).mono ?_
      rintro e w3 ⟨rfl, i3, b3, k3⟩
      have hI3 : IsB B (l ++ (word.data.toList ++ Cm.flatB (ws.take (k + 1)))) w3 := by
        rw [cells_of, cells_of, ← Lib.byteCells_append, ← Lib.byteCells_append] at i3
        rw [punhide HFT]
        have e : l ++ (word.data.toList ++ Cm.flatB (ws.take k)) ++ (⟨#[32]⟩ : ByteArray).data.toList ++ x.data.toList = l ++ (word.data.toList ++ (Cm.flatB (ws.take k) ++ 32 :: x.data.toList)) := by simp
        rw [e] at i3
        exact .inr i3
      have hB3 := hB2.trans b3
      have hO3 := hO2.trans k3
      clear hB2 hO2 i2 i3 b3 k3
      go_wp2
      go_roundw
      case rel => exact ⟨k + 1, by go_num, hlt, hI3, hB3, hO3⟩
      case measure => simp [intOf]; omega
    · have hkn : k = n := by omega
      have hall : ws.take k = ws := List.take_of_length_le (by omega)
      have HAL := phide hall
      clear hall hkn
      go_wp2_with fail
      refine (Tryz.Builder_WriteString_k B B _ ⟨#[10]⟩ _ hIr (by have := punhide HLEN; show _ + 1 ≤ _; omega) hBs).mono ?_
      rintro e w2 ⟨rfl, i2, b2, k2⟩
      have hI2 : IsB B (l ++ lineT word.data.toList ws) w2 := by
        rw [cells_of, ← Lib.byteCells_append, punhide HAL] at i2
        have e : l ++ (word.data.toList ++ Cm.flatB ws) ++ (⟨#[10]⟩ : ByteArray).data.toList = l ++ lineT word.data.toList ws := by unfold lineT; simp
        rw [e] at i2
        exact .inr i2
      have hB2 := hBr.trans b2
      have hO2 := hOr.trans k2
      clear hBr hOr b2 k2 hIr i2
      go_wp2
      go_returns
      exact ⟨rfl, hI2, hB2, hO2⟩

/-- What a row of texts that was built in place holds, whatever a builder has written since. -/
theorem built_row {W W' : World} {yb B : Nat} {L : List Tx} (hb : W.heap[yb]? = some (.cells (L.map fun l => Value.string ⟨l.toArray⟩).toArray 9)) (hne : yb ≠ B) (hO : Lib.OthersKept 5 (some B) W W') : TxIn W' (some ⟨yb, 0, none⟩) L.length L := by
  have h := hO yb _ hb (fun e => hne (Option.some.inj e)) (fun c fz e => by cases e)
  refine ⟨rfl, .inr ⟨yb, 0, rfl, ?_, fun i hi => ?_⟩⟩
  · rcases Nat.lt_or_ge yb W'.heap.size with g | g
    · exact g
    · rw [Array.getElem?_eq_none g] at h; cases h
  · rw [cell_of_row W' yb _ _ _ _ h, Nat.zero_add]
    simp [hi]
theorem tx_arr (x : ByteArray) : (⟨x.data.toList.toArray⟩ : ByteArray) = x := by simp
theorem alloc_at (W : World) (o : Obj) : (W.alloc o).heap[W.heap.size]? = some o := heap_alloc_new W o
theorem marks_snoc (cats : List Tx) (ms : List Mk) (k : Nat) (h : k < ms.length) : marksT ptL cats (ms.take (k + 1)) = marksT ptL cats (ms.take k) ++ markT ptL cats (ms[k]'h) := by
  unfold marksT
  rw [List.take_succ_eq_append_getElem h, List.flatMap_append]
  simp
theorem pt_len {L : List Pm.St} (h8 : L.length ≤ 8) (hm : ∀ t ∈ L, mayB t = true) : (ptL L).length ≤ 3201 := by
  have := ptL_len L hm L.length
  rw [List.take_length] at this
  have := Nat.mul_le_mul_right 400 h8
  omega
theorem names_len {cats : List Tx} (h : ∀ x ∈ cats, x.length ≤ 24) (hc : cats.length ≤ 64) (m : Nat) : (namesT cats m).length ≤ 1600 := by
  unfold namesT
  have h1 := Cm.joinB_len (Cm.selK cats m cats.length)
  have h2 := Cm.flatB_len (ws := Cm.selK cats m cats.length) (b := 24) (fun x hx => h x (Cm.selK_mem (Nat.le_refl _) hx))
  have h3 := Cm.selK_len cats m cats.length
  have := Nat.mul_le_mul_right 25 (Nat.le_trans h3 hc)
  omega
theorem mark_len {p : Po} (h : Ok p) {m : Mk} (hm : m ∈ p.marks) : (markT ptL p.cats m).length ≤ 4810 := by
  have h1 := names_len (fun x hx => name_len (h.names x hx)) h.n64 m.mask
  have h2 := pt_len (Np.mayE_len (h.marks m hm).1).1 (Np.mayE_len (h.marks m hm).1).2
  unfold markT lineT wMark
  simp [Cm.flatB]
  omega
theorem marks_len {p : Po} (h : Ok p) (l : List Mk) (hl : ∀ m ∈ l, m ∈ p.marks) : (marksT ptL p.cats l).length ≤ l.length * 4810 := by
  induction l with
  | nil => simp [marksT]
  | cons m r ih =>
    rw [marks_cons, List.length_append, List.length_cons, Nat.succ_mul]
    have := ih (fun x hx => hl x (by simp [hx]))
    have := mark_len h (hl m (by simp))
    omega
theorem quote_len (l : Tx) (h : Lib.validD l = true) : (Qm.quoteL l).length ≤ 2 + 6 * l.length := by
  unfold Qm.quoteL
  rw [Qm.quo_flat l h]
  have : ∀ l : Tx, (l.flatMap Qm.escB).length ≤ 6 * l.length := by
    intro l
    induction l with
    | nil => simp
    | cons c r ih =>
      rw [List.flatMap_cons, List.length_append, List.length_cons]
      have : (Qm.escB c).length ≤ 6 := by
        unfold Qm.escB
        split
        · simp
        · unfold Qm.esc
          repeat' split
          all_goals simp
      omega
  simp only [List.length_cons, List.length_append, List.length_nil]
  have := this l
  omega
theorem itoa_len {n : Int} (h : 1 ≤ n ∧ n ≤ 100000) : (Lib.itoa n).length ≤ 21 := Lib.itoa_length_le n (by omega) (by omega)
theorem print_len {p : Po} (h : Ok p) : (printT ptL p).length ≤ 99000 := by
  have h1 := Cm.flatB_len (ws := p.cats) (b := 24) (fun x hx => name_len (h.names x hx))
  have h2 := Nat.mul_le_mul_right 25 h.n64
  have h3 := marks_len h p.marks (fun _ h => h)
  have h4 := Nat.mul_le_mul_right 4810 h.m16
  have h5 := quote_len _ h.valid
  have h6 := h.t24
  have h7 := itoa_len h.fuel
  have h8 := itoa_len h.quota
  unfold printT tailT lineT wCats wToken wFuel wQuota
  simp only [List.length_append, List.length_cons, List.length_nil]
  have hf : ∀ x : Tx, (Cm.flatB [x]).length = x.length + 1 := fun x => by simp [Cm.flatB]
  rw [hf, hf, hf]
  omega

set_option maxHeartbeats 8000000 in
theorem print_any (v : Value) (p : Po) (hok : Ok p) (u : ByteArray) (hu : printT ptL p = u.data.toList) (w : World) (hI : PolIn w v p) (hT : Tabs w) (hP : Pow w) :
    Calls Tryz.prog 16 #[v] w fun e w' => e = .returned (.string u) ∧ Below w.heap.size w w' := by
  obtain ⟨a, n, c, b, m, d, tok, rfl, htok, hC, hM⟩ := hI
  have HOK := phide hok
  have hlp := print_len hok
  have hn64 : n ≤ 64 := by rw [← hC.1]; exact hok.n64
  have hm16 : m ≤ 16 := by rw [← hM.1]; exact hok.m16
  have hcn : p.cats.length = n := hC.1
  have hmn : p.marks.length = m := hM.1
  have hCl : ∀ x ∈ p.cats, x.length ≤ 1000 := fun x hx => by have := name_len (hok.names x hx); omega
  have HU := phide hu
  have htl : tok.size ≤ 24 := by rw [← len_size, htok]; exact hok.t24
  obtain ⟨tq, htq⟩ : ∃ tq : ByteArray, Qm.quoteL tok.data.toList = tq.data.toList := ⟨⟨(Qm.quoteL tok.data.toList).toArray⟩, by simp⟩
  have CQ := fun W => quote_c tok tq W (by omega) htq
  obtain ⟨f1, hf1⟩ : ∃ f1 : ByteArray, (⟨(Lib.itoa p.fuel).toArray⟩ : ByteArray) = f1 := ⟨_, rfl⟩
  obtain ⟨f2, hf2⟩ : ∃ f2 : ByteArray, (⟨(Lib.itoa p.quota).toArray⟩ : ByteArray) = f2 := ⟨_, rfl⟩
  have CF1 := fun W hP => itoa_b p.fuel f1 (by have := hok.fuel; omega) (by have := hok.fuel; omega) W hP hf1
  have CF2 := fun W hP => itoa_b p.quota f2 (by have := hok.quota; omega) (by have := hok.quota; omega) W hP hf2
  have hF := Five.new w (.slice a n c) (.slice b m d) (.string tok) (.int .i64 p.fuel) (.int .i64 p.quota) 25
  have hB0 : Below w.heap.size w (w.alloc (.cells #[.slice a n c, .slice b m d, .string tok, .int .i64 p.fuel, .int .i64 p.quota] 25)) := (Below.refl _ _).alloc (Nat.le_refl _) _
  have s0 : (w.alloc (.cells #[.slice a n c, .slice b m d, .string tok, .int .i64 p.fuel, .int .i64 p.quota] 25)).heap.size = w.heap.size + 1 := by simp
  have hB1 := hB0.alloc hB0.size (.cells #[.pointer none, .slice none 0 0] 81)
  have hF1 := hF.step ((Below.refl _ (w.alloc (.cells #[.slice a n c, .slice b m d, .string tok, .int .i64 p.fuel, .int .i64 p.quota] 25))).alloc (Nat.le_refl _) (.cells #[.pointer none, .slice none 0 0] 81))
  have hI0 := Lib.IsBuilderF.of (Lib.fresh_isBuilder 81 5 (w.alloc (.cells #[.slice a n c, .slice b m d, .string tok, .int .i64 p.fuel, .int .i64 p.quota] 25)))
  rw [s0] at hI0
  have hI1 : IsB (w.heap.size + 1) [] _ := hI0
  have HTQ : Hid (tq.data.toList = Qm.quoteL p.token) := phide (by rw [← htok, htq])
  have HF1 : Hid (f1.data.toList = Lib.itoa p.fuel) := phide (by rw [← hf1])
  have HF2 : Hid (f2.data.toList = Lib.itoa p.quota) := phide (by rw [← hf2])
  have hqs : tq.size ≤ 1000 := by have := quote_len _ hok.valid; rw [← htok] at this; have h3 := hok.t24; rw [← htok] at h3; rw [← len_size, ← htq]; omega
  have hfs1 : f1.size ≤ 100 := by have := itoa_len hok.fuel; rw [← len_size, punhide HF1]; omega
  have hfs2 : f2.size ≤ 100 := by have := itoa_len hok.quota; rw [← len_size, punhide HF2]; omega
  clear hI0 hB0 hF s0 hok hu htok hf1 hf2 htq
  go_enter Tryz.func16, Tryz.ntmps16
  go_upto_region 3 with fail
  generalize (w.alloc (.cells #[.slice a n c, .slice b m d, .string tok, .int .i64 p.fuel, .int .i64 p.quota] 25)).alloc (.cells #[.pointer none, .slice none 0 0] 81) = W1 at *
  obtain ⟨hq9, x0, x1, x2, x3, x4, -⟩ := id hF1
  have HC : Hid (∀ W, Below (w.heap.size + 1) W1 W → (W.cell? ⟨w.heap.size, 0, none⟩ = some (.slice a n c) ∧ W.cell? ⟨w.heap.size, 1, none⟩ = some (.slice b m d) ∧ W.cell? ⟨w.heap.size, 2, none⟩ = some (.string tok) ∧ W.cell? ⟨w.heap.size, 3, none⟩ = some (.int .i64 p.fuel) ∧ W.cell? ⟨w.heap.size, 4, none⟩ = some (.int .i64 p.quota)) ∧ TxIn W a n p.cats ∧ MarksIn W b m p.marks ∧ Tabs W ∧ Pow W ∧ Below w.heap.size w W) := phide (fun W hW => by
    have hq : w.heap.size < w.heap.size + 1 := Nat.lt_succ_self _
    have hw := hB1.trans (hW.mono (Nat.le_of_lt hq))
    exact ⟨⟨(hW.cell (p := ⟨w.heap.size, 0, none⟩) hq).trans x0, (hW.cell (p := ⟨w.heap.size, 1, none⟩) hq).trans x1, (hW.cell (p := ⟨w.heap.size, 2, none⟩) hq).trans x2, (hW.cell (p := ⟨w.heap.size, 3, none⟩) hq).trans x3, (hW.cell (p := ⟨w.heap.size, 4, none⟩) hq).trans x4⟩, hC.step hw, hM.step hw, tabs_step hT hw, hP.next hw, hw⟩)
  have HCL := phide hCl
  clear hC hM hT hP hF1 hB1 hCl hq9
  generalize hqb : w.heap.size = qb at *
  have HQB := phide hqb
  clear hqb
  have CL := line_any (qb + 1) ⟨#[99, 97, 116, 115]⟩ a n c p.cats [] (by omega) (by decide) (by simp) (fun x hx => by have := punhide HCL x hx; omega) W1 hI1 (fun W hW _ => (punhide HC W hW).2.1)
  go_wp2_with fail
  refine CL.mono ?_
  rintro e W2 ⟨rfl, hI2, hB2, -⟩
  clear CL hI1 x0 x1 x2 x3 x4
  obtain ⟨⟨x0, x1, x2, x3, x4⟩, -⟩ := punhide HC W2 hB2
  rw [List.nil_append] at hI2
  have hI3 : IsB (qb + 1) (lineT wCats p.cats ++ marksT ptL p.cats (p.marks.take 0)) W2 := by
    rw [List.take_zero]; unfold marksT; rw [List.flatMap_nil, List.append_nil]; exact hI2
  clear hI2
  go_wp2
  go_loopw [15] (fun i wr => ∃ k : Nat, i = .int .i64 (k : Int) ∧ k ≤ m ∧ IsB (qb + 1) (lineT wCats p.cats ++ marksT ptL p.cats (p.marks.take k)) wr ∧ Below (qb + 1) W1 wr) (fun i _ => m - (intOf i).toNat)
  case atStart => exact ⟨0, rfl, Nat.zero_le _, hI3, hB2⟩
  case round =>
    obtain ⟨k, rfl, hk, hIr, hBr⟩ := hrel
    clear hI3 hB2 x0 x1 x2 x3 x4
    obtain ⟨⟨x0, x1, x2, x3, x4⟩, -, hMr, -, -, -⟩ := punhide HC wr hBr
    have hbs := isB_lt hIr
    by_cases hlt : k < m
    case pos =>
      obtain ⟨g, o, rfl, hg, hrow⟩ := hMr.2.resolve_left (by omega)
      obtain ⟨hmk, pa, pn, pc, c0, c1, hst⟩ := hrow k (by omega)
      obtain ⟨mk, hmke⟩ : ∃ mk, p.marks[k]'(by omega) = mk := ⟨_, rfl⟩
      rw [hmke] at hmk c1 hst
      have hmem : mk ∈ p.marks := by rw [← hmke]; exact List.getElem_mem _
      obtain ⟨hm8, hmB⟩ := Np.mayE_len ((punhide HOK).marks mk hmem).1
      obtain ⟨u1, hu1⟩ : ∃ u1 : ByteArray, Cm.joinB (Cm.selK p.cats mk.mask n) = u1.data.toList := ⟨⟨(Cm.joinB (Cm.selK p.cats mk.mask n)).toArray⟩, by simp⟩
      obtain ⟨u2, hu2⟩ : ∃ u2 : ByteArray, ptL mk.path = u2.data.toList := ⟨⟨(ptL mk.path).toArray⟩, by simp⟩
      have CN := fun W h => names_o a n c p.cats hcn (by omega) (punhide HCL) mk.mask hmk u1 hu1 W h
      have CP := fun W hs hP => Np.print_any pa pn pc mk.path hmB (by rw [← hst.1]; omega) u2 hu2 W hs hP
      have HU1 : Hid (u1.data.toList = namesT p.cats mk.mask) := phide (by rw [← hu1]; unfold namesT; rw [hcn])
      have HU2 : Hid (u2.data.toList = ptL mk.path) := phide hu2.symm
      have hul1 : u1.size ≤ 1600 := by have := names_len (fun x hx => name_len ((punhide HOK).names x hx)) (by rw [hcn]; exact hn64) mk.mask; rw [← len_size, punhide HU1]; exact this
      have hul2 : u2.size ≤ 3201 := by have := pt_len hm8 hmB; rw [← len_size, punhide HU2]; exact this
      have hsn := marks_snoc p.cats p.marks k (by omega)
      rw [hmke] at hsn
      have HSN := phide hsn
      have hll : (lineT wCats p.cats ++ marksT ptL p.cats (p.marks.take k)).length ≤ 1000000 := by
        have h1 := Cm.flatB_len (ws := p.cats) (b := 24) (fun x hx => name_len ((punhide HOK).names x hx))
        have h2 := Nat.mul_le_mul_right 25 (punhide HOK).n64
        have h3 := marks_len (punhide HOK) (p.marks.take k) (fun x hx => List.mem_of_mem_take hx)
        have h4 : (p.marks.take k).length ≤ 16 := by rw [List.length_take]; omega
        have h5 := Nat.mul_le_mul_right 4810 h4
        unfold lineT wCats
        simp only [List.length_append, List.length_cons, List.length_nil]
        omega
      clear hsn hu1 hu2 hmke hm8 hmB hmem hrow hMr
      have hBa : Below (qb + 1) W1 (wr.alloc (.cells #[.slice pa pn pc, .int .u64 (mk.mask : Int)] 59)) := hBr.alloc (by omega) _
      have hIa : IsB (qb + 1) (lineT wCats p.cats ++ marksT ptL p.cats (p.marks.take k)) (wr.alloc (.cells #[.slice pa pn pc, .int .u64 (mk.mask : Int)] 59)) := bstays hIr ((Below.refl _ _).alloc (Nat.le_refl _) _)
      have hxa : (wr.alloc (.cells #[.slice pa pn pc, .int .u64 (mk.mask : Int)] 59)).heap[wr.heap.size]? = some (.cells #[.slice pa pn pc, .int .u64 (mk.mask : Int)] 59) := alloc_at _ _
      have hsa : Np.StepsIn (wr.alloc (.cells #[.slice pa pn pc, .int .u64 (mk.mask : Int)] 59)) pa pn mk.path := hst.step ((Below.refl _ _).alloc (Nat.le_refl _) _)
      have hxl : wr.heap.size < (wr.alloc (.cells #[.slice pa pn pc, .int .u64 (mk.mask : Int)] 59)).heap.size := by simp
      have hxb : wr.heap.size ≠ qb + 1 := by omega
      go_upto_region 7 with fail
      clear hIr hBr hst x0 x1 x2 x3 x4 c0 c1
      generalize wr.alloc (.cells #[.slice pa pn pc, .int .u64 (mk.mask : Int)] 59) = W4 at *
      generalize wr.heap.size = xb at *
      have HXA : Hid (∀ W : World, W.heap[xb]? = some (.cells #[.slice pa pn pc, .int .u64 (mk.mask : Int)] 59) → W.cell? ⟨xb, 0, none⟩ = some (.slice pa pn pc) ∧ W.cell? ⟨xb, 1, none⟩ = some (.int .u64 (mk.mask : Int))) := phide (fun W h => by
        constructor
        · rw [cell_of_row W xb _ _ _ _ h]; rfl
        · rw [cell_of_row W xb _ _ _ _ h]; rfl)
      have HSB : Hid (∀ W : World, Below W4.heap.size W4 W → (W.cell? ⟨qb, 0, none⟩ = some (.slice a n c)) ∧ W.cell? ⟨xb, 0, none⟩ = some (.slice pa pn pc) ∧ W.cell? ⟨xb, 1, none⟩ = some (.int .u64 (mk.mask : Int))) := phide (fun W hW =>
        ⟨(punhide HC W (hBa.trans (hW.mono (by omega)))).1.1, punhide HXA W ((hW.block xb hxl).trans hxa)⟩)
      have HSL : Hid (∀ W : World, Below (qb + 1) W1 W → W.heap[xb]? = some (.cells #[.slice pa pn pc, .int .u64 (mk.mask : Int)] 59) → (W.cell? ⟨qb, 0, none⟩ = some (.slice a n c)) ∧ W.cell? ⟨xb, 0, none⟩ = some (.slice pa pn pc) ∧ W.cell? ⟨xb, 1, none⟩ = some (.int .u64 (mk.mask : Int))) := phide (fun W hW hx => ⟨(punhide HC W hW).1.1, punhide HXA W hx⟩)
      have hS : Below W4.heap.size W4 W4.drew := (Below.refl _ _).drew
      have HB4 : Hid (Below (qb + 1) W1 W4) := phide hBa
      have HX4 := phide hxa
      have HI4 := phide hIa
      have HS4 := phide hsa
      clear hBa hxa hIa hsa
      go_region_held3 (fun w' => (w'.cell? ⟨qb, 0, none⟩ = some (.slice a n c)) ∧ w'.cell? ⟨xb, 0, none⟩ = some (.slice pa pn pc) ∧ w'.cell? ⟨xb, 1, none⟩ = some (.int .u64 (mk.mask : Int)))
        (first | exact punhide HSB _ hS | exact punhide HSB _ (hS.alloc hS.size _) | exact hSL)
        (first
          | (go_at_call 48; refine (CN _ ((punhide HC _ ((punhide HB4).trans (hS.mono (by omega)))).2.1)).mono ?_; rintro e9 w9 ⟨rfl, b9⟩; replace hS := hS.trans (b9.mono hS.size); clear b9)
          | (go_at_call 49; refine (CP _ ((punhide HS4).step hS) ((punhide HC _ ((punhide HB4).trans (hS.mono (by omega)))).2.2.2.2.1)).mono ?_; rintro e9 w10 ⟨rfl, b9⟩; replace hS := hS.trans (b9.mono hS.size); clear b9)
          | (go_at_call 46
             refine (line_any (qb + 1) ⟨#[109, 97, 114, 107]⟩ _ 2 2 [u1.data.toList, u2.data.toList] _ (by decide) (by decide) (by omega) (by intro x hx; simp only [List.mem_cons, List.not_mem_nil, or_false] at hx; rcases hx with rfl | rfl <;> (rw [len_size]; omega)) _ (bstays (punhide HI4) (hS.alloc hS.size _)) (fun W hW hO => built_row (L := [u1.data.toList, u2.data.toList]) (by simp only [List.map_cons, List.map_nil, tx_arr]; exact alloc_at _ _) (by have := hS.size; omega) hO)).mono ?_
             rintro e9 w11 ⟨rfl, i11, b11, o11⟩
             have hB11 := ((punhide HB4).trans ((hS.alloc hS.size (.cells #[.string u1, .string u2] 9)).mono (by omega))).trans b11
             have hSL := punhide HSL _ hB11 (o11 xb _ (((hS.alloc hS.size (.cells #[.string u1, .string u2] 9)).block xb hxl).trans (punhide HX4)) (fun e => hxb (Option.some.inj e)) (fun c fz e => by cases e))))
      all_goals
        have hI12 : IsB (qb + 1) (lineT wCats p.cats ++ marksT ptL p.cats (p.marks.take (k + 1))) w11 := by
          rw [punhide HSN, ← List.append_assoc]
          have e : lineT (⟨#[109, 97, 114, 107]⟩ : ByteArray).data.toList [u1.data.toList, u2.data.toList] = markT ptL p.cats mk := by rw [punhide HU1, punhide HU2]; rfl
          rw [← e]
          exact i11
        clear i11 hSL o11 b11
        go_wp2
        go_roundw
        case rel => exact ⟨k + 1, by go_num, hlt, hI12, hB11⟩
        case measure => simp [intOf]; omega
    case neg =>
      have hkm : p.marks.take k = p.marks := List.take_of_length_le (by omega)
      rw [hkm] at hIr
      have hll : (lineT wCats p.cats ++ marksT ptL p.cats p.marks).length ≤ 99000 := by
        have : (printT ptL p).length = (lineT wCats p.cats ++ marksT ptL p.cats p.marks).length + (tailT p).length := by unfold printT; simp only [List.length_append]; omega
        omega
      clear hkm hMr hbs
      obtain ⟨l0, hl0⟩ : ∃ l0, lineT wCats p.cats ++ marksT ptL p.cats p.marks = l0 := ⟨_, rfl⟩
      rw [hl0] at hIr hll
      have HL0 := phide hl0
      clear hl0

      go_wp2_with fail
      refine (CQ _).mono ?_
      rintro e w3 ⟨rfl, b3⟩
      have hB3 := hBr.trans (b3.mono (Nat.le_of_lt (isB_lt hIr)))
      have hI3 := bstays hIr b3
      have hlt3 := isB_lt hI3
      have al3 : Below w3.heap.size w3 (w3.alloc (.cells #[.string tq] 9)) := (Below.refl _ _).alloc (Nat.le_refl _) _
      have ar3 : (w3.alloc (.cells #[.string tq] 9)).heap[w3.heap.size]? = some (.cells (([tq.data.toList] : List Tx).map fun l => Value.string ⟨l.toArray⟩).toArray 9) := by simp only [List.map_cons, List.map_nil, tx_arr]; exact alloc_at _ _
      have hIa3 := bstays hI3 al3
      have hBa3 := hB3.trans (al3.mono (Nat.le_of_lt hlt3))
      have hne3 : w3.heap.size ≠ qb + 1 := by omega
      have hll3 : ∀ x ∈ [tq.data.toList], x.length ≤ 1000000 := by intro x hx; rw [List.mem_singleton] at hx; rw [hx, len_size]; omega
      have CLn3 := line_any (qb + 1) ⟨#[116, 111, 107, 101, 110]⟩ (some ⟨w3.heap.size, 0, none⟩) 1 1 [tq.data.toList] _ (by decide) (by decide) (by omega) hll3 _ hIa3 (fun W hW hO => built_row ar3 hne3 hO)
      clear b3 al3 ar3 hll3
      go_wp2_with fail
      refine CLn3.mono ?_
      rintro e v3 ⟨rfl, j3, c3, -⟩
      have hBv3 := hBa3.trans c3
      clear CLn3 c3 hIa3 hI3 hB3 hBa3 hlt3 hne3

      obtain ⟨l1, hl1⟩ : ∃ l1, l0 ++ lineT (⟨#[116, 111, 107, 101, 110]⟩ : ByteArray).data.toList [tq.data.toList] = l1 := ⟨_, rfl⟩
      have hll1 : l1.length ≤ 200000 := by rw [← hl1]; have := len_size tq; simp [lineT, Cm.flatB, -Array.length_toList]; omega
      rw [hl1] at j3
      have HL1 := phide hl1
      clear hl1 x0 x1 x2 x3 x4 hIr hBr
      obtain ⟨⟨x0, x1, x2, x3, x4⟩, -, -, -, hPv, -⟩ := punhide HC _ hBv3

      go_wp2_with fail
      refine (CF1 _ hPv).mono ?_
      rintro e w4 ⟨rfl, b4⟩
      have hB4 := hBv3.trans (b4.mono (Nat.le_of_lt (isB_lt j3)))
      have hI4 := bstays j3 b4
      have hlt4 := isB_lt hI4
      have al4 : Below w4.heap.size w4 (w4.alloc (.cells #[.string f1] 9)) := (Below.refl _ _).alloc (Nat.le_refl _) _
      have ar4 : (w4.alloc (.cells #[.string f1] 9)).heap[w4.heap.size]? = some (.cells (([f1.data.toList] : List Tx).map fun l => Value.string ⟨l.toArray⟩).toArray 9) := by simp only [List.map_cons, List.map_nil, tx_arr]; exact alloc_at _ _
      have hIa4 := bstays hI4 al4
      have hBa4 := hB4.trans (al4.mono (Nat.le_of_lt hlt4))
      have hne4 : w4.heap.size ≠ qb + 1 := by omega
      have hll4 : ∀ x ∈ [f1.data.toList], x.length ≤ 1000000 := by intro x hx; rw [List.mem_singleton] at hx; rw [hx, len_size]; omega
      have CLn4 := line_any (qb + 1) ⟨#[102, 117, 101, 108]⟩ (some ⟨w4.heap.size, 0, none⟩) 1 1 [f1.data.toList] _ (by decide) (by decide) (by omega) hll4 _ hIa4 (fun W hW hO => built_row ar4 hne4 hO)
      clear b4 al4 ar4 hll4
      go_wp2_with fail
      refine CLn4.mono ?_
      rintro e v4 ⟨rfl, j4, c4, -⟩
      have hBv4 := hBa4.trans c4
      clear CLn4 c4 hIa4 hI4 hB4 hBa4 hlt4 hne4

      obtain ⟨l2, hl2⟩ : ∃ l2, l1 ++ lineT (⟨#[102, 117, 101, 108]⟩ : ByteArray).data.toList [f1.data.toList] = l2 := ⟨_, rfl⟩
      have hll2 : l2.length ≤ 300000 := by rw [← hl2]; have := len_size f1; simp [lineT, Cm.flatB, -Array.length_toList]; omega
      rw [hl2] at j4
      have HL2 := phide hl2
      clear hl2 x0 x1 x2 x3 x4 hPv j3 hBv3
      obtain ⟨⟨x0, x1, x2, x3, x4⟩, -, -, -, hPv, -⟩ := punhide HC _ hBv4

      go_wp2_with fail
      refine (CF2 _ hPv).mono ?_
      rintro e w5 ⟨rfl, b5⟩
      have hB5 := hBv4.trans (b5.mono (Nat.le_of_lt (isB_lt j4)))
      have hI5 := bstays j4 b5
      have hlt5 := isB_lt hI5
      have al5 : Below w5.heap.size w5 (w5.alloc (.cells #[.string f2] 9)) := (Below.refl _ _).alloc (Nat.le_refl _) _
      have ar5 : (w5.alloc (.cells #[.string f2] 9)).heap[w5.heap.size]? = some (.cells (([f2.data.toList] : List Tx).map fun l => Value.string ⟨l.toArray⟩).toArray 9) := by simp only [List.map_cons, List.map_nil, tx_arr]; exact alloc_at _ _
      have hIa5 := bstays hI5 al5
      have hBa5 := hB5.trans (al5.mono (Nat.le_of_lt hlt5))
      have hne5 : w5.heap.size ≠ qb + 1 := by omega
      have hll5 : ∀ x ∈ [f2.data.toList], x.length ≤ 1000000 := by intro x hx; rw [List.mem_singleton] at hx; rw [hx, len_size]; omega
      have CLn5 := line_any (qb + 1) ⟨#[113, 117, 111, 116, 97]⟩ (some ⟨w5.heap.size, 0, none⟩) 1 1 [f2.data.toList] _ (by decide) (by decide) (by omega) hll5 _ hIa5 (fun W hW hO => built_row ar5 hne5 hO)
      clear b5 al5 ar5 hll5
      go_wp2_with fail
      refine CLn5.mono ?_
      rintro e v5 ⟨rfl, j5, c5, -⟩
      have hBv5 := hBa5.trans c5
      clear CLn5 c5 hIa5 hI5 hB5 hBa5 hlt5 hne5

      have hfin : l2 ++ lineT (⟨#[113, 117, 111, 116, 97]⟩ : ByteArray).data.toList [f2.data.toList] = u.data.toList := by
        rw [← punhide HL2, ← punhide HL1, ← punhide HL0, ← punhide HU, punhide HTQ, punhide HF1, punhide HF2]
        unfold printT tailT
        simp only [List.append_assoc]
        rfl
      rw [hfin] at j5
      clear hfin
      go_wp2_with fail
      have CS := Tryz.Builder_String_any_k (qb + 1) (qb + 1) _ _ j5 (Nat.le_of_lt (isB_lt j5))
      rw [tx_arr] at CS
      refine CS.mono ?_
      rintro e w9 ⟨rfl, -, b9, -⟩
      have hBz := (punhide HC _ (hBv5.trans b9)).2.2.2.2.2
      go_wp2
      go_ret
      exact ⟨rfl, by rw [punhide HQB]; exact hBz⟩
end Go.Proofs.YtnagecbepidfiaaGreatDoor.Pol
/- What is proved here: Parse of package policy, walked; conditions: the tables and the two errors lie. -/
namespace Go.Proofs.YtnagecbepidfiaaGreatDoor.Pol
set_option maxRecDepth 100000
open Go.RowKit Go.Proofs.YtnagecbepidfiaaGreatDoor.Nc Go.Proofs.YtnagecbepidfiaaGreatDoor.Np Go.Proofs.YtnagecbepidfiaaGreatDoor.Nq
set_option linter.unusedVariables false
set_option linter.unusedSimpArgs false

/-- What Parse answers. -/
def ParseA (s : ByteArray) (w' : World) (e : Ending) : Prop :=
  (∃ v p, e = .returned (.tuple #[v, .int .i64 0]) ∧ PolIn w' v p ∧ mayP p = 0 ∧ printT ptL p = s.data.toList ∧ ∀ p0, Ok p0 → printT ptL p0 = s.data.toList → p = p0) ∨
  (e = .returned (.tuple #[.agg #[.slice none 0 0, .slice none 0 0, .string ⟨#[]⟩, .int .i64 0, .int .i64 0], .int .i64 22]) ∧ ∀ p0, mayP p0 = 0 → printT ptL p0 ≠ s.data.toList)
set_option maxHeartbeats 4000000 in
theorem parse_any (s : ByteArray) (hs : s.size ≤ 99000) (w : World) (hT : Tabs w) (hP : Pow w) (hE : Errs w) :
    Calls Tryz.prog 11 #[.string s] w fun e w' => Below w.heap.size w w' ∧ ParseA s w' e := by
  have C := fun W hT hP hE => read_any s hs W hT hP hE
  have r0 := Five.new w (.slice none 0 0) (.slice none 0 0) (.string ⟨#[]⟩) (.int .i64 0) (.int .i64 0) 25
  have hB0 : Below w.heap.size w (w.alloc (.cells #[.slice none 0 0, .slice none 0 0, .string ⟨#[]⟩, .int .i64 0, .int .i64 0] 25)) := (Below.refl _ _).alloc (Nat.le_refl _) _
  go_enter Tryz.func11, Tryz.ntmps11
  go_wp2_with fail
  generalize w.alloc (.cells #[.slice none 0 0, .slice none 0 0, .string ⟨#[]⟩, .int .i64 0, .int .i64 0] 25) = W0 at *
  have hT0 := tabs_step hT hB0
  have hP0 := hP.next hB0
  have hE0 := Errs.next hE hB0
  generalize hrb : w.heap.size = rb at *
  have HRB := phide hrb
  clear hrb hT hP hE
  refine (C _ hT0 hP0 hE0).mono ?_
  rintro e w2 ⟨b2, v, p, rfl, hI, hc64, hcl, hm16, hpl, htk, hun⟩
  have hrs := r0.lt
  have hR2 := r0.step b2
  have hrb2 : rb < w2.heap.size := hR2.lt
  have hB2 := hB0.trans (b2.mono (Nat.le_of_lt hrs))
  replace hT0 := tabs_step hT0 b2
  replace hP0 := hP0.next b2
  clear C b2 r0 hB0 hE0
  obtain ⟨a, n, c, b, m, d, tok, rfl, htok, hC, hM⟩ := hI
  obtain ⟨Cp, Mp, Tp, fu, qu⟩ := p
  simp only at *
  have hrw : rb < W0.heap.size := hrs
  have hIF : PolF w2 W0.heap.size (.agg #[.slice a n c, .slice b m d, .string tok, .int .i64 fu, .int .i64 qu]) ⟨Cp, Mp, Tp, fu, qu⟩ := ⟨a, n, c, b, m, d, tok, rfl, htok, hC, hM⟩
  have hal : Below w2.heap.size w2 (w2.alloc (.cells #[.slice a n c, .slice b m d, .string tok, .int .i64 fu, .int .i64 qu] 25)) := (Below.refl _ _).alloc (Nat.le_refl _) _
  have hF := Five.new w2 (.slice a n c) (.slice b m d) (.string tok) (.int .i64 fu) (.int .i64 qu) 25
  have hI3 : PolIn (w2.alloc (.cells #[.slice a n c, .slice b m d, .string tok, .int .i64 fu, .int .i64 qu] 25)) (.agg #[.slice a n c, .slice b m d, .string tok, .int .i64 fu, .int .i64 qu]) ⟨Cp, Mp, Tp, fu, qu⟩ := hIF.is.step hal
  replace hIF := hIF.keep (Kp.of_below hal)
  replace hR2 := hR2.step hal
  have hrl := Nat.le_of_lt hR2.lt
  replace hB2 := hB2.trans (hal.mono (by omega))
  replace hT0 := tabs_step hT0 hal
  replace hP0 := hP0.next hal
  obtain ⟨q, hq⟩ : ∃ q, mayP ⟨Cp, Mp, Tp, fu, qu⟩ = q := ⟨_, rfl⟩
  have CM := fun W hT hI => may_any (.agg #[.slice a n c, .slice b m d, .string tok, .int .i64 fu, .int .i64 qu]) ⟨Cp, Mp, Tp, fu, qu⟩ q hq (by show Cp.length ≤ 1000; omega) hcl (by show Mp.length ≤ 1000; omega) (fun x hx => by have := hpl x hx; omega) (by show Tp.length ≤ _; omega) W hT hI
  have HUN := phide hun
  have HQ := phide hq
  have hxb : w2.heap.size ≠ rb := by omega
  clear hun hq hal hC hM hc64 hcl hm16 hpl htk htok hrs
  go_upto_region 2 with fail
  generalize w2.alloc (.cells #[.slice a n c, .slice b m d, .string tok, .int .i64 fu, .int .i64 qu] 25) = W3 at *
  generalize w2.heap.size = xb at *
  obtain ⟨hxl, x0, x1, x2, x3, x4, -⟩ := id hF
  by_cases hq0 : q = 0
  case neg =>
    have d1 : (q == 0) = false := by simp [hq0]
    have HBAD : Hid (∀ p0, mayP p0 = 0 → printT ptL p0 ≠ s.data.toList) := phide (fun p0 h0 he => by
      have := punhide HUN p0 (ok_of h0) he
      rw [← this, punhide HQ] at h0
      exact hq0 h0)
    clear HUN HQ hP0
    go_upto_region 3 with (go_at_call 15; refine (CM _ hT0 hI3).mono ?_; rintro e w4 ⟨rfl, b4⟩; have hR := hR2.step b4; have hB4 := hB2.trans (b4.mono hrl); clear b4)
    obtain ⟨-, r0, r1, r2, r3, r4, r5⟩ := id hR
    have g0 := r5 0
    have g1 := r5 1
    have g2 := r5 2
    have g3 := r5 3
    have g4 := r5 4
    have p1 := (hR.put (.slice none 0 0)).1
    have p2 := (p1.put (.slice none 0 0)).2.1
    have p3 := (p2.put (.string ⟨#[]⟩)).2.2.1
    have p4 := (p3.put (.int .i64 0)).2.2.2.1
    have p5 := (p4.put (.int .i64 0)).2.2.2.2
    have k1 := p1.c0
    have k2 := p2.c1
    have k3 := p3.c2
    have k4 := p4.c3
    have k5 := p5.c4
    have hBz := phide (((((hB4.setCell (p := ⟨rb, 0, none⟩) (Nat.le_refl _) (.slice none 0 0)).setCell (p := ⟨rb, 1, none⟩) (Nat.le_refl _) (.slice none 0 0)).setCell (p := ⟨rb, 2, none⟩) (Nat.le_refl _) (.string ⟨#[]⟩)).setCell (p := ⟨rb, 3, none⟩) (Nat.le_refl _) (.int .i64 0)).setCell (p := ⟨rb, 4, none⟩) (Nat.le_refl _) (.int .i64 0))
    clear p1 p2 p3 p4 p5 r5 hR
    go_wp2
    refine bodyPost_ret (v := .tuple #[.agg #[.slice none 0 0, .slice none 0 0, .string ⟨#[]⟩, .int .i64 0, .int .i64 0], .int .i64 22]) (by simp [results, Tryz.results11, go_sem, k1, k2, k3, k4, k5]) rfl ?_
    exact ⟨by rw [punhide HRB]; exact punhide hBz, .inr ⟨rfl, punhide HBAD⟩⟩
  case pos =>
    subst hq0
    have hok := ok_of (punhide HQ)
    obtain ⟨u, hu⟩ : ∃ u : ByteArray, printT ptL ⟨Cp, Mp, Tp, fu, qu⟩ = u.data.toList := ⟨⟨(printT ptL ⟨Cp, Mp, Tp, fu, qu⟩).toArray⟩, by simp⟩
    have CP := fun W hI hT hP => print_any (.agg #[.slice a n c, .slice b m d, .string tok, .int .i64 fu, .int .i64 qu]) ⟨Cp, Mp, Tp, fu, qu⟩ hok u hu W hI hT hP
    obtain ⟨z, hz⟩ : ∃ z, decide (u.data.toList = s.data.toList) = z := ⟨_, rfl⟩
    have z1 : (u.toList == s.toList) = z := by rw [← hz]; exact list_eq u s
    have HU := phide hu
    have HZ := phide hz
    clear hu hz hok
    cases z with
    | false =>
      have HBAD : Hid (∀ p0, mayP p0 = 0 → printT ptL p0 ≠ s.data.toList) := phide (fun p0 h0 he => by
        have := punhide HUN p0 (ok_of h0) he
        rw [← this, punhide HU] at he
        exact of_decide_eq_false (punhide HZ) he)
      clear HUN HQ HU HZ
      go_upto_region 3 with (first
        | (go_at_call 15; refine (CM _ hT0 hI3).mono ?_; rintro e w4 ⟨rfl, b4⟩; have hR4 := hR2.step b4; have hB3 := hB2.trans (b4.mono hrl); have hF4 := hF.step b4; have hI4 := hI3.step b4; have hIF4 := hIF.keep (Kp.of_below b4); have hT4 := tabs_step hT0 b4; have hP4 := hP0.next b4; obtain ⟨-, y0, y1, y2, y3, y4, -⟩ := id hF4; clear b4)
        | (go_at_call 16; refine (CP _ hI4 hT4 hP4).mono ?_; rintro e w5 ⟨rfl, b5⟩; have hR := hR4.step b5; have hB4 := hB3.trans (b5.mono (Nat.le_of_lt hR4.lt)); clear b5))
      obtain ⟨-, r0, r1, r2, r3, r4, r5⟩ := id hR
      have g0 := r5 0
      have g1 := r5 1
      have g2 := r5 2
      have g3 := r5 3
      have g4 := r5 4
      have p1 := (hR.put (.slice none 0 0)).1
      have p2 := (p1.put (.slice none 0 0)).2.1
      have p3 := (p2.put (.string ⟨#[]⟩)).2.2.1
      have p4 := (p3.put (.int .i64 0)).2.2.2.1
      have p5 := (p4.put (.int .i64 0)).2.2.2.2
      have k1 := p1.c0
      have k2 := p2.c1
      have k3 := p3.c2
      have k4 := p4.c3
      have k5 := p5.c4
      have hBz := phide (((((hB4.setCell (p := ⟨rb, 0, none⟩) (Nat.le_refl _) (.slice none 0 0)).setCell (p := ⟨rb, 1, none⟩) (Nat.le_refl _) (.slice none 0 0)).setCell (p := ⟨rb, 2, none⟩) (Nat.le_refl _) (.string ⟨#[]⟩)).setCell (p := ⟨rb, 3, none⟩) (Nat.le_refl _) (.int .i64 0)).setCell (p := ⟨rb, 4, none⟩) (Nat.le_refl _) (.int .i64 0))
      clear p1 p2 p3 p4 p5 r5 hR
      go_wp2
      refine bodyPost_ret (v := .tuple #[.agg #[.slice none 0 0, .slice none 0 0, .string ⟨#[]⟩, .int .i64 0, .int .i64 0], .int .i64 22]) (by simp [results, Tryz.results11, go_sem, k1, k2, k3, k4, k5]) rfl ?_
      exact ⟨by rw [punhide HRB]; exact punhide hBz, .inr ⟨rfl, punhide HBAD⟩⟩
    | true =>
      have HGOOD : Hid (printT ptL ⟨Cp, Mp, Tp, fu, qu⟩ = s.data.toList) := phide ((punhide HU).trans (of_decide_eq_true (punhide HZ)))
      go_upto_region 4 with (first
        | (go_at_call 15; refine (CM _ hT0 hI3).mono ?_; rintro e w4 ⟨rfl, b4⟩; have hR4 := hR2.step b4; have hB3 := hB2.trans (b4.mono hrl); have hF4 := hF.step b4; have hI4 := hI3.step b4; have hIF4 := hIF.keep (Kp.of_below b4); have hT4 := tabs_step hT0 b4; have hP4 := hP0.next b4; obtain ⟨-, y0, y1, y2, y3, y4, -⟩ := id hF4; clear b4)
        | (go_at_call 16; refine (CP _ hI4 hT4 hP4).mono ?_; rintro e w5 ⟨rfl, b5⟩; have hR := hR4.step b5; have hB4 := hB3.trans (b5.mono (Nat.le_of_lt hR4.lt)); have hF5 := hF4.step b5; have hIF5 := hIF4.keep (Kp.of_below b5); clear b5))
      obtain ⟨-, z0, z2, z3, z4, z5, -⟩ := id hF5
      have hIz : Hid (PolIn (((((w5.setCell ⟨rb, 0, none⟩ (.slice a n c)).setCell ⟨rb, 1, none⟩ (.slice b m d)).setCell ⟨rb, 2, none⟩ (.string tok)).setCell ⟨rb, 3, none⟩ (.int .i64 fu)).setCell ⟨rb, 4, none⟩ (.int .i64 qu)) (.agg #[.slice a n c, .slice b m d, .string tok, .int .i64 fu, .int .i64 qu]) ⟨Cp, Mp, Tp, fu, qu⟩) := phide (PolF.is (((((hIF5.keep (Kp.of_set ⟨rb, 0, none⟩ _ hrw)).keep (Kp.of_set ⟨rb, 1, none⟩ _ hrw)).keep (Kp.of_set ⟨rb, 2, none⟩ _ hrw)).keep (Kp.of_set ⟨rb, 3, none⟩ _ hrw)).keep (Kp.of_set ⟨rb, 4, none⟩ _ hrw)))
      clear hIF5 hIF4 hIF
      obtain ⟨-, r0, r1, r2, r3, r4, r5⟩ := id hR
      have g0 := r5 0
      have g1 := r5 1
      have g2 := r5 2
      have g3 := r5 3
      have g4 := r5 4
      have p1 := (hR.put (.slice a n c)).1
      have p2 := (p1.put (.slice b m d)).2.1
      have p3 := (p2.put (.string tok)).2.2.1
      have p4 := (p3.put (.int .i64 fu)).2.2.2.1
      have p5 := (p4.put (.int .i64 qu)).2.2.2.2
      have k1 := p1.c0
      have k2 := p2.c1
      have k3 := p3.c2
      have k4 := p4.c3
      have k5 := p5.c4
      have hBz := phide (((((hB4.setCell (p := ⟨rb, 0, none⟩) (Nat.le_refl _) (.slice a n c)).setCell (p := ⟨rb, 1, none⟩) (Nat.le_refl _) (.slice b m d)).setCell (p := ⟨rb, 2, none⟩) (Nat.le_refl _) (.string tok)).setCell (p := ⟨rb, 3, none⟩) (Nat.le_refl _) (.int .i64 fu)).setCell (p := ⟨rb, 4, none⟩) (Nat.le_refl _) (.int .i64 qu))
      clear p1 p2 p3 p4 p5 r5 hR
      go_wp2
      refine bodyPost_ret (v := .tuple #[.agg #[.slice a n c, .slice b m d, .string tok, .int .i64 fu, .int .i64 qu], .int .i64 0]) (by simp [results, Tryz.results11, go_sem, k1, k2, k3, k4, k5]) rfl ?_
      exact ⟨by rw [punhide HRB]; exact punhide hBz, .inl ⟨_, _, rfl, punhide hIz, punhide HQ, punhide HGOOD, punhide HUN⟩⟩
end Go.Proofs.YtnagecbepidfiaaGreatDoor.Pol
/- What is proved here: shown of the laws of layer 8 (the document's example), walked; conditions: the tables and the two errors lie. Written by vj_gen.py. -/
namespace Go.Proofs.YtnagecbepidfiaaGreatDoor.Pol
set_option maxRecDepth 100000
open Go.RowKit Go.Proofs.YtnagecbepidfiaaGreatDoor.Nc Go.Proofs.YtnagecbepidfiaaGreatDoor.Np Go.Proofs.YtnagecbepidfiaaGreatDoor.Nq
set_option linter.unusedVariables false
set_option linter.unusedSimpArgs false

def pShown : Po := ⟨[[97], [98]], [⟨[⟨1, ⟨#[107]⟩, 0⟩], 2⟩], [35], 9, 3⟩
theorem shown_may : mayP pShown = 0 := by decide +kernel
theorem shown_text : printT ptL pShown = (⟨#[99, 97, 116, 115, 32, 97, 32, 98, 10, 109, 97, 114, 107, 32, 98, 32, 36, 46, 107, 10, 116, 111, 107, 101, 110, 32, 34, 35, 34, 10, 102, 117, 101, 108, 32, 57, 10, 113, 117, 111, 116, 97, 32, 51, 10]⟩ : ByteArray).data.toList := by decide +kernel
set_option maxHeartbeats 4000000 in
theorem shown8 (w : World) (hT : Tabs w) (hP : Pow w) (hE : Errs w) : Calls Tryz.prog 9 #[] w fun e w' => e = .returned (.bool true) ∧ Below w.heap.size w w' := by
  have C := fun W hT hP hE => parse_any ⟨#[99, 97, 116, 115, 32, 97, 32, 98, 10, 109, 97, 114, 107, 32, 98, 32, 36, 46, 107, 10, 116, 111, 107, 101, 110, 32, 34, 35, 34, 10, 102, 117, 101, 108, 32, 57, 10, 113, 117, 111, 116, 97, 32, 51, 10]⟩ (by decide) W hT hP hE
  go_enter Tryz.func9, Tryz.ntmps9
  go_wp2_with fail
  refine (C _ hT hP hE).mono ?_
  rintro e w2 ⟨b2, hA⟩
  clear C hT hP hE
  rcases hA with ⟨v, p, rfl, hI, -, -, hu⟩ | ⟨rfl, hbad⟩
  · have hp := hu pShown (ok_of shown_may) shown_text
    subst hp
    clear hu
    obtain ⟨a, n, c, b, m, d, tok, rfl, htok, hC, hM⟩ := hI
    have hn : n = 2 := hC.1.symm
    have hm : m = 1 := hM.1.symm
    subst hn
    subst hm
    have ht : tok = ⟨#[35]⟩ := bytes_ext htok
    subst ht
    obtain ⟨g, o, rfl, hg, hrow⟩ := hM.2.resolve_left (by decide)
    obtain ⟨-, pa, pn, pc, c0, c1, -⟩ := hrow 0 (by decide)
    have c1' : w2.cell? ⟨g, o + 1, none⟩ = some (.int .u64 2) := c1
    have hal : Below w2.heap.size w2 (w2.alloc (.cells #[.slice a 2 c, .slice (some ⟨g, o, none⟩) 1 d, .string ⟨#[35]⟩, .int .i64 9, .int .i64 3] 25)) := (Below.refl _ _).alloc (Nat.le_refl _) _
    have c2 := (hal.cell (p := ⟨g, o + 1, none⟩) hg).trans c1'
    have hB := b2.trans (hal.mono b2.size)
    clear c0 c1 c1' hrow hC hM hal b2 htok
    have hf : pShown.fuel = 9 := rfl
    have hq : pShown.quota = 3 := rfl
    rw [hf, hq]
    clear hf hq
    go_wp2
    go_ret
    exact ⟨rfl, hB⟩
  · exact absurd shown_text (hbad pShown shown_may)
end Go.Proofs.YtnagecbepidfiaaGreatDoor.Pol
/- What is proved here: the document's own Same of two policies with the same content, walked; conditions: both policies lie. -/
namespace Go.Proofs.YtnagecbepidfiaaGreatDoor.Pol
set_option maxRecDepth 100000
open Go.RowKit Go.Proofs.YtnagecbepidfiaaGreatDoor.Nc Go.Proofs.YtnagecbepidfiaaGreatDoor.Np Go.Proofs.YtnagecbepidfiaaGreatDoor.Nq
set_option linter.unusedVariables false
set_option linter.unusedSimpArgs false

end Go.Proofs.YtnagecbepidfiaaGreatDoor.Pol
/- What is proved here: few of the laws of layer 8, walked: whatever policy comes in, it answers one of bounded size; conditions: the policy lies. -/
namespace Go.Proofs.YtnagecbepidfiaaGreatDoor.Pol
set_option maxRecDepth 100000
open Go.RowKit Go.Proofs.YtnagecbepidfiaaGreatDoor.Nc Go.Proofs.YtnagecbepidfiaaGreatDoor.Np Go.Proofs.YtnagecbepidfiaaGreatDoor.Nq
set_option linter.unusedVariables false
set_option linter.unusedSimpArgs false

/-- A policy of bounded size. -/
structure Bnd (p : Po) : Prop where
  cats : p.cats.length ≤ 70
  names : ∀ x ∈ p.cats, x.length ≤ 40
  marks : p.marks.length ≤ 20
  paths : ∀ m ∈ p.marks, m.path.length ≤ 12
  token : p.token.length ≤ 100
def encT (l : Tx) : Value := .string ⟨l.toArray⟩
theorem info9t : (Tryz.prog.info? 9).map (fun i => (i.zero, i.size, i.bytes)) = some (some (.string ⟨#[]⟩), 1, 16) := by kernel_rfl
theorem cutT (k : Nat) (s : ByteArray) : ∃ t : ByteArray, t.size ≤ k ∧ ((k < s.size ∧ s.extract 0 k = t) ∨ (¬ k < s.size ∧ t = s)) := by
  by_cases h : k < s.size
  · exact ⟨s.extract 0 k, by rw [ByteArray.size_extract]; omega, .inl ⟨h, rfl⟩⟩
  · exact ⟨s, by omega, .inr ⟨h, rfl⟩⟩
theorem rowo_of {w : World} {base g k cap : Nat} {L : List Tx} (h : w.ownsRow base 9 1 (.slice (some ⟨g, 0, none⟩) k cap) k (L.map encT)) : RowO w g 0 L := by
  refine ⟨(h.lt g rfl).2, fun i hi => ?_⟩
  have h0 := h.cells (g := g) rfl i (encT (L[i]'hi)) (by simp [hi])
  rw [addM] at h0
  exact h0
/-- A row of marks of one's own; their paths are short. -/
structure MR12 (W : World) (base : Nat) (v : Value) (D : List Dk) : Prop where
  own : W.ownsRow base 59 2 v D.length (rowM D)
  each : ∀ d ∈ D, (d.m.mask < 18446744073709551616 ∧ d.m.path.length ≤ 12) ∧ StF W base v.ownBlock d.a d.n d.m.path
theorem MR12.keep {W W' : World} {base : Nat} {v : Value} {D : List Dk} (h : MR12 W base v D) (hk : Kp base none W W') : MR12 W' base v D :=
  ⟨ownM_block h.own (fun g hg => hk.2 g (h.own.lt g hg).1 (h.own.lt g hg).2 (by simp)), fun d hd => ⟨(h.each d hd).1, (h.each d hd).2.keep ⟨hk.1, fun k a b _ => hk.2 k a b (by simp)⟩⟩⟩
theorem marks_of12 {W : World} {base k : Nat} {v : Value} {D : List Dk} (h : W.ownsRow base 59 2 v k (rowM D)) (hk : D.length = k) (hd : ∀ d ∈ D, d.m.mask < 18446744073709551616 ∧ StF W base v.ownBlock d.a d.n d.m.path) :
    ∃ a c, v = .slice a k c ∧ MarksF W base a k (D.map (·.m)) := by
  by_cases h0 : k = 0
  · rcases h.2 with ⟨e, _⟩ | ⟨g, cap, cur, hv, _⟩
    · exact ⟨none, 0, by rw [e, h0], by simp [hk], .inl h0⟩
    · exact ⟨_, cap, hv, by simp [hk], .inl h0⟩
  · obtain ⟨g, cap, rfl, hb, hg⟩ := h.form (by omega)
    refine ⟨_, cap, rfl, by simp [hk], .inr ⟨g, 0, rfl, hb, hg, fun i hi => ?_⟩⟩
    have hi2 : i < D.length := by simpa using hi
    have e0 := h.cells (g := g) rfl (i * 2) (.slice (D[i]'hi2).a (D[i]'hi2).n (D[i]'hi2).c) (by have := rowM_at D i 0 (by omega) hi2; rw [Nat.add_zero] at this; rw [this]; rfl)
    have e1 := h.cells (g := g) rfl (i * 2 + 1) (.int .u64 ((D[i]'hi2).m.mask : Int)) (by rw [rowM_at D i 1 (by omega) hi2]; rfl)
    rw [addM] at e0 e1
    rw [Nat.zero_add] at e0 e1
    obtain ⟨d1, d2⟩ := hd _ (List.getElem_mem hi2)
    simp only [List.getElem_map, Nat.zero_add]
    exact ⟨d1, _, _, _, e0, e1, d2.low (Nat.le_refl _)⟩
/-- The row of marks has an address, and room. -/
def MRoom (v : Value) : Prop := ∃ (x : Value) (g m d : Nat) (t f q : Value), v = .agg #[x, .slice (some ⟨g, 0, none⟩) m d, t, f, q] ∧ m ≤ d
set_option maxHeartbeats 8000000 in
theorem few8c (v : Value) (p : Po) (w : World) (hI : PolIn w v p) :
    Calls Tryz.prog 10 #[v] w fun e w' => Below w.heap.size w w' ∧ ∃ v' p', e = .returned v' ∧ PolF w' w.heap.size v' p' ∧ MRoom v' ∧ Bnd p' := by
  obtain ⟨i9, hi9, hz90, hz91, hz92⟩ := info_parts info9t
  obtain ⟨iM, hiM, hzM0, hzM1, hzM2⟩ := info_parts infoM
  obtain ⟨iS, hiS, hzS0, hzS1, hzS2⟩ := info_parts infoS
  obtain ⟨a, n, c, b, m, d, tok, rfl, htok, hC, hM⟩ := hI
  obtain ⟨C, M, T, fu, qu⟩ := p
  simp only at *
  have hcn := hC.1
  have hmn := hM.1
  obtain ⟨tk, htk, hcut⟩ := cutT 100 tok
  have b1 : Below w.heap.size w (w.alloc (.cells #[.slice a n c, .slice b m d, .string tok, .int .i64 fu, .int .i64 qu] 25)) := (Below.refl _ _).alloc (Nat.le_refl _) _
  have f1 := Five.new w (.slice a n c) (.slice b m d) (.string tok) (.int .i64 fu) (.int .i64 qu) 25
  have s1 : (w.alloc (.cells #[.slice a n c, .slice b m d, .string tok, .int .i64 fu, .int .i64 qu] 25)).heap.size = w.heap.size + 1 := by simp
  go_enter Tryz.func10, Tryz.ntmps10
  go_upto_region 2 with fail
  have s2 : ((w.alloc (.cells #[.slice a n c, .slice b m d, .string tok, .int .i64 fu, .int .i64 qu] 25)).alloc (.cells #[.slice none 0 0, .slice none 0 0, .string ⟨#[]⟩, .int .i64 0, .int .i64 0] 25)).heap.size = w.heap.size + 1 + 1 := by simp
  have b2 := b1.alloc b1.size (.cells #[.slice none 0 0, .slice none 0 0, .string ⟨#[]⟩, .int .i64 0, .int .i64 0] 25)
  have f2 := f1.step ((Below.refl _ (w.alloc (.cells #[.slice a n c, .slice b m d, .string tok, .int .i64 fu, .int .i64 qu] 25))).alloc (Nat.le_refl _) (.cells #[.slice none 0 0, .slice none 0 0, .string ⟨#[]⟩, .int .i64 0, .int .i64 0] 25))
  have g2 := Five.new (w.alloc (.cells #[.slice a n c, .slice b m d, .string tok, .int .i64 fu, .int .i64 qu] 25)) (.slice none 0 0) (.slice none 0 0) (.string ⟨#[]⟩) (.int .i64 0) (.int .i64 0) 25
  rw [s1] at g2
  generalize (w.alloc (.cells #[.slice a n c, .slice b m d, .string tok, .int .i64 fu, .int .i64 qu] 25)).alloc (.cells #[.slice none 0 0, .slice none 0 0, .string ⟨#[]⟩, .int .i64 0, .int .i64 0] 25) = W1 at *
  have b3 := b2.alloc b2.size (.cells #[.slice none 0 0, .slice none 0 0, .string tok, .int .i64 fu, .int .i64 qu] 25)
  have al := (Below.refl _ W1).alloc (Nat.le_refl _) (.cells #[.slice none 0 0, .slice none 0 0, .string tok, .int .i64 fu, .int .i64 qu] 25)
  have f3 := f2.step al
  have g3 := g2.step al
  have h3 := Five.new W1 (.slice none 0 0) (.slice none 0 0) (.string tok) (.int .i64 fu) (.int .i64 qu) 25
  have s3 : (W1.alloc (.cells #[.slice none 0 0, .slice none 0 0, .string tok, .int .i64 fu, .int .i64 qu] 25)).heap.size = w.heap.size + 3 := by simp; omega
  rw [s2] at h3
  generalize W1.alloc (.cells #[.slice none 0 0, .slice none 0 0, .string tok, .int .i64 fu, .int .i64 qu] 25) = W2 at *
  rw [s2] at *
  clear b1 f1 s1 b2 f2 g2 al
  generalize hqb : w.heap.size = qb at *
  have HQB := phide hqb
  clear hqb s2
  obtain ⟨-, x0, x1, x2, x3, x4, x5⟩ := id h3
  have xf := x5 2
  have HTOK := phide htok
  clear htok
  go_upto_if 22 with fail
  go_cut [] from 23 to 26 (fun wx => Below (qb + 2) W2 wx ∧ Five wx (qb + 1 + 1) (.slice none 0 0) (.slice none 0 0) (.string tk) (.int .i64 fu) (.int .i64 qu))
  case first =>
    rcases hcut with ⟨h1, h2⟩ | ⟨h1, h2⟩
    · have d1 : decide ((100 : Int) < (tok.size : Int)) = true := decide_eq_true (by omega)
      have c2 : (100 : Int) ≤ (tok.size : Int) := by omega
      have hp := (h3.put (.string tk)).2.2.1
      have hb := (Below.refl (qb + 2) W2).setCell (p := ⟨qb + 1 + 1, 2, none⟩) (Nat.le_refl _) (.string tk)
      clear hC hM
      go_wp2_with fail
      go_meet
      exact ⟨hb, hp⟩
    · have d1 : decide ((100 : Int) < (tok.size : Int)) = false := decide_eq_false (by omega)
      subst h2
      clear hC hM
      go_wp2_with fail
      go_meet
      exact ⟨Below.refl _ _, h3⟩
  case rest =>
  obtain ⟨hb, hO⟩ := hcut
  have hbs := hb.size
  have hqs := f3.lt
  have HF : Hid (∀ W, Below (qb + 3) wc W → Five W qb (.slice a n c) (.slice b m d) (.string tok) (.int .i64 fu) (.int .i64 qu) ∧ Five W (qb + 1) (.slice none 0 0) (.slice none 0 0) (.string ⟨#[]⟩) (.int .i64 0) (.int .i64 0) ∧ Five W (qb + 1 + 1) (.slice none 0 0) (.slice none 0 0) (.string tk) (.int .i64 fu) (.int .i64 qu) ∧ TxIn W a n C ∧ MarksIn W b m M ∧ Below qb w W) := phide (fun W hW => by
    have h0 : Below (qb + 2) W2 W := hb.trans (hW.mono (by omega))
    have hw : Below qb w W := b3.trans (h0.mono (by omega))
    have hw' : Below w.heap.size w W := by rw [punhide HQB]; exact hw
    exact ⟨f3.blk h0.size (h0.block _ (by omega)), g3.blk h0.size (h0.block _ (by omega)), hO.blk hW.size (hW.block _ (by omega)), hC.step hw', hM.step hw', hw⟩)
  have hz : qb + 3 ≤ wc.heap.size := by omega
  clear hb hO f3 g3 h3 hC hM b3 x0 x1 x2 x3 x4 x5 xf hbs hqs hcut s3
  go_upto_block 0 with fail
  go_cut [4, 5, 6] from 28 to 52 (fun v4 v5 v6 wx => ∃ (g cap : Nat) (L : List Tx), v4 = .slice (some ⟨g, 0, none⟩) L.length cap ∧ L.length ≤ 70 ∧ (∀ x ∈ L, x.length ≤ 40) ∧ wx.ownsRow (qb + 3) 9 1 (.slice (some ⟨g, 0, none⟩) L.length cap) L.length (L.map encT) ∧ Below (qb + 3) wc wx)
  case first =>
    go_wp2_with fail
    go_loopw [4, 5] (fun o i wr => ∃ (k g cap : Nat) (L : List Tx), i = .int .i64 (k : Int) ∧ o = .slice (some ⟨g, 0, none⟩) k cap ∧ k ≤ n ∧ k ≤ 70 ∧ L.length = k ∧ (∀ x ∈ L, x.length ≤ 40) ∧ wr.ownsRow (qb + 3) 9 1 (.slice (some ⟨g, 0, none⟩) k cap) k (L.map encT) ∧ Below (qb + 3) wc wr) (fun _ i _ => 70 - (intOf i).toNat)
    case atStart =>
      refine ⟨0, wc.heap.size, 0, [], rfl, rfl, by omega, by omega, rfl, (fun x hx => by cases hx), ⟨rfl, .inr ⟨wc.heap.size, 0, #[], rfl, hz, ?_, Nat.le_refl _, by unfold maxLen; omega, rfl, rfl⟩⟩, (Below.refl _ _).alloc hz _⟩
      exact heap_alloc_new wc _
    case round =>
      obtain ⟨k, g, cap, L, rfl, rfl, hkn, hk7, hLk, hLl, hown, hB⟩ := hrel
      obtain ⟨hQ, -, -, hCr, -, -⟩ := punhide HF wr hB
      obtain ⟨-, x0, x1, x2, x3, x4, -⟩ := hQ
      by_cases hlt : k < n
      case pos =>
        by_cases h70 : k < 70
        case pos =>
          obtain ⟨cg, co, rfl, hrow⟩ := hCr.get (by omega)
          obtain ⟨s, hs, -, -⟩ := txt (C[k]'(by omega))
          have hc := hrow.2 k (by omega)
          rw [hs] at hc
          obtain ⟨t, ht, hcut⟩ := cutT 40 s
          have hzr := Nat.le_trans hz hB.size
          have hLm : (L ++ [t.data.toList]).map encT = L.map encT ++ [.string t] := by rw [List.map_append]; simp [encT]
          have HLM := phide hLm
          have hLk2 : (L ++ [t.data.toList]).length = k + 1 := by rw [List.length_append, hLk]; rfl
          have hLl2 : ∀ x ∈ L ++ [t.data.toList], x.length ≤ 40 := by
            intro x hx
            rcases List.mem_append.1 hx with hx | hx
            · exact hLl x hx
            · rw [List.mem_singleton] at hx; rw [hx, len_size]; exact ht
          have HL1 := phide hLk2
          have HL2 := phide hLl2
          have hst : wr.heap.size < (wr.alloc (.cells #[.string t] 9)).heap.size := by simp
          clear hs hrow hLm hLk2 hLl2 hLl hLk
          rcases hcut with ⟨h1, h2⟩ | ⟨h1, h2⟩
          · have d1 : decide ((40 : Int) < (s.size : Int)) = true := decide_eq_true (by omega)
            have c2 : (40 : Int) ≤ (s.size : Int) := by omega
            go_wp2_with (at_builtin; refine wpList_append_lies _ rfl _ _ 22 rfl (qb + 3) 9 i9 (.string ⟨#[]⟩) 1 16 Tryz.underlying22 hi9 hz90 hz91 hz92 rfl (by decide) _ k _ rfl (hown.alloc _) ⟨wr.heap.size, 0, none⟩ 1 1 [.string t] rfl rfl (World.news_of_block (alloc_at _ _)) (by intro u hu; rw [List.mem_singleton] at hu; rw [hu]; rfl) (by decide) (by unfold maxLen; omega) (by omega) (by simp; omega) _ rfl ?_)
            intro g2 cap2 w1 hown2 hgrow hat hlt2
            have hown3 : w1.ownsRow (qb + 3) 9 1 (.slice (some ⟨g2, 0, none⟩) (k + 1) cap2) (k + 1) ((L ++ [t.data.toList]).map encT) := by rw [punhide HLM]; exact hown2
            have hgrow2 : wr.grownBy w1 (some g) := (World.grownBy_alloc wr _ (some g)).trans hgrow
            have hB2 : Below (qb + 3) wc w1 := hB.grown hgrow2 hzr (fun j hj => by cases hj; exact (hown.lt g rfl).1)
            clear hown hgrow hgrow2 hat hc hB hown2 x0 x1 x2 x3 x4
            go_wp2
            go_roundw
            case rel => exact ⟨k + 1, g2, cap2, _, by go_num, rfl, by omega, by omega, punhide HL1, punhide HL2, hown3, hB2⟩
            case measure => simp [intOf]; omega
          · subst h2
            have d1 : decide ((40 : Int) < (t.size : Int)) = false := decide_eq_false (by omega)
            go_wp2_with (at_builtin; refine wpList_append_lies _ rfl _ _ 22 rfl (qb + 3) 9 i9 (.string ⟨#[]⟩) 1 16 Tryz.underlying22 hi9 hz90 hz91 hz92 rfl (by decide) _ k _ rfl (hown.alloc _) ⟨wr.heap.size, 0, none⟩ 1 1 [.string t] rfl rfl (World.news_of_block (alloc_at _ _)) (by intro u hu; rw [List.mem_singleton] at hu; rw [hu]; rfl) (by decide) (by unfold maxLen; omega) (by omega) (by simp; omega) _ rfl ?_)
            intro g2 cap2 w1 hown2 hgrow hat hlt2
            have hown3 : w1.ownsRow (qb + 3) 9 1 (.slice (some ⟨g2, 0, none⟩) (k + 1) cap2) (k + 1) ((L ++ [t.data.toList]).map encT) := by rw [punhide HLM]; exact hown2
            have hgrow2 : wr.grownBy w1 (some g) := (World.grownBy_alloc wr _ (some g)).trans hgrow
            have hB2 : Below (qb + 3) wc w1 := hB.grown hgrow2 hzr (fun j hj => by cases hj; exact (hown.lt g rfl).1)
            clear hown hgrow hgrow2 hat hc hB hown2 x0 x1 x2 x3 x4
            go_wp2
            go_roundw
            case rel => exact ⟨k + 1, g2, cap2, _, by go_num, rfl, by omega, by omega, punhide HL1, punhide HL2, hown3, hB2⟩
            case measure => simp [intOf]; omega
        case neg =>
          have hk : k = 70 := by omega
          have d1 : decide ((k : Int) < 70) = false := decide_eq_false (by omega)
          clear hk
          go_wp2
          go_meet
          exact ⟨g, cap, L, by rw [hLk], by omega, hLl, by rw [hLk]; exact hown, hB⟩
      case neg =>
        have d1 : decide ((k : Int) < (n : Int)) = false := decide_eq_false (by omega)
        go_wp2
        go_meet
        exact ⟨g, cap, L, by rw [hLk], by omega, hLl, by rw [hLk]; exact hown, hB⟩
  case rest =>
  obtain ⟨g1, cap1, L1, rfl, hL70, hL40, hown1, hB1⟩ := hcut
  have hz1 := Nat.le_trans hz hB1.size
  replace HF := phide (fun W hW => punhide HF W (hB1.trans hW))
  obtain ⟨n1, hn1⟩ : ∃ n1, L1.length = n1 := ⟨_, rfl⟩
  rw [hn1] at hown1 hL70
  rw [hn1]
  have HN1 := phide hn1
  have HL40 := phide hL40
  clear hz hB1 hn1 hL40
  go_upto_block 2 with fail
  go_cut [7, 8, 9, 10, 11] from 54 to 112 (fun v7 v8 v9 v10 v11 wx => ∃ (g cap : Nat) (D : List Dk), v7 = .slice (some ⟨g, 0, none⟩) D.length cap ∧ D.length ≤ 20 ∧ MR12 wx (qb + 3) (.slice (some ⟨g, 0, none⟩) D.length cap) D ∧ TxF wx (qb + 3) (some g) (some ⟨g1, 0, none⟩) n1 L1 ∧ Below (qb + 3) wc wx)
  case first =>
    have hcat0 : TxF (wc.alloc (.cells #[] 59)) (qb + 3) (some wc.heap.size) (some ⟨g1, 0, none⟩) n1 L1 :=
      (TxF.of (x := some wc.heap.size) (base := qb + 3) ⟨punhide HN1, .inr ⟨g1, 0, rfl, rowo_of hown1⟩⟩ (fun g o e => by
        cases e
        have := hown1.lt g1 rfl
        exact ⟨this.1, fun e2 => by have := Option.some.inj e2; omega⟩)).keep (Kp.of_below ((Below.refl _ _).alloc (Nat.le_refl _) _))
    have HCAT := phide hcat0
    clear hcat0 hown1
    go_wp2_with fail
    go_loopg [7, 8] 20 (fun gj v7 i wr => ∃ (j g cap : Nat) (D : List Dk), gj = 20 - j ∧ i = .int .i64 (j : Int) ∧ v7 = .slice (some ⟨g, 0, none⟩) j cap ∧ j ≤ m ∧ j ≤ 20 ∧ Hid (D.length = j) ∧ MR12 wr (qb + 3) (.slice (some ⟨g, 0, none⟩) D.length cap) D ∧ TxF wr (qb + 3) (some g) (some ⟨g1, 0, none⟩) n1 L1 ∧ Below (qb + 3) wc wr)
    case atStart =>
      refine ⟨0, wc.heap.size, 0, [], rfl, rfl, rfl, by omega, by omega, phide rfl, ⟨⟨rfl, .inr ⟨wc.heap.size, 0, #[], rfl, hz1, ?_, Nat.le_refl _, by unfold maxLen; omega, rfl, rfl⟩⟩, fun d hd => by cases hd⟩, punhide HCAT, (Below.refl _ _).alloc hz1 _⟩
      exact heap_alloc_new wc _
    case round =>
      obtain ⟨j, g, cap, D, rfl, rfl, rfl, hjm, hj20, HJ, hMR, hcat, hB⟩ := hrel
      obtain ⟨w7, rfl⟩ : ∃ w7, w7 = wr := ⟨_, rfl⟩
      obtain ⟨hQ, -, -, -, hMr, -⟩ := punhide HF w7 hB
      obtain ⟨hq9, x0, x1, x2, x3, x4, -⟩ := id hQ
      have hzr := Nat.le_trans hz1 hB.size
      by_cases hlt : j < m
      case pos =>
        by_cases h20 : j < 20
        case pos =>
          have d20 : decide ((j : Int) < 20) = true := decide_eq_true (by omega)
          obtain ⟨pg, po, rfl, hpg, hrow⟩ := hMr.2.resolve_left (by omega)
          obtain ⟨hmk, pa, pn, pc, c0, c1, hst⟩ := hrow j (by omega)
          obtain ⟨mk, hmke⟩ : ∃ mk, M[j]'(by omega) = mk := ⟨_, rfl⟩
          rw [hmke] at hmk c1 hst
          have hpl := hst.1
          clear hrow hmke hMr
          go_upto_block 4 with fail
          go_cut [9, 10, 11] from 54 to 112 (fun v9 v10 v11 wx => ∃ (g3 cap3 : Nat) (X : List Pm.St), v9 = .slice (some ⟨g3, 0, none⟩) X.length cap3 ∧ X.length ≤ 12 ∧ wx.ownsRow w7.heap.size 57 3 (.slice (some ⟨g3, 0, none⟩) X.length cap3) X.length (rowS X) ∧ Below w7.heap.size w7 wx)
          case first =>
            have HQ := phide hQ
            clear hMR hcat hQ hB HCAT
            go_wp2_with fail
            go_loopg [9, 10] 12 (fun gk v i wr => ∃ (k g3 cap3 : Nat) (X : List Pm.St), gk = 12 - k ∧ i = .int .i64 (k : Int) ∧ v = .slice (some ⟨g3, 0, none⟩) k cap3 ∧ k ≤ pn ∧ k ≤ 12 ∧ Hid (X.length = k) ∧ wr.ownsRow w7.heap.size 57 3 (.slice (some ⟨g3, 0, none⟩) k cap3) k (rowS X) ∧ Below w7.heap.size w7 wr)
            case atStart =>
              refine ⟨0, w7.heap.size, 0, [], rfl, rfl, rfl, by omega, by omega, phide rfl, ⟨rfl, .inr ⟨w7.heap.size, 0, #[], rfl, Nat.le_refl _, ?_, Nat.le_refl _, by unfold maxLen; omega, rfl, rfl⟩⟩, (Below.refl _ _).alloc (Nat.le_refl _) _⟩
              exact heap_alloc_new w7 _
            case round =>
              obtain ⟨k, g3, cap3, X, rfl, rfl, rfl, hkp, hk12, HK, hown, hBi⟩ := hrel
              have e0 := (hBi.cell (p := ⟨pg, po + j * 2, none⟩) hpg).trans c0
              clear x0 x1 x2 x3 x4 c0 c1 hq9
              obtain ⟨-, x0, x1, x2, x3, x4, -⟩ := (punhide HQ).step hBi
              by_cases hl2 : k < pn
              case pos =>
                by_cases h12 : k < 12
                case pos =>
                  obtain ⟨sb, so, rfl, hsr⟩ := (hst.step hBi).2.resolve_left (by omega)
                  obtain ⟨s0, s1, s2⟩ := hsr.2 k (by rw [hpl]; exact hl2)
                  obtain ⟨t, ht⟩ : ∃ t, mk.path[k]'(by rw [hpl]; exact hl2) = t := ⟨_, rfl⟩
                  rw [ht] at s0 s1 s2
                  obtain ⟨tn, ts, ti⟩ := t
                  simp only at s0 s1 s2
                  obtain ⟨tc, htc, hcut⟩ := cutT 40 ts
                  have al : Below wr.heap.size wr (wr.alloc (.cells #[.int .i64 tn, .string ts, .int .i64 ti] 57)) := (Below.refl _ _).alloc (Nat.le_refl _) _
                  have y0 : (wr.alloc (.cells #[.int .i64 tn, .string ts, .int .i64 ti] 57)).cell? ⟨wr.heap.size, 0, none⟩ = some (.int .i64 tn) := World.cell?_alloc_at _ _ _ _ rfl
                  have y1 : (wr.alloc (.cells #[.int .i64 tn, .string ts, .int .i64 ti] 57)).cell? ⟨wr.heap.size, 1, none⟩ = some (.string ts) := World.cell?_alloc_at _ _ _ _ rfl
                  have y2 : (wr.alloc (.cells #[.int .i64 tn, .string ts, .int .i64 ti] 57)).cell? ⟨wr.heap.size, 2, none⟩ = some (.int .i64 ti) := World.cell?_alloc_at _ _ _ _ rfl
                  have yf : (wr.alloc (.cells #[.int .i64 tn, .string ts, .int .i64 ti] 57)).frozen? ⟨wr.heap.size, 1, none⟩ = false := World.frozen?_alloc_new _ _ _ _
                  have ys : wr.heap.size < (wr.alloc (.cells #[.int .i64 tn, .string ts, .int .i64 ti] 57)).heap.size := by simp
                  clear ht hsr
                  go_upto_if 93 with fail
                  clear s0 s1 s2 e0 x0 x1 x2 x3 x4
                  generalize wr.alloc (.cells #[.int .i64 tn, .string ts, .int .i64 ti] 57) = Wa at *
                  generalize hxb : wr.heap.size = xb at *
                  have HXB := phide hxb
                  clear hxb
                  go_cut [] from 66 to 101 (fun wx => Below xb wr wx ∧ xb < wx.heap.size ∧ wx.cell? ⟨xb, 0, none⟩ = some (.int .i64 tn) ∧ wx.cell? ⟨xb, 1, none⟩ = some (.string tc) ∧ wx.cell? ⟨xb, 2, none⟩ = some (.int .i64 ti))
                  case first =>
                    clear hown hBi
                    rcases hcut with ⟨h1, h2⟩ | ⟨h1, h2⟩
                    · have d1 : decide ((40 : Int) < (ts.size : Int)) = true := decide_eq_true (by omega)
                      have c2 : (40 : Int) ≤ (ts.size : Int) := by omega
                      have q0 : (Wa.setCell ⟨xb, 1, none⟩ (.string tc)).cell? ⟨xb, 0, none⟩ = some (.int .i64 tn) := by rw [World.cell?_setCell_other _ _ _ _ (fun e => by simp at e)]; exact y0
                      have q1 : (Wa.setCell ⟨xb, 1, none⟩ (.string tc)).cell? ⟨xb, 1, none⟩ = some (.string tc) := World.cell?_setCell_same _ _ _ y1
                      have q2 : (Wa.setCell ⟨xb, 1, none⟩ (.string tc)).cell? ⟨xb, 2, none⟩ = some (.int .i64 ti) := by rw [World.cell?_setCell_other _ _ _ _ (fun e => by simp at e)]; exact y2
                      have qb2 := al.setCell (p := ⟨xb, 1, none⟩) (Nat.le_refl _) (.string tc)
                      have qs : xb < (Wa.setCell ⟨xb, 1, none⟩ (.string tc)).heap.size := by simp [World.setCell]; exact ys
                      go_wp2_with fail
                      go_meet
                      exact ⟨qb2, qs, q0, q1, q2⟩
                    · have d1 : decide ((40 : Int) < (ts.size : Int)) = false := decide_eq_false (by omega)
                      subst h2
                      go_wp2_with fail
                      go_meet
                      exact ⟨al, ys, y0, y1, y2⟩
                  case rest =>
                    obtain ⟨hbx, hsx, z0, z1, z2⟩ := hcut
                    clear al y0 y1 y2 yf ys
                    have hbx2 : Below wr.heap.size wr wc := by rw [punhide HXB]; exact hbx
                    have ho2 := ownS_step hown (hbx2.alloc hbx2.size (.cells #[.int .i64 tn, .string tc, .int .i64 ti] 57))
                    have hBz : Below w7.heap.size w7 (wc.alloc (.cells #[.int .i64 tn, .string tc, .int .i64 ti] 57)) := hBi.trans ((hbx2.alloc hbx2.size _).mono hBi.size)
                    have hRS : rowS (X ++ [⟨tn, tc, ti⟩]) = rowS X ++ cellsS ⟨tn, tc, ti⟩ := rowS_snoc _ _
                    have HRS := phide hRS
                    have hzz := hBz.size
                    have hK1 : Hid ((X ++ [(⟨tn, tc, ti⟩ : Pm.St)]).length = k + 1) := phide (by rw [List.length_append, punhide HK]; rfl)
                    clear hown hbx hBi hbx2 hRS
                    go_wp2_with (at_builtin; refine wpList_append_lies _ rfl _ _ 52 rfl w7.heap.size 57 iS (.agg #[.int .i64 0, .string ⟨#[]⟩, .int .i64 0]) 3 32 Tryz.underlying52 hiS hzS0 hzS1 hzS2 rfl (by decide) _ k _ rfl ho2 ⟨wc.heap.size, 0, none⟩ 1 1 (cellsS ⟨tn, tc, ti⟩) rfl rfl (newS wc ⟨tn, tc, ti⟩ _) (by intro u hu; simp only [cellsS, List.mem_cons, List.not_mem_nil, or_false] at hu; rcases hu with rfl | rfl | rfl <;> rfl) (by decide) (by unfold maxLen; omega) (by omega) hzz _ rfl ?_)
                    intro g4 cap4 w5 hown5 hgrow5 hat5 hlt5
                    have hown6 : w5.ownsRow w7.heap.size 57 3 (.slice (some ⟨g4, 0, none⟩) (k + 1) cap4) (k + 1) (rowS (X ++ [⟨tn, tc, ti⟩])) := by rw [punhide HRS]; exact hown5
                    have hB6 := hBz.grown hgrow5 hzz (fun q hq => (ho2.lt q hq).1)
                    clear hown5 hgrow5 hat5 ho2 hBz hzz z0 z1 z2
                    go_wp2
                    go_roundg (12 - (k + 1))
                    case measure => omega
                    case rel => exact ⟨k + 1, g4, cap4, _, rfl, by go_num, rfl, by omega, by omega, hK1, hown6, hB6⟩
                case neg =>
                  have d1 : decide ((k : Int) < 12) = false := decide_eq_false (by omega)
                  go_wp2
                  go_meet
                  exact ⟨g3, cap3, X, by rw [punhide HK], by rw [punhide HK]; omega, by rw [punhide HK]; exact hown, hBi⟩
              case neg =>
                have d1 : decide ((k : Int) < (pn : Int)) = false := decide_eq_false (by omega)
                go_wp2
                go_meet
                exact ⟨g3, cap3, X, by rw [punhide HK], by rw [punhide HK]; omega, by rw [punhide HK]; exact hown, hBi⟩
          case rest =>
            obtain ⟨g3, cap3, X, rfl, hX12, hown3, hB3⟩ := hcut
            have hQc := hQ.step hB3
            clear x0 x1 x2 x3 x4
            obtain ⟨-, x0, x1, x2, x3, x4, -⟩ := id hQc
            have e1 := (hB3.cell (p := ⟨pg, po + j * 2 + 1, none⟩) hpg).trans c1
            have hlo := hown3.lt g3 rfl
            have hlg := hMR.own.lt g rfl
            obtain ⟨kx, hkx⟩ : ∃ kx, X.length = kx := ⟨_, rfl⟩
            have hMRc := hMR.keep (Kp.of_below hB3)
            have hcatc := hcat.keep (Kp.of_below hB3)
            obtain ⟨hOc, hEc⟩ := hMRc
            rw [punhide HJ] at hOc hEc
            have hst3 : StF wc (qb + 3) (some g) (some ⟨g3, 0, none⟩) kx X := StF.of ⟨hkx, .inr ⟨g3, 0, rfl, rowst_of hown3⟩⟩ (fun q o e => by
              cases e
              exact ⟨Nat.le_trans hzr hlo.1, fun e2 => by have := Option.some.inj e2; have := hlg.2; have := hlo.1; omega⟩)
            rw [hkx] at hX12
            rw [hkx]
            have al : Below wc.heap.size wc (wc.alloc (.cells #[.slice (some ⟨g3, 0, none⟩) kx cap3, .int .u64 (mk.mask : Int)] 59)) := (Below.refl _ _).alloc (Nat.le_refl _) _
            have hOa := ownM_block (w' := wc.alloc (.cells #[.slice (some ⟨g3, 0, none⟩) kx cap3, .int .u64 (mk.mask : Int)] 59)) hOc (fun q hq => al.block q (hOc.lt q hq).2)
            have hBa := hB.trans ((hB3.trans (al.mono hB3.size)).mono hzr)
            have hza := hBa.size
            have hza2 : qb + 3 ≤ (wc.alloc (.cells #[.slice (some ⟨g3, 0, none⟩) kx cap3, .int .u64 (mk.mask : Int)] 59)).heap.size := Nat.le_trans hzr (hB3.trans (al.mono hB3.size)).size
            have hRM : rowM (D ++ [⟨some ⟨g3, 0, none⟩, kx, cap3, ⟨X, mk.mask⟩⟩]) = rowM D ++ cellsM ⟨some ⟨g3, 0, none⟩, kx, cap3, ⟨X, mk.mask⟩⟩ := rowM_snoc _ _
            have HRM := phide hRM
            have HEC := phide hEc
            have HS3 := phide hst3
            have HAL := phide al
            have HCC := phide hcatc
            have hlen : (D ++ [(⟨some ⟨g3, 0, none⟩, kx, cap3, ⟨X, mk.mask⟩⟩ : Dk)]).length = j + 1 := by rw [List.length_append, punhide HJ]; rfl
            have HLEN := phide hlen
            clear hB hB3 hlo hlg hMR hcat hOc hEc hst3 hown3 hcatc hQc hQ hkx hst hRM hlen al c0 c1
            go_wp2_with (at_builtin; refine wpList_append_lies _ rfl _ _ 23 rfl (qb + 3) 59 iM (.agg #[.slice none 0 0, .int .u64 0]) 2 32 Tryz.underlying23 hiM hzM0 hzM1 hzM2 rfl (by decide) _ j _ rfl hOa ⟨wc.heap.size, 0, none⟩ 1 1 (cellsM ⟨some ⟨g3, 0, none⟩, kx, cap3, ⟨X, mk.mask⟩⟩) rfl rfl (newM wc ⟨some ⟨g3, 0, none⟩, kx, cap3, ⟨X, mk.mask⟩⟩ _) (by intro u hu; simp only [cellsM, List.mem_cons, List.not_mem_nil, or_false] at hu; rcases hu with rfl | rfl <;> rfl) (by decide) (by unfold maxLen; omega) (by omega) hza2 _ rfl ?_)
            intro g5 cap5 w6 hown6 hgrow6 hat6 hlt6
            have hat7 : some g = some g5 ∨ g5 = (wc.alloc (.cells #[.slice (some ⟨g3, 0, none⟩) kx cap3, .int .u64 (mk.mask : Int)] 59)).heap.size := hat6.imp id (fun h => h.trans (by simp))
            have hka : Kp (qb + 3) (some g) wc (wc.alloc (.cells #[.slice (some ⟨g3, 0, none⟩) kx cap3, .int .u64 (mk.mask : Int)] 59)) := Kp.of_below (punhide HAL)
            have hL6 := ((punhide HCC).keep hka).app hgrow6 hat7
            have hE6 : ∀ d ∈ D ++ [(⟨some ⟨g3, 0, none⟩, kx, cap3, ⟨X, mk.mask⟩⟩ : Dk)], (d.m.mask < 18446744073709551616 ∧ d.m.path.length ≤ 12) ∧ StF w6 (qb + 3) (some g5) d.a d.n d.m.path := by
              intro d hd
              rcases List.mem_append.1 hd with hd | hd
              · obtain ⟨q1, q2⟩ := punhide HEC d hd
                exact ⟨q1, (q2.keep hka).app hgrow6 hat7⟩
              · rw [List.mem_singleton] at hd
                rw [hd]
                exact ⟨⟨hmk, by show X.length ≤ 12; have := (punhide HS3).1; omega⟩, ((punhide HS3).keep hka).app hgrow6 hat7⟩
            have hB6 := hBa.grown hgrow6 hza2 (fun q hq => (hOa.lt q hq).1)
            have HE6 := phide hE6
            have HL6 := phide hL6
            have hM6 : MR12 w6 (qb + 3) (.slice (some ⟨g5, 0, none⟩) (D ++ [(⟨some ⟨g3, 0, none⟩, kx, cap3, ⟨X, mk.mask⟩⟩ : Dk)]).length cap5) (D ++ [⟨some ⟨g3, 0, none⟩, kx, cap3, ⟨X, mk.mask⟩⟩]) := ⟨by rw [punhide HLEN, punhide HRM]; exact hown6, by rw [punhide HLEN]; exact punhide HE6⟩
            have HM6 := phide hM6
            clear hown6 hgrow6 hat6 hat7 hOa hBa hka hL6 hE6 hM6 x0 x1 x2 x3 x4 e1
            go_wp2
            go_roundg (20 - (j + 1))
            case measure => omega
            case rel => exact ⟨j + 1, g5, cap5, _, rfl, by go_num, rfl, by omega, by omega, HLEN, punhide HM6, punhide HL6, hB6⟩
        case neg =>
          have d1 : decide ((j : Int) < 20) = false := decide_eq_false (by omega)
          go_wp2
          go_meet
          exact ⟨g, cap, D, by rw [punhide HJ], by rw [punhide HJ]; omega, hMR, hcat, hB⟩
      case neg =>
        have d1 : decide ((j : Int) < (m : Int)) = false := decide_eq_false (by omega)
        go_wp2
        go_meet
        exact ⟨g, cap, D, by rw [punhide HJ], by rw [punhide HJ]; omega, hMR, hcat, hB⟩
  case rest =>
    obtain ⟨g, cap, D, rfl, hD20, hM2, hcat2, hB2⟩ := hcut
    obtain ⟨-, hR, hO, -, -, hw⟩ := punhide HF wc hB2
    obtain ⟨mz, hmz⟩ : ∃ mz, D.length = mz := ⟨_, rfl⟩
    obtain ⟨hO2, hE2⟩ := hM2
    rw [hmz] at hO2 hE2 hD20
    rw [hmz]
    obtain ⟨-, x0, x1, x2, x3, x4, x5⟩ := id hO
    have xf0 := x5 0
    have xf1 := x5 1
    have o1 := (hO.put (.slice (some ⟨g1, 0, none⟩) n1 cap1)).1
    have xg1 := o1.f 1
    have xc1 := o1.c1
    have o2 := (o1.put (.slice (some ⟨g, 0, none⟩) mz cap)).2.1
    have r1 := hR.other ⟨qb + 1 + 1, 0, none⟩ (by show qb + 1 ≠ qb + 1 + 1; omega) (.slice (some ⟨g1, 0, none⟩) n1 cap1)
    have r2 := r1.other ⟨qb + 1 + 1, 1, none⟩ (by show qb + 1 ≠ qb + 1 + 1; omega) (.slice (some ⟨g, 0, none⟩) mz cap)
    have hko : Kp (qb + 3) none wc ((wc.setCell ⟨qb + 1 + 1, 0, none⟩ (.slice (some ⟨g1, 0, none⟩) n1 cap1)).setCell ⟨qb + 1 + 1, 1, none⟩ (.slice (some ⟨g, 0, none⟩) mz cap)) := (Kp.of_set ⟨qb + 1 + 1, 0, none⟩ _ (by show qb + 1 + 1 < qb + 3; omega)).trans (Kp.of_set ⟨qb + 1 + 1, 1, none⟩ _ (by show qb + 1 + 1 < qb + 3; omega))
    have hbo := (hw.setCell (p := ⟨qb + 1 + 1, 0, none⟩) (by show qb ≤ qb + 1 + 1; omega) (.slice (some ⟨g1, 0, none⟩) n1 cap1)).setCell (p := ⟨qb + 1 + 1, 1, none⟩) (by show qb ≤ qb + 1 + 1; omega) (.slice (some ⟨g, 0, none⟩) mz cap)
    have hcat3 := hcat2.keep hko.any
    have hO3 := ownM_block (w' := (wc.setCell ⟨qb + 1 + 1, 0, none⟩ (.slice (some ⟨g1, 0, none⟩) n1 cap1)).setCell ⟨qb + 1 + 1, 1, none⟩ (.slice (some ⟨g, 0, none⟩) mz cap)) hO2 (fun q hq => hko.2 q (hO2.lt q hq).1 (hO2.lt q hq).2 (by simp))
    have hE3 : ∀ d ∈ D, (d.m.mask < 18446744073709551616 ∧ d.m.path.length ≤ 12) ∧ StF ((wc.setCell ⟨qb + 1 + 1, 0, none⟩ (.slice (some ⟨g1, 0, none⟩) n1 cap1)).setCell ⟨qb + 1 + 1, 1, none⟩ (.slice (some ⟨g, 0, none⟩) mz cap)) (qb + 3) (some g) d.a d.n d.m.path := fun d hd => ⟨(hE2 d hd).1, (hE2 d hd).2.keep hko.any⟩
    clear hO r1 hR hko hcat2 hO2 hE2 hw hB2 x5 o1
    go_upto_region 27 with fail
    generalize (wc.setCell ⟨qb + 1 + 1, 0, none⟩ (.slice (some ⟨g1, 0, none⟩) n1 cap1)).setCell ⟨qb + 1 + 1, 1, none⟩ (.slice (some ⟨g, 0, none⟩) mz cap) = W9 at *
    clear x0 x1 x2 x3 x4 xf0 xf1 xg1 xc1
    obtain ⟨-, x0, x1, x2, x3, x4, -⟩ := o2
    obtain ⟨-, r0, r1, r3, r4, r5, r6⟩ := id r2
    have g0 := r6 0
    have g1' := r6 1
    have g2 := r6 2
    have g3 := r6 3
    have g4 := r6 4
    have p1 := (r2.put (.slice (some ⟨g1, 0, none⟩) n1 cap1)).1
    have p2 := (p1.put (.slice (some ⟨g, 0, none⟩) mz cap)).2.1
    have p3 := (p2.put (.string tk)).2.2.1
    have p4 := (p3.put (.int .i64 fu)).2.2.2.1
    have p5 := (p4.put (.int .i64 qu)).2.2.2.2
    have k1 := p1.c0
    have k2 := p2.c1
    have k3 := p3.c2
    have k4 := p4.c3
    have k5 := p5.c4
    have hkr : ∀ (W : World) (i : Nat) (u : Value), Kp (qb + 3) none W (W.setCell ⟨qb + 1, i, none⟩ u) := fun W i u => Kp.of_set _ _ (by show qb + 1 < qb + 3; omega)
    have hKF := ((((hkr W9 0 (.slice (some ⟨g1, 0, none⟩) n1 cap1)).trans (hkr _ 1 (.slice (some ⟨g, 0, none⟩) mz cap))).trans (hkr _ 2 (.string tk))).trans (hkr _ 3 (.int .i64 fu))).trans (hkr _ 4 (.int .i64 qu))
    have hcz := phide (hcat3.keep hKF.any)
    have hOz := phide (ownM_block hO3 (fun q hq => hKF.2 q (hO3.lt q hq).1 (hO3.lt q hq).2 (by simp)))
    have hEz := phide (fun d (hd : d ∈ D) => (⟨(hE3 d hd).1, (hE3 d hd).2.keep hKF.any⟩ : (d.m.mask < 18446744073709551616 ∧ d.m.path.length ≤ 12) ∧ StF _ (qb + 3) (some g) d.a d.n d.m.path))
    have hBz := phide (((((hbo.setCell (p := ⟨qb + 1, 0, none⟩) (by show qb ≤ qb + 1; omega) (.slice (some ⟨g1, 0, none⟩) n1 cap1)).setCell (p := ⟨qb + 1, 1, none⟩) (by show qb ≤ qb + 1; omega) (.slice (some ⟨g, 0, none⟩) mz cap)).setCell (p := ⟨qb + 1, 2, none⟩) (by show qb ≤ qb + 1; omega) (.string tk)).setCell (p := ⟨qb + 1, 3, none⟩) (by show qb ≤ qb + 1; omega) (.int .i64 fu)).setCell (p := ⟨qb + 1, 4, none⟩) (by show qb ≤ qb + 1; omega) (.int .i64 qu))
    clear p1 p2 p3 p4 p5 hkr hKF hcat3 hO3 hE3 hbo r2 r6
    go_wp2
    refine bodyPost_ret (v := .agg #[.slice (some ⟨g1, 0, none⟩) n1 cap1, .slice (some ⟨g, 0, none⟩) mz cap, .string tk, .int .i64 fu, .int .i64 qu]) (by simp [results, Tryz.results10, go_sem, k1, k2, k3, k4, k5]) rfl ?_
    obtain ⟨ma, mc, ev, hmm⟩ := marks_of12 (punhide hOz) hmz (fun d hd => ⟨(punhide hEz d hd).1.1, (punhide hEz d hd).2⟩)
    injection ev with e1 e2 e3
    subst e1
    have hmcap : mz ≤ cap := by
      rcases (punhide hOz).2 with ⟨h, _⟩ | ⟨g', cap', cur, hv, _, _, hnc, _⟩
      · cases h
      · rw [(Value.slice.inj hv).2.2]; exact hnc
    refine ⟨by rw [punhide HQB]; exact punhide hBz, _, ⟨L1, D.map (·.m), tk.data.toList, fu, qu⟩, rfl, ⟨_, n1, cap1, _, mz, cap, tk, rfl, rfl, (punhide hcz).low (by have := punhide HQB; omega), hmm.low (by have := punhide HQB; omega)⟩, ⟨_, g, mz, cap, _, _, _, rfl, hmcap⟩, by show L1.length ≤ 70; rw [punhide HN1]; exact hL70, punhide HL40, by show (D.map (·.m)).length ≤ 20; rw [List.length_map, hmz]; exact hD20, fun x hx => (by obtain ⟨d, hd, rfl⟩ := List.mem_map.1 hx; exact (punhide hEz d hd).1.2), by show tk.data.toList.length ≤ 100; rw [len_size]; exact htk⟩
end Go.Proofs.YtnagecbepidfiaaGreatDoor.Pol
