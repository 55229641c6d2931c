/- What is proved here: Print of package policy, walked; conditions: the tables of unicode/utf8 and the table of powers of ten lie, the policy lies and may be. -/
import Derived.Test.YtnagecbepidfiaaGreatDoorVg
import Derived.Lib.ItoaLen
namespace Go.Proofs.YtnagecbepidfiaaGreatDoor.Pol
set_option maxRecDepth 100000
open Go.RowKit Go.Proofs.YtnagecbepidfiaaGreatDoor.Nc Go.Proofs.YtnagecbepidfiaaGreatDoor.Np Go.Proofs.YtnagecbepidfiaaGreatDoor.Nq
set_option linter.unusedVariables false
set_option linter.unusedSimpArgs false

abbrev IsB (B : Nat) (l : Tx) (W : World) : Prop := Lib.IsBuilderF 81 5 B B (Lib.byteCells l) W
theorem cells_of (s : ByteArray) : Lib.strCells s = Lib.byteCells s.data.toList := rfl
theorem isB_lt {B : Nat} {l : Tx} {W : World} (h : IsB B l W) : B < W.heap.size := by rcases h with h | h <;> exact h.lt
theorem flat_take {ws : List Tx} {k : Nat} (h : k < ws.length) : Cm.flatB (ws.take (k + 1)) = Cm.flatB (ws.take k) ++ 32 :: ws[k]'h := by
  rw [List.take_succ_eq_append_getElem h, Cm.flatB_snoc]
theorem flat_take_len {ws : List Tx} {k b : Nat} (h : ∀ x ∈ ws, x.length ≤ b) (hk : k ≤ 1000) : (Cm.flatB (ws.take k)).length ≤ 1000 * (b + 1) := by
  have h1 := Cm.flatB_len (ws := ws.take k) (b := b) (fun x hx => h x (List.mem_of_mem_take hx))
  have h2 : (ws.take k).length ≤ 1000 := by rw [List.length_take]; omega
  exact Nat.le_trans h1 (Nat.mul_le_mul_right _ h2)
set_option maxHeartbeats 4000000 in
theorem line_any (B : Nat) (word : ByteArray) (a : Option Addr) (n c : Nat) (ws : List Tx) (l : Tx) (hn : n ≤ 1000) (hw : word.size ≤ 1000) (hl : l.length ≤ 1000000000) (hws : ∀ x ∈ ws, x.length ≤ 1000000) (w : World) (hI : IsB B l w) (HR : ∀ W, Below B w W → Lib.OthersKept 5 (some B) w W → TxIn W a n ws) :
    Calls Tryz.prog 46 #[.string word, .slice a n c, .pointer (some ⟨B, 0, none⟩)] w fun e w' => e = .returned (.tuple #[]) ∧ IsB B (l ++ lineT word.data.toList ws) w' ∧ Below B w w' ∧ Lib.OthersKept 5 (some B) w w' := by
  have hnn : ws.length = n := (HR w (Below.refl _ _) (Lib.OthersKept.refl _ _ _)).1
  have HRR := phide HR
  have HWS := phide hws
  have hwl : word.data.toList.length = word.size := len_size word
  have hB := Nat.le_of_lt (isB_lt hI)
  clear HR hws
  go_enter Tryz.func46, Tryz.ntmps46
  go_wp2_with fail
  refine (Tryz.Builder_WriteString_k B B _ word _ hI (by rw [Lib.byteCells_length]; omega) hB).mono ?_
  rintro e w1 ⟨rfl, i1, b1, k1⟩
  have hI1 : IsB B (l ++ (word.data.toList ++ Cm.flatB (ws.take 0))) w1 := by
    rw [cells_of, ← Lib.byteCells_append] at i1
    rw [List.take_zero, Cm.flatB_nil, List.append_nil]
    exact .inr i1
  clear i1 hI
  go_wp2
  go_loopw [11] (fun i wr => ∃ k : Nat, i = .int .i64 (k : Int) ∧ k ≤ n ∧ IsB B (l ++ (word.data.toList ++ Cm.flatB (ws.take k))) wr ∧ Below B w wr ∧ Lib.OthersKept 5 (some B) w wr) (fun i _ => n - (intOf i).toNat)
  case atStart => exact ⟨0, rfl, Nat.zero_le _, hI1, b1, k1⟩
  case round =>
    obtain ⟨k, rfl, hk, hIr, hBr, hOr⟩ := hrel
    clear hI1 b1 k1
    have hBs := Nat.le_of_lt (isB_lt hIr)
    have hfl := flat_take_len (b := 1000000) (punhide HWS) (Nat.le_trans hk hn)
    have hlen : (Lib.byteCells (l ++ (word.data.toList ++ Cm.flatB (ws.take k)))).length ≤ 3000000000 := by
      rw [Lib.byteCells_length, List.length_append, List.length_append]; omega
    have HLEN := phide hlen
    clear hlen hfl
    by_cases hlt : k < n
    · obtain ⟨g, o, rfl, hrow⟩ := (punhide HRR wr hBr hOr).get (by omega)
      obtain ⟨x, hx, hx2, hx3⟩ := txt (ws[k]'(by omega))
      have hc := hrow.2 k (by omega)
      rw [hx] at hc
      have hxl := punhide HWS _ (List.getElem_mem (show k < ws.length by omega))
      have hxs : x.size ≤ 1000000 := by omega
      have hft : Cm.flatB (ws.take (k + 1)) = Cm.flatB (ws.take k) ++ 32 :: x.data.toList := by rw [flat_take (by omega), hx2]
      have HFT := phide hft
      clear hx hx2 hx3 hrow hft hxl
      go_wp2_with fail
      refine (Tryz.Builder_WriteString_k B B _ ⟨#[32]⟩ _ hIr (by have := punhide HLEN; show _ + 1 ≤ _; omega) hBs).mono ?_
      rintro e w2 ⟨rfl, i2, b2, k2⟩
      have hB2 := hBr.trans b2
      have hO2 := hOr.trans k2
      clear hBr hOr b2 k2 hIr
      go_wp2_with fail
      refine (Tryz.Builder_WriteString_k B B _ x _ (.inr i2) (by have := punhide HLEN; rw [List.length_append]; show _ + 1 + _ ≤ _; omega) (Nat.le_trans hB hB2.size)).mono ?_
      rintro e w3 ⟨rfl, i3, b3, k3⟩
      have hI3 : IsB B (l ++ (word.data.toList ++ Cm.flatB (ws.take (k + 1)))) w3 := by
        rw [cells_of, cells_of, ← Lib.byteCells_append, ← Lib.byteCells_append] at i3
        rw [punhide HFT]
        have e : l ++ (word.data.toList ++ Cm.flatB (ws.take k)) ++ (⟨#[32]⟩ : ByteArray).data.toList ++ x.data.toList = l ++ (word.data.toList ++ (Cm.flatB (ws.take k) ++ 32 :: x.data.toList)) := by simp
        rw [e] at i3
        exact .inr i3
      have hB3 := hB2.trans b3
      have hO3 := hO2.trans k3
      clear hB2 hO2 i2 i3 b3 k3
      go_wp2
      go_roundw
      case rel => exact ⟨k + 1, by go_num, hlt, hI3, hB3, hO3⟩
      case measure => simp [intOf]; omega
    · have hkn : k = n := by omega
      have hall : ws.take k = ws := List.take_of_length_le (by omega)
      have HAL := phide hall
      clear hall hkn
      go_wp2_with fail
      refine (Tryz.Builder_WriteString_k B B _ ⟨#[10]⟩ _ hIr (by have := punhide HLEN; show _ + 1 ≤ _; omega) hBs).mono ?_
      rintro e w2 ⟨rfl, i2, b2, k2⟩
      have hI2 : IsB B (l ++ lineT word.data.toList ws) w2 := by
        rw [cells_of, ← Lib.byteCells_append, punhide HAL] at i2
        have e : l ++ (word.data.toList ++ Cm.flatB ws) ++ (⟨#[10]⟩ : ByteArray).data.toList = l ++ lineT word.data.toList ws := by unfold lineT; simp
        rw [e] at i2
        exact .inr i2
      have hB2 := hBr.trans b2
      have hO2 := hOr.trans k2
      clear hBr hOr b2 k2 hIr i2
      go_wp2
      go_returns
      exact ⟨rfl, hI2, hB2, hO2⟩

/-- What a row of texts that was built in place holds, whatever a builder has written since. -/
theorem built_row {W W' : World} {yb B : Nat} {L : List Tx} (hb : W.heap[yb]? = some (.cells (L.map fun l => Value.string ⟨l.toArray⟩).toArray 9)) (hne : yb ≠ B) (hO : Lib.OthersKept 5 (some B) W W') : TxIn W' (some ⟨yb, 0, none⟩) L.length L := by
  have h := hO yb _ hb (fun e => hne (Option.some.inj e)) (fun c fz e => by cases e)
  refine ⟨rfl, .inr ⟨yb, 0, rfl, ?_, fun i hi => ?_⟩⟩
  · rcases Nat.lt_or_ge yb W'.heap.size with g | g
    · exact g
    · rw [Array.getElem?_eq_none g] at h; cases h
  · rw [cell_of_row W' yb _ _ _ _ h, Nat.zero_add]
    simp [hi]
theorem tx_arr (x : ByteArray) : (⟨x.data.toList.toArray⟩ : ByteArray) = x := by simp
theorem alloc_at (W : World) (o : Obj) : (W.alloc o).heap[W.heap.size]? = some o := heap_alloc_new W o
theorem marks_snoc (cats : List Tx) (ms : List Mk) (k : Nat) (h : k < ms.length) : marksT ptL cats (ms.take (k + 1)) = marksT ptL cats (ms.take k) ++ markT ptL cats (ms[k]'h) := by
  unfold marksT
  rw [List.take_succ_eq_append_getElem h, List.flatMap_append]
  simp
theorem pt_len {L : List Pm.St} (h8 : L.length ≤ 8) (hm : ∀ t ∈ L, mayB t = true) : (ptL L).length ≤ 3201 := by
  have := ptL_len L hm L.length
  rw [List.take_length] at this
  have := Nat.mul_le_mul_right 400 h8
  omega
theorem names_len {cats : List Tx} (h : ∀ x ∈ cats, x.length ≤ 24) (hc : cats.length ≤ 64) (m : Nat) : (namesT cats m).length ≤ 1600 := by
  unfold namesT
  have h1 := Cm.joinB_len (Cm.selK cats m cats.length)
  have h2 := Cm.flatB_len (ws := Cm.selK cats m cats.length) (b := 24) (fun x hx => h x (Cm.selK_mem (Nat.le_refl _) hx))
  have h3 := Cm.selK_len cats m cats.length
  have := Nat.mul_le_mul_right 25 (Nat.le_trans h3 hc)
  omega
theorem mark_len {p : Po} (h : Ok p) {m : Mk} (hm : m ∈ p.marks) : (markT ptL p.cats m).length ≤ 4810 := by
  have h1 := names_len (fun x hx => name_len (h.names x hx)) h.n64 m.mask
  have h2 := pt_len (Np.mayE_len (h.marks m hm).1).1 (Np.mayE_len (h.marks m hm).1).2
  unfold markT lineT wMark
  simp [Cm.flatB]
  omega
theorem marks_len {p : Po} (h : Ok p) (l : List Mk) (hl : ∀ m ∈ l, m ∈ p.marks) : (marksT ptL p.cats l).length ≤ l.length * 4810 := by
  induction l with
  | nil => simp [marksT]
  | cons m r ih =>
    rw [marks_cons, List.length_append, List.length_cons, Nat.succ_mul]
    have := ih (fun x hx => hl x (by simp [hx]))
    have := mark_len h (hl m (by simp))
    omega
theorem quote_len (l : Tx) (h : Lib.validD l = true) : (Qm.quoteL l).length ≤ 2 + 6 * l.length := by
  unfold Qm.quoteL
  rw [Qm.quo_flat l h]
  have : ∀ l : Tx, (l.flatMap Qm.escB).length ≤ 6 * l.length := by
    intro l
    induction l with
    | nil => simp
    | cons c r ih =>
      rw [List.flatMap_cons, List.length_append, List.length_cons]
      have : (Qm.escB c).length ≤ 6 := by
        unfold Qm.escB
        split
        · simp
        · unfold Qm.esc
          repeat' split
          all_goals simp
      omega
  simp only [List.length_cons, List.length_append, List.length_nil]
  have := this l
  omega
theorem itoa_len {n : Int} (h : 1 ≤ n ∧ n ≤ 100000) : (Lib.itoa n).length ≤ 21 := Lib.itoa_length_le n (by omega) (by omega)
theorem print_len {p : Po} (h : Ok p) : (printT ptL p).length ≤ 99000 := by
  have h1 := Cm.flatB_len (ws := p.cats) (b := 24) (fun x hx => name_len (h.names x hx))
  have h2 := Nat.mul_le_mul_right 25 h.n64
  have h3 := marks_len h p.marks (fun _ h => h)
  have h4 := Nat.mul_le_mul_right 4810 h.m16
  have h5 := quote_len _ h.valid
  have h6 := h.t24
  have h7 := itoa_len h.fuel
  have h8 := itoa_len h.quota
  unfold printT tailT lineT wCats wToken wFuel wQuota
  simp only [List.length_append, List.length_cons, List.length_nil]
  have hf : ∀ x : Tx, (Cm.flatB [x]).length = x.length + 1 := fun x => by simp [Cm.flatB]
  rw [hf, hf, hf]
  omega

set_option maxHeartbeats 8000000 in
theorem print_any (v : Value) (p : Po) (hok : Ok p) (u : ByteArray) (hu : printT ptL p = u.data.toList) (w : World) (hI : PolIn w v p) (hT : Tabs w) (hP : Pow w) :
    Calls Tryz.prog 16 #[v] w fun e w' => e = .returned (.string u) ∧ Below w.heap.size w w' := by
  obtain ⟨a, n, c, b, m, d, tok, rfl, htok, hC, hM⟩ := hI
  have HOK := phide hok
  have hlp := print_len hok
  have hn64 : n ≤ 64 := by rw [← hC.1]; exact hok.n64
  have hm16 : m ≤ 16 := by rw [← hM.1]; exact hok.m16
  have hcn : p.cats.length = n := hC.1
  have hmn : p.marks.length = m := hM.1
  have hCl : ∀ x ∈ p.cats, x.length ≤ 1000 := fun x hx => by have := name_len (hok.names x hx); omega
  have HU := phide hu
  have htl : tok.size ≤ 24 := by rw [← len_size, htok]; exact hok.t24
  obtain ⟨tq, htq⟩ : ∃ tq : ByteArray, Qm.quoteL tok.data.toList = tq.data.toList := ⟨⟨(Qm.quoteL tok.data.toList).toArray⟩, by simp⟩
  have CQ := fun W => quote_c tok tq W (by omega) htq
  obtain ⟨f1, hf1⟩ : ∃ f1 : ByteArray, (⟨(Lib.itoa p.fuel).toArray⟩ : ByteArray) = f1 := ⟨_, rfl⟩
  obtain ⟨f2, hf2⟩ : ∃ f2 : ByteArray, (⟨(Lib.itoa p.quota).toArray⟩ : ByteArray) = f2 := ⟨_, rfl⟩
  have CF1 := fun W hP => itoa_b p.fuel f1 (by have := hok.fuel; omega) (by have := hok.fuel; omega) W hP hf1
  have CF2 := fun W hP => itoa_b p.quota f2 (by have := hok.quota; omega) (by have := hok.quota; omega) W hP hf2
  have hF := Five.new w (.slice a n c) (.slice b m d) (.string tok) (.int .i64 p.fuel) (.int .i64 p.quota) 25
  have hB0 : Below w.heap.size w (w.alloc (.cells #[.slice a n c, .slice b m d, .string tok, .int .i64 p.fuel, .int .i64 p.quota] 25)) := (Below.refl _ _).alloc (Nat.le_refl _) _
  have s0 : (w.alloc (.cells #[.slice a n c, .slice b m d, .string tok, .int .i64 p.fuel, .int .i64 p.quota] 25)).heap.size = w.heap.size + 1 := by simp
  have hB1 := hB0.alloc hB0.size (.cells #[.pointer none, .slice none 0 0] 81)
  have hF1 := hF.step ((Below.refl _ (w.alloc (.cells #[.slice a n c, .slice b m d, .string tok, .int .i64 p.fuel, .int .i64 p.quota] 25))).alloc (Nat.le_refl _) (.cells #[.pointer none, .slice none 0 0] 81))
  have hI0 := Lib.IsBuilderF.of (Lib.fresh_isBuilder 81 5 (w.alloc (.cells #[.slice a n c, .slice b m d, .string tok, .int .i64 p.fuel, .int .i64 p.quota] 25)))
  rw [s0] at hI0
  have hI1 : IsB (w.heap.size + 1) [] _ := hI0
  have HTQ : Hid (tq.data.toList = Qm.quoteL p.token) := phide (by rw [← htok, htq])
  have HF1 : Hid (f1.data.toList = Lib.itoa p.fuel) := phide (by rw [← hf1])
  have HF2 : Hid (f2.data.toList = Lib.itoa p.quota) := phide (by rw [← hf2])
  have hqs : tq.size ≤ 1000 := by have := quote_len _ hok.valid; rw [← htok] at this; have h3 := hok.t24; rw [← htok] at h3; rw [← len_size, ← htq]; omega
  have hfs1 : f1.size ≤ 100 := by have := itoa_len hok.fuel; rw [← len_size, punhide HF1]; omega
  have hfs2 : f2.size ≤ 100 := by have := itoa_len hok.quota; rw [← len_size, punhide HF2]; omega
  clear hI0 hB0 hF s0 hok hu htok hf1 hf2 htq
  go_enter Tryz.func16, Tryz.ntmps16
  go_upto_region 3 with fail
  generalize (w.alloc (.cells #[.slice a n c, .slice b m d, .string tok, .int .i64 p.fuel, .int .i64 p.quota] 25)).alloc (.cells #[.pointer none, .slice none 0 0] 81) = W1 at *
  obtain ⟨hq9, x0, x1, x2, x3, x4, -⟩ := id hF1
  have HC : Hid (∀ W, Below (w.heap.size + 1) W1 W → (W.cell? ⟨w.heap.size, 0, none⟩ = some (.slice a n c) ∧ W.cell? ⟨w.heap.size, 1, none⟩ = some (.slice b m d) ∧ W.cell? ⟨w.heap.size, 2, none⟩ = some (.string tok) ∧ W.cell? ⟨w.heap.size, 3, none⟩ = some (.int .i64 p.fuel) ∧ W.cell? ⟨w.heap.size, 4, none⟩ = some (.int .i64 p.quota)) ∧ TxIn W a n p.cats ∧ MarksIn W b m p.marks ∧ Tabs W ∧ Pow W ∧ Below w.heap.size w W) := phide (fun W hW => by
    have hq : w.heap.size < w.heap.size + 1 := Nat.lt_succ_self _
    have hw := hB1.trans (hW.mono (Nat.le_of_lt hq))
    exact ⟨⟨(hW.cell (p := ⟨w.heap.size, 0, none⟩) hq).trans x0, (hW.cell (p := ⟨w.heap.size, 1, none⟩) hq).trans x1, (hW.cell (p := ⟨w.heap.size, 2, none⟩) hq).trans x2, (hW.cell (p := ⟨w.heap.size, 3, none⟩) hq).trans x3, (hW.cell (p := ⟨w.heap.size, 4, none⟩) hq).trans x4⟩, hC.step hw, hM.step hw, tabs_step hT hw, hP.next hw, hw⟩)
  have HCL := phide hCl
  clear hC hM hT hP hF1 hB1 hCl hq9
  generalize hqb : w.heap.size = qb at *
  have HQB := phide hqb
  clear hqb
  have CL := line_any (qb + 1) ⟨#[99, 97, 116, 115]⟩ a n c p.cats [] (by omega) (by decide) (by simp) (fun x hx => by have := punhide HCL x hx; omega) W1 hI1 (fun W hW _ => (punhide HC W hW).2.1)
  go_wp2_with fail
  refine CL.mono ?_
  rintro e W2 ⟨rfl, hI2, hB2, -⟩
  clear CL hI1 x0 x1 x2 x3 x4
  obtain ⟨⟨x0, x1, x2, x3, x4⟩, -⟩ := punhide HC W2 hB2
  rw [List.nil_append] at hI2
  have hI3 : IsB (qb + 1) (lineT wCats p.cats ++ marksT ptL p.cats (p.marks.take 0)) W2 := by
    rw [List.take_zero]; unfold marksT; rw [List.flatMap_nil, List.append_nil]; exact hI2
  clear hI2
  go_wp2
  go_loopw [15] (fun i wr => ∃ k : Nat, i = .int .i64 (k : Int) ∧ k ≤ m ∧ IsB (qb + 1) (lineT wCats p.cats ++ marksT ptL p.cats (p.marks.take k)) wr ∧ Below (qb + 1) W1 wr) (fun i _ => m - (intOf i).toNat)
  case atStart => exact ⟨0, rfl, Nat.zero_le _, hI3, hB2⟩
  case round =>
    obtain ⟨k, rfl, hk, hIr, hBr⟩ := hrel
    clear hI3 hB2 x0 x1 x2 x3 x4
    obtain ⟨⟨x0, x1, x2, x3, x4⟩, -, hMr, -, -, -⟩ := punhide HC wr hBr
    have hbs := isB_lt hIr
    by_cases hlt : k < m
    case pos =>
      obtain ⟨g, o, rfl, hg, hrow⟩ := hMr.2.resolve_left (by omega)
      obtain ⟨hmk, pa, pn, pc, c0, c1, hst⟩ := hrow k (by omega)
      obtain ⟨mk, hmke⟩ : ∃ mk, p.marks[k]'(by omega) = mk := ⟨_, rfl⟩
      rw [hmke] at hmk c1 hst
      have hmem : mk ∈ p.marks := by rw [← hmke]; exact List.getElem_mem _
      obtain ⟨hm8, hmB⟩ := Np.mayE_len ((punhide HOK).marks mk hmem).1
      obtain ⟨u1, hu1⟩ : ∃ u1 : ByteArray, Cm.joinB (Cm.selK p.cats mk.mask n) = u1.data.toList := ⟨⟨(Cm.joinB (Cm.selK p.cats mk.mask n)).toArray⟩, by simp⟩
      obtain ⟨u2, hu2⟩ : ∃ u2 : ByteArray, ptL mk.path = u2.data.toList := ⟨⟨(ptL mk.path).toArray⟩, by simp⟩
      have CN := fun W h => names_o a n c p.cats hcn (by omega) (punhide HCL) mk.mask hmk u1 hu1 W h
      have CP := fun W hs hP => Np.print_any pa pn pc mk.path hmB (by rw [← hst.1]; omega) u2 hu2 W hs hP
      have HU1 : Hid (u1.data.toList = namesT p.cats mk.mask) := phide (by rw [← hu1]; unfold namesT; rw [hcn])
      have HU2 : Hid (u2.data.toList = ptL mk.path) := phide hu2.symm
      have hul1 : u1.size ≤ 1600 := by have := names_len (fun x hx => name_len ((punhide HOK).names x hx)) (by rw [hcn]; exact hn64) mk.mask; rw [← len_size, punhide HU1]; exact this
      have hul2 : u2.size ≤ 3201 := by have := pt_len hm8 hmB; rw [← len_size, punhide HU2]; exact this
      have hsn := marks_snoc p.cats p.marks k (by omega)
      rw [hmke] at hsn
      have HSN := phide hsn
      have hll : (lineT wCats p.cats ++ marksT ptL p.cats (p.marks.take k)).length ≤ 1000000 := by
        have h1 := Cm.flatB_len (ws := p.cats) (b := 24) (fun x hx => name_len ((punhide HOK).names x hx))
        have h2 := Nat.mul_le_mul_right 25 (punhide HOK).n64
        have h3 := marks_len (punhide HOK) (p.marks.take k) (fun x hx => List.mem_of_mem_take hx)
        have h4 : (p.marks.take k).length ≤ 16 := by rw [List.length_take]; omega
        have h5 := Nat.mul_le_mul_right 4810 h4
        unfold lineT wCats
        simp only [List.length_append, List.length_cons, List.length_nil]
        omega
      clear hsn hu1 hu2 hmke hm8 hmB hmem hrow hMr
      have hBa : Below (qb + 1) W1 (wr.alloc (.cells #[.slice pa pn pc, .int .u64 (mk.mask : Int)] 59)) := hBr.alloc (by omega) _
      have hIa : IsB (qb + 1) (lineT wCats p.cats ++ marksT ptL p.cats (p.marks.take k)) (wr.alloc (.cells #[.slice pa pn pc, .int .u64 (mk.mask : Int)] 59)) := bstays hIr ((Below.refl _ _).alloc (Nat.le_refl _) _)
      have hxa : (wr.alloc (.cells #[.slice pa pn pc, .int .u64 (mk.mask : Int)] 59)).heap[wr.heap.size]? = some (.cells #[.slice pa pn pc, .int .u64 (mk.mask : Int)] 59) := alloc_at _ _
      have hsa : Np.StepsIn (wr.alloc (.cells #[.slice pa pn pc, .int .u64 (mk.mask : Int)] 59)) pa pn mk.path := hst.step ((Below.refl _ _).alloc (Nat.le_refl _) _)
      have hxl : wr.heap.size < (wr.alloc (.cells #[.slice pa pn pc, .int .u64 (mk.mask : Int)] 59)).heap.size := by simp
      have hxb : wr.heap.size ≠ qb + 1 := by omega
      go_upto_region 7 with fail
      clear hIr hBr hst x0 x1 x2 x3 x4 c0 c1
      generalize wr.alloc (.cells #[.slice pa pn pc, .int .u64 (mk.mask : Int)] 59) = W4 at *
      generalize wr.heap.size = xb at *
      have HXA : Hid (∀ W : World, W.heap[xb]? = some (.cells #[.slice pa pn pc, .int .u64 (mk.mask : Int)] 59) → W.cell? ⟨xb, 0, none⟩ = some (.slice pa pn pc) ∧ W.cell? ⟨xb, 1, none⟩ = some (.int .u64 (mk.mask : Int))) := phide (fun W h => by
        constructor
        · rw [cell_of_row W xb _ _ _ _ h]; rfl
        · rw [cell_of_row W xb _ _ _ _ h]; rfl)
      have HSB : Hid (∀ W : World, Below W4.heap.size W4 W → (W.cell? ⟨qb, 0, none⟩ = some (.slice a n c)) ∧ W.cell? ⟨xb, 0, none⟩ = some (.slice pa pn pc) ∧ W.cell? ⟨xb, 1, none⟩ = some (.int .u64 (mk.mask : Int))) := phide (fun W hW =>
        ⟨(punhide HC W (hBa.trans (hW.mono (by omega)))).1.1, punhide HXA W ((hW.block xb hxl).trans hxa)⟩)
      have HSL : Hid (∀ W : World, Below (qb + 1) W1 W → W.heap[xb]? = some (.cells #[.slice pa pn pc, .int .u64 (mk.mask : Int)] 59) → (W.cell? ⟨qb, 0, none⟩ = some (.slice a n c)) ∧ W.cell? ⟨xb, 0, none⟩ = some (.slice pa pn pc) ∧ W.cell? ⟨xb, 1, none⟩ = some (.int .u64 (mk.mask : Int))) := phide (fun W hW hx => ⟨(punhide HC W hW).1.1, punhide HXA W hx⟩)
      have hS : Below W4.heap.size W4 W4.drew := (Below.refl _ _).drew
      have HB4 : Hid (Below (qb + 1) W1 W4) := phide hBa
      have HX4 := phide hxa
      have HI4 := phide hIa
      have HS4 := phide hsa
      clear hBa hxa hIa hsa
      go_region_held3 (fun w' => (w'.cell? ⟨qb, 0, none⟩ = some (.slice a n c)) ∧ w'.cell? ⟨xb, 0, none⟩ = some (.slice pa pn pc) ∧ w'.cell? ⟨xb, 1, none⟩ = some (.int .u64 (mk.mask : Int)))
        (first | exact punhide HSB _ hS | exact punhide HSB _ (hS.alloc hS.size _) | exact hSL)
        (first
          | (go_at_call 48; refine (CN _ ((punhide HC _ ((punhide HB4).trans (hS.mono (by omega)))).2.1)).mono ?_; rintro e9 w9 ⟨rfl, b9⟩; replace hS := hS.trans (b9.mono hS.size); clear b9)
          | (go_at_call 49; refine (CP _ ((punhide HS4).step hS) ((punhide HC _ ((punhide HB4).trans (hS.mono (by omega)))).2.2.2.2.1)).mono ?_; rintro e9 w10 ⟨rfl, b9⟩; replace hS := hS.trans (b9.mono hS.size); clear b9)
          | (go_at_call 46
             refine (line_any (qb + 1) ⟨#[109, 97, 114, 107]⟩ _ 2 2 [u1.data.toList, u2.data.toList] _ (by decide) (by decide) (by omega) (by intro x hx; simp only [List.mem_cons, List.not_mem_nil, or_false] at hx; rcases hx with rfl | rfl <;> (rw [len_size]; omega)) _ (bstays (punhide HI4) (hS.alloc hS.size _)) (fun W hW hO => built_row (L := [u1.data.toList, u2.data.toList]) (by simp only [List.map_cons, List.map_nil, tx_arr]; exact alloc_at _ _) (by have := hS.size; omega) hO)).mono ?_
             rintro e9 w11 ⟨rfl, i11, b11, o11⟩
             have hB11 := ((punhide HB4).trans ((hS.alloc hS.size (.cells #[.string u1, .string u2] 9)).mono (by omega))).trans b11
             have hSL := punhide HSL _ hB11 (o11 xb _ (((hS.alloc hS.size (.cells #[.string u1, .string u2] 9)).block xb hxl).trans (punhide HX4)) (fun e => hxb (Option.some.inj e)) (fun c fz e => by cases e))))
      all_goals
        have hI12 : IsB (qb + 1) (lineT wCats p.cats ++ marksT ptL p.cats (p.marks.take (k + 1))) w11 := by
          rw [punhide HSN, ← List.append_assoc]
          have e : lineT (⟨#[109, 97, 114, 107]⟩ : ByteArray).data.toList [u1.data.toList, u2.data.toList] = markT ptL p.cats mk := by rw [punhide HU1, punhide HU2]; rfl
          rw [← e]
          exact i11
        clear i11 hSL o11 b11
        go_wp2
        go_roundw
        case rel => exact ⟨k + 1, by go_num, hlt, hI12, hB11⟩
        case measure => simp [intOf]; omega
    case neg =>
      have hkm : p.marks.take k = p.marks := List.take_of_length_le (by omega)
      rw [hkm] at hIr
      have hll : (lineT wCats p.cats ++ marksT ptL p.cats p.marks).length ≤ 99000 := by
        have : (printT ptL p).length = (lineT wCats p.cats ++ marksT ptL p.cats p.marks).length + (tailT p).length := by unfold printT; simp only [List.length_append]; omega
        omega
      clear hkm hMr hbs
      obtain ⟨l0, hl0⟩ : ∃ l0, lineT wCats p.cats ++ marksT ptL p.cats p.marks = l0 := ⟨_, rfl⟩
      rw [hl0] at hIr hll
      have HL0 := phide hl0
      clear hl0

      go_wp2_with fail
      refine (CQ _).mono ?_
      rintro e w3 ⟨rfl, b3⟩
      have hB3 := hBr.trans (b3.mono (Nat.le_of_lt (isB_lt hIr)))
      have hI3 := bstays hIr b3
      have hlt3 := isB_lt hI3
      have al3 : Below w3.heap.size w3 (w3.alloc (.cells #[.string tq] 9)) := (Below.refl _ _).alloc (Nat.le_refl _) _
      have ar3 : (w3.alloc (.cells #[.string tq] 9)).heap[w3.heap.size]? = some (.cells (([tq.data.toList] : List Tx).map fun l => Value.string ⟨l.toArray⟩).toArray 9) := by simp only [List.map_cons, List.map_nil, tx_arr]; exact alloc_at _ _
      have hIa3 := bstays hI3 al3
      have hBa3 := hB3.trans (al3.mono (Nat.le_of_lt hlt3))
      have hne3 : w3.heap.size ≠ qb + 1 := by omega
      have hll3 : ∀ x ∈ [tq.data.toList], x.length ≤ 1000000 := by intro x hx; rw [List.mem_singleton] at hx; rw [hx, len_size]; omega
      have CLn3 := line_any (qb + 1) ⟨#[116, 111, 107, 101, 110]⟩ (some ⟨w3.heap.size, 0, none⟩) 1 1 [tq.data.toList] _ (by decide) (by decide) (by omega) hll3 _ hIa3 (fun W hW hO => built_row ar3 hne3 hO)
      clear b3 al3 ar3 hll3
      go_wp2_with fail
      refine CLn3.mono ?_
      rintro e v3 ⟨rfl, j3, c3, -⟩
      have hBv3 := hBa3.trans c3
      clear CLn3 c3 hIa3 hI3 hB3 hBa3 hlt3 hne3

      obtain ⟨l1, hl1⟩ : ∃ l1, l0 ++ lineT (⟨#[116, 111, 107, 101, 110]⟩ : ByteArray).data.toList [tq.data.toList] = l1 := ⟨_, rfl⟩
      have hll1 : l1.length ≤ 200000 := by rw [← hl1]; have := len_size tq; simp [lineT, Cm.flatB, -Array.length_toList]; omega
      rw [hl1] at j3
      have HL1 := phide hl1
      clear hl1 x0 x1 x2 x3 x4 hIr hBr
      obtain ⟨⟨x0, x1, x2, x3, x4⟩, -, -, -, hPv, -⟩ := punhide HC _ hBv3

      go_wp2_with fail
      refine (CF1 _ hPv).mono ?_
      rintro e w4 ⟨rfl, b4⟩
      have hB4 := hBv3.trans (b4.mono (Nat.le_of_lt (isB_lt j3)))
      have hI4 := bstays j3 b4
      have hlt4 := isB_lt hI4
      have al4 : Below w4.heap.size w4 (w4.alloc (.cells #[.string f1] 9)) := (Below.refl _ _).alloc (Nat.le_refl _) _
      have ar4 : (w4.alloc (.cells #[.string f1] 9)).heap[w4.heap.size]? = some (.cells (([f1.data.toList] : List Tx).map fun l => Value.string ⟨l.toArray⟩).toArray 9) := by simp only [List.map_cons, List.map_nil, tx_arr]; exact alloc_at _ _
      have hIa4 := bstays hI4 al4
      have hBa4 := hB4.trans (al4.mono (Nat.le_of_lt hlt4))
      have hne4 : w4.heap.size ≠ qb + 1 := by omega
      have hll4 : ∀ x ∈ [f1.data.toList], x.length ≤ 1000000 := by intro x hx; rw [List.mem_singleton] at hx; rw [hx, len_size]; omega
      have CLn4 := line_any (qb + 1) ⟨#[102, 117, 101, 108]⟩ (some ⟨w4.heap.size, 0, none⟩) 1 1 [f1.data.toList] _ (by decide) (by decide) (by omega) hll4 _ hIa4 (fun W hW hO => built_row ar4 hne4 hO)
      clear b4 al4 ar4 hll4
      go_wp2_with fail
      refine CLn4.mono ?_
      rintro e v4 ⟨rfl, j4, c4, -⟩
      have hBv4 := hBa4.trans c4
      clear CLn4 c4 hIa4 hI4 hB4 hBa4 hlt4 hne4

      obtain ⟨l2, hl2⟩ : ∃ l2, l1 ++ lineT (⟨#[102, 117, 101, 108]⟩ : ByteArray).data.toList [f1.data.toList] = l2 := ⟨_, rfl⟩
      have hll2 : l2.length ≤ 300000 := by rw [← hl2]; have := len_size f1; simp [lineT, Cm.flatB, -Array.length_toList]; omega
      rw [hl2] at j4
      have HL2 := phide hl2
      clear hl2 x0 x1 x2 x3 x4 hPv j3 hBv3
      obtain ⟨⟨x0, x1, x2, x3, x4⟩, -, -, -, hPv, -⟩ := punhide HC _ hBv4

      go_wp2_with fail
      refine (CF2 _ hPv).mono ?_
      rintro e w5 ⟨rfl, b5⟩
      have hB5 := hBv4.trans (b5.mono (Nat.le_of_lt (isB_lt j4)))
      have hI5 := bstays j4 b5
      have hlt5 := isB_lt hI5
      have al5 : Below w5.heap.size w5 (w5.alloc (.cells #[.string f2] 9)) := (Below.refl _ _).alloc (Nat.le_refl _) _
      have ar5 : (w5.alloc (.cells #[.string f2] 9)).heap[w5.heap.size]? = some (.cells (([f2.data.toList] : List Tx).map fun l => Value.string ⟨l.toArray⟩).toArray 9) := by simp only [List.map_cons, List.map_nil, tx_arr]; exact alloc_at _ _
      have hIa5 := bstays hI5 al5
      have hBa5 := hB5.trans (al5.mono (Nat.le_of_lt hlt5))
      have hne5 : w5.heap.size ≠ qb + 1 := by omega
      have hll5 : ∀ x ∈ [f2.data.toList], x.length ≤ 1000000 := by intro x hx; rw [List.mem_singleton] at hx; rw [hx, len_size]; omega
      have CLn5 := line_any (qb + 1) ⟨#[113, 117, 111, 116, 97]⟩ (some ⟨w5.heap.size, 0, none⟩) 1 1 [f2.data.toList] _ (by decide) (by decide) (by omega) hll5 _ hIa5 (fun W hW hO => built_row ar5 hne5 hO)
      clear b5 al5 ar5 hll5
      go_wp2_with fail
      refine CLn5.mono ?_
      rintro e v5 ⟨rfl, j5, c5, -⟩
      have hBv5 := hBa5.trans c5
      clear CLn5 c5 hIa5 hI5 hB5 hBa5 hlt5 hne5

      have hfin : l2 ++ lineT (⟨#[113, 117, 111, 116, 97]⟩ : ByteArray).data.toList [f2.data.toList] = u.data.toList := by
        rw [← punhide HL2, ← punhide HL1, ← punhide HL0, ← punhide HU, punhide HTQ, punhide HF1, punhide HF2]
        unfold printT tailT
        simp only [List.append_assoc]
        rfl
      rw [hfin] at j5
      clear hfin
      go_wp2_with fail
      have CS := Tryz.Builder_String_any_k (qb + 1) (qb + 1) _ _ j5 (Nat.le_of_lt (isB_lt j5))
      rw [tx_arr] at CS
      refine CS.mono ?_
      rintro e w9 ⟨rfl, -, b9, -⟩
      have hBz := (punhide HC _ (hBv5.trans b9)).2.2.2.2.2
      go_wp2
      go_ret
      exact ⟨rfl, by rw [punhide HQB]; exact hBz⟩
end Go.Proofs.YtnagecbepidfiaaGreatDoor.Pol
