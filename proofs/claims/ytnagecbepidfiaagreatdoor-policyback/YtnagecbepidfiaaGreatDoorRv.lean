/- What is proved here: a policy among the arguments, opened; conditions: none. -/
import Derived.Test.YtnagecbepidfiaaGreatDoorRe
import Derived.Test.YtnagecbepidfiaaGreatDoorVm
namespace Go.Proofs.YtnagecbepidfiaaGreatDoor.Pol
set_option maxRecDepth 100000
open Go.ChangeShapes Go.WideShapes Go.ChangeAt Go.RowKit Go.Joins Go.Deep Go.Proofs.YtnagecbepidfiaaGreatDoor.Nc Go.Proofs.YtnagecbepidfiaaGreatDoor.Np Go.Proofs.YtnagecbepidfiaaGreatDoor.Nq
set_option linter.unusedVariables false
set_option linter.unusedSimpArgs false

theorem cells9p : Tryz.prog.cellsOf 9 = 1 := by kernel_rfl
theorem cellsUp : Tryz.prog.cellsOf 37 = 1 := by kernel_rfl
theorem cells3p : Tryz.prog.cellsOf 3 = 1 := by kernel_rfl
theorem cellsM1 : Tryz.prog.cellsOf 59 = 2 := by kernel_rfl
theorem cellsS1 : Tryz.prog.cellsOf 52 = 1 := by kernel_rfl
theorem cellsM2 : Tryz.prog.cellsOf 23 = 1 := by kernel_rfl
theorem cellsT1 : Tryz.prog.cellsOf 22 = 1 := by kernel_rfl
theorem u64_rng {z : Int} (h : (Lit.int .u64 z).wf = true) : ∃ c : Nat, z = (c : Int) ∧ c < 18446744073709551616 := by
  simp [Lit.wf] at h
  have m0 : IntKind.u64.min = 0 := by kernel_rfl
  have m1 : IntKind.u64.max = 18446744073709551615 := by kernel_rfl
  rw [m0, m1] at h
  exact ⟨z.toNat, by omega, by omega⟩
set_option maxRecDepth 100000 in
/-- A row of texts among the arguments. -/
theorem strs_cells {H : Type} {enc : TypeId × Value → H} {W : World} {base : Nat} {spare : Nat → Bool} {held : Bool} {fuel : Nat} {cs : List Value} {x : DataW H × List MemPlace}
    (hf : DataW.trod enc Tryz.prog W base spare held fuel 22 cs = some x) : ∃ a n c, ∃ L : List Tx, cs = [.slice a n c] ∧ TxIn W a n L := by
  rcases open_strings Tryz.underlying22 Tryz.underlying9 cells9p hf with ⟨hcs, _⟩ | ⟨a, len, cap, ss, hcs, hb, hl, hm, hz, _, hcell, hsz⟩
  · exact ⟨none, 0, 0, [], hcs, rfl, .inl rfl⟩
  · have hlen : len ≤ ss.length := by rw [hz]; split <;> omega
    refine ⟨some a, len, cap, (ss.take len).map (·.data.toList), hcs, by rw [List.length_map, List.length_take]; omega, ?_⟩
    rcases Nat.eq_zero_or_pos len with h0 | h0
    · exact .inl (by rw [List.length_map, List.length_take]; omega)
    · have h1 := hcell 0 (by omega)
      have hspot : a.spot = none := by simpa [Addr.add] using World.cell?_spot h1
      obtain ⟨b, o, sp⟩ := a
      obtain rfl : sp = none := hspot
      have add_one : ∀ i, (⟨b, o, none⟩ : Addr).add i = ⟨b, o + i, none⟩ := fun i => by
        unfold Addr.add
        by_cases h1 : i = 0 <;> simp [h1]
      rw [add_one] at h1
      refine .inr ⟨b, o, rfl, Np.cellLt h1, fun i hi => ?_⟩
      rw [List.length_map, List.length_take] at hi
      have h2 := hcell i (by omega)
      rw [add_one] at h2
      rw [h2, List.getElem_map, List.getElem_take, List.getD, List.getElem?_eq_getElem (by omega), tx_arr]
      rfl
set_option maxRecDepth 100000 in
/-- A row of steps among the arguments. -/
theorem steps_cells {H : Type} {enc : TypeId × Value → H} {W : World} {base : Nat} {spare : Nat → Bool} {held : Bool} {fuel : Nat} {cs : List Value} {x : DataW H × List MemPlace}
    (hf : DataW.trod enc Tryz.prog W base spare held fuel 52 cs = some x) :
    ∃ a n c L, cs = [.slice a n c] ∧ Np.StepsIn W a n L := by
  rcases open_slice Tryz.underlying52 hf with ⟨hcs, _⟩ | ⟨a, len, cap, m, n, D, Pl, hcs, hb, hl, hm, hmm, hd, hx⟩
  · exact ⟨none, 0, 0, [], hcs, rfl, .inl rfl⟩
  have hlm : len ≤ m := by rw [hmm]; split <;> omega
  have hlen : len ≤ 9223372036854775807 := by
    have : len ≤ maxLen := by omega
    unfold maxLen at this; omega
  by_cases h0 : len = 0
  · exact ⟨some a, len, cap, [], hcs, h0.symm, .inl h0⟩
  have hspot : a.spot = none := by
    obtain ⟨cs0, q1, _⟩ := hx 0 (by omega)
    rw [stepc] at q1
    obtain ⟨_, q2, q3⟩ := World.cells?_some q1
    have q4 := q3 0 (by omega)
    rw [List.getElem?_eq_getElem (by omega)] at q4
    simpa [Addr.add] using World.cell?_spot q4
  obtain ⟨b, o, sp⟩ := a
  obtain rfl : sp = none := hspot
  have each : ∀ i, i < len → ∃ t, StepAt W b (o + i * 3) t := by
    intro i hi
    obtain ⟨cs', h1, h2⟩ := hx i (by omega)
    rw [stepc] at h1
    obtain ⟨hbb, hlen, hcell⟩ := World.cells?_some h1
    obtain ⟨xs, k, rfl, hxx, hcl, hxl, hf⟩ := DataW.trod_struct Tryz.underlying57 h2
    match cs', hlen with
    | [x0, x1, x2], _ =>
      match xs, hxl with
      | [y0, y1, y2], _ =>
        have c3 : Tryz.prog.cellsOf 3 = 1 := by kernel_rfl
        have c9 : Tryz.prog.cellsOf 9 = 1 := by kernel_rfl
        have f0 := hf 0 _ rfl
        have f1 := hf 1 _ rfl
        have f2 := hf 2 _ rfl
        simp only [c3, c9, List.drop_succ_cons, List.drop_zero, List.take_succ_cons, List.take_zero, List.getElem?_cons_zero, List.getElem?_cons_succ] at f0 f1 f2
        have g0 := hcell 0 (by omega)
        have g1 := hcell 1 (by omega)
        have g2 := hcell 2 (by omega)
        simp only [List.getElem?_cons_zero, List.getElem?_cons_succ] at g0 g1 g2
        obtain ⟨z0, e0, _, _⟩ := DataW.trod_int Tryz.underlying3 f0
        obtain ⟨s1, e1, _, _⟩ := DataW.trod_string Tryz.underlying9 f1
        obtain ⟨z2, e2, _, _⟩ := DataW.trod_int Tryz.underlying3 f2
        obtain rfl := (List.cons.inj e0).1
        obtain rfl := (List.cons.inj e1).1
        obtain rfl := (List.cons.inj e2).1
        simp only [add_at, Nat.add_zero] at g0 g1 g2
        exact ⟨⟨z0, s1, z2⟩, g0, g1, g2⟩
  have hbl : b < W.heap.size := by
    obtain ⟨t, h1, _⟩ := each 0 (by omega)
    exact World.block_lt_of_cell? W _ h1
  obtain ⟨f, hf2⟩ : ∃ f : Nat → Pm.St, ∀ i, i < len → StepAt W b (o + i * 3) (f i) := by
    refine ⟨fun i => if h : i < len then Classical.choose (each i h) else ⟨0, Pm.nul, 0⟩, fun i hi => ?_⟩
    dsimp only
    rw [dif_pos hi]
    exact Classical.choose_spec (each i hi)
  refine ⟨some ⟨b, o, none⟩, len, cap, (List.range len).map f, hcs, by simp, .inr ⟨b, o, rfl, hbl, fun i hi => ?_⟩⟩
  rw [List.getElem_map, List.getElem_range]
  exact hf2 i (by simpa using hi)
/-- A mark in its place. -/
def MarkAt (W : World) (b p : Nat) (mk : Mk) : Prop := mk.mask < 18446744073709551616 ∧ ∃ a k c, W.cell? ⟨b, p, none⟩ = some (.slice a k c) ∧ W.cell? ⟨b, p + 1, none⟩ = some (.int .u64 (mk.mask : Int)) ∧ Np.StepsIn W a k mk.path
set_option maxRecDepth 100000 in
theorem marks_cells {H : Type} {enc : TypeId × Value → H} {W : World} {base : Nat} {spare : Nat → Bool} {held : Bool} {fuel : Nat} {cs : List Value} {x : DataW H × List MemPlace}
    (hf : DataW.trod enc Tryz.prog W base spare held fuel 23 cs = some x) :
    ∃ a n c ms, cs = [.slice a n c] ∧ MarksIn W a n ms := by
  rcases open_slice Tryz.underlying23 hf with ⟨hcs, _⟩ | ⟨a, len, cap, m, n, D, Pl, hcs, hb, hl, hm, hmm, hd, hx⟩
  · exact ⟨none, 0, 0, [], hcs, rfl, .inl rfl⟩
  have hlm : len ≤ m := by rw [hmm]; split <;> omega
  by_cases h0 : len = 0
  · exact ⟨some a, len, cap, [], hcs, h0.symm, .inl h0⟩
  have hspot : a.spot = none := by
    obtain ⟨cs0, q1, _⟩ := hx 0 (by omega)
    rw [cellsM1] at q1
    obtain ⟨_, q2, q3⟩ := World.cells?_some q1
    have q4 := q3 0 (by omega)
    rw [List.getElem?_eq_getElem (by omega)] at q4
    simpa [Addr.add] using World.cell?_spot q4
  obtain ⟨b, o, sp⟩ := a
  obtain rfl : sp = none := hspot
  have each : ∀ i, i < len → ∃ mk, MarkAt W b (o + i * 2) mk := by
    intro i hi
    obtain ⟨cs', h1, h2⟩ := hx i (by omega)
    rw [cellsM1] at h1
    obtain ⟨hbb, hlen, hcell⟩ := World.cells?_some h1
    obtain ⟨xs, k, rfl, hxx, hcl, hxl, hf⟩ := DataW.trod_struct Tryz.underlying59 h2
    match cs', hlen with
    | [x0, x1], _ =>
      match xs, hxl with
      | [y0, y1], _ =>
        have f0 := hf 0 _ rfl
        have f1 := hf 1 _ rfl
        simp only [cellsS1, cellsUp, List.drop_succ_cons, List.drop_zero, List.take_succ_cons, List.take_zero, List.getElem?_cons_zero, List.getElem?_cons_succ] at f0 f1
        have g0 := hcell 0 (by omega)
        have g1 := hcell 1 (by omega)
        simp only [List.getElem?_cons_zero, List.getElem?_cons_succ] at g0 g1
        obtain ⟨sa, sn, sc, L, e0, hL⟩ := steps_cells f0
        obtain ⟨z1, e1, _, hw⟩ := DataW.trod_int Tryz.underlying37 f1
        obtain ⟨q, rfl, hq⟩ := u64_rng hw
        obtain rfl := (List.cons.inj e0).1
        obtain rfl := (List.cons.inj e1).1
        simp only [add_at, Nat.add_zero] at g0 g1
        exact ⟨⟨L, q⟩, hq, sa, sn, sc, g0, g1, hL⟩
  have hbl : b < W.heap.size := by
    obtain ⟨t, _, _, _, _, h1, _⟩ := each 0 (by omega)
    exact World.block_lt_of_cell? W _ h1
  obtain ⟨f, hf2⟩ : ∃ f : Nat → Mk, ∀ i, i < len → MarkAt W b (o + i * 2) (f i) := by
    refine ⟨fun i => if h : i < len then Classical.choose (each i h) else ⟨[], 0⟩, fun i hi => ?_⟩
    dsimp only
    rw [dif_pos hi]
    exact Classical.choose_spec (each i hi)
  refine ⟨some ⟨b, o, none⟩, len, cap, (List.range len).map f, hcs, by simp, .inr ⟨b, o, rfl, hbl, fun i hi => ?_⟩⟩
  rw [List.getElem_map, List.getElem_range]
  exact hf2 i (by simpa using hi)
theorem array5 {α : Type} {cs : Array α} (h : cs.size = 5) : ∃ c0 c1 c2 c3 c4, cs = #[c0, c1, c2, c3, c4] := by
  obtain ⟨l⟩ := cs
  match l, h with
  | [c0, c1, c2, c3, c4], _ => exact ⟨c0, c1, c2, c3, c4, rfl⟩
set_option maxRecDepth 100000 in
/-- A policy among the arguments. -/
theorem open_policy {H : Type} {enc : TypeId × Value → H} {W : World} {base : Nat} {spare : Nat → Bool} {held : Bool} {r : Reach} {b0 : Nat} {v : Value} {d : DataW H} {ps : List MemPlace}
    (hval : Value.okWide Tryz.prog W r b0 25 v) (h : DataW.Trod enc Tryz.prog W base spare held 25 v d ps) : ∃ p, PolIn W v p := by
  simp only [Value.okWide, Tryz.underlying25] at hval
  obtain ⟨cs, rfl, hsz, _⟩ := hval
  have e5 : Tryz.prog.cellsOf 25 = 5 := by kernel_rfl
  rw [e5] at hsz
  obtain ⟨c0, c1, c2, c3, c4, rfl⟩ := array5 hsz
  obtain ⟨fuel, hf⟩ := h
  obtain ⟨xs, k, _, hxx, hcl, hxl, hf⟩ := DataW.trod_struct Tryz.underlying25 hf
  match xs, hxl with
  | [y0, y1, y2, y3, y4], _ =>
    have f0 := hf 0 _ rfl
    have f1 := hf 1 _ rfl
    have f2 := hf 2 _ rfl
    have f3 := hf 3 _ rfl
    have f4 := hf 4 _ rfl
    simp only [Value.cells, cellsT1, cellsM2, cells9p, cells3p, List.drop_succ_cons, List.drop_zero, List.take_succ_cons, List.take_zero, List.getElem?_cons_zero, List.getElem?_cons_succ] at f0 f1 f2 f3 f4
    obtain ⟨a, n, c, C, e0, hC⟩ := strs_cells f0
    obtain ⟨b, m, dd, M, e1, hM⟩ := marks_cells f1
    obtain ⟨s2, e2, _, _⟩ := DataW.trod_string Tryz.underlying9 f2
    obtain ⟨z3, e3, _, _⟩ := DataW.trod_int Tryz.underlying3 f3
    obtain ⟨z4, e4, _, _⟩ := DataW.trod_int Tryz.underlying3 f4
    obtain rfl := (List.cons.inj e0).1
    obtain rfl := (List.cons.inj e1).1
    obtain rfl := (List.cons.inj e2).1
    obtain rfl := (List.cons.inj e3).1
    obtain rfl := (List.cons.inj e4).1
    exact ⟨⟨C, M, s2.data.toList, z3, z4⟩, a, n, c, b, m, dd, s2, rfl, rfl, hC, hM⟩
end Go.Proofs.YtnagecbepidfiaaGreatDoor.Pol
