/- What is proved here: what bare, leads and the tests that leads answers do, walked; conditions: as each theorem states. What is proved here: what few, place, key and at of the laws, and the document's own Same, do with rows of steps that lie, walked; conditions: as each theorem states. What is proved here: what place, key and at of the laws, and the document's own Same, do with rows of steps that lie, walked; conditions: as each theorem states. What is proved here: what Match of package path does with two rows of steps that lie, walked; conditions: as the theorem states. Written by match_gen.py. -/
import Derived.Test.YtnagecbepidfiaaGreatDoorRows
import Derived.WalkKit
import Derived.WalkSpells
import Derived.WalkLawsBesides
import Derived.BigCall
import Derived.BigQuiet
import Derived.Handy
import Derived.Laws.StructEq
import Derived.Deep.RegionHeld3
import Derived.Test.YtnagecbepidfiaaGreatDoorAb
import Derived.OwnWalk
import Derived.Deep.AppendLies
import Derived.Deep.DeepCutAuto
import Derived.Deep.CutRange
import Derived.Deep.CutBlock
import Derived.Deep.RegionWith
namespace Go.Proofs.YtnagecbepidfiaaGreatDoor.Np
set_option maxRecDepth 100000
open Go.RowKit
set_option linter.unusedVariables false
set_option linter.unusedSimpArgs false

theorem phide {p : Prop} (h : p) : Hid p := h
theorem punhide {p : Prop} (h : Hid p) : p := h
def valS (t : Pm.St) : Value := .agg #[.int .i64 t.k, .string t.s, .int .i64 t.n]
/-- A step in memory. -/
def StepAt (w : World) (b p : Nat) (t : Pm.St) : Prop := w.cell? ⟨b, p, none⟩ = some (.int .i64 t.k) ∧ w.cell? ⟨b, p + 1, none⟩ = some (.string t.s) ∧ w.cell? ⟨b, p + 2, none⟩ = some (.int .i64 t.n)
/-- A row of steps in memory. -/
def RowSt (w : World) (b o : Nat) (L : List Pm.St) : Prop := b < w.heap.size ∧ ∀ i, ∀ h : i < L.length, StepAt w b (o + i * 3) (L[i]'h)
theorem StepAt.step {w w' : World} {b p : Nat} {t : Pm.St} (h : StepAt w b p t) (hb : b < w.heap.size) (hB : Below w.heap.size w w') : StepAt w' b p t :=
  ⟨(hB.cell (p := ⟨b, p, none⟩) hb).trans h.1, (hB.cell (p := ⟨b, p + 1, none⟩) hb).trans h.2.1, (hB.cell (p := ⟨b, p + 2, none⟩) hb).trans h.2.2⟩
theorem RowSt.step {w w' : World} {b o : Nat} {L : List Pm.St} (h : RowSt w b o L) (hB : Below w.heap.size w w') : RowSt w' b o L :=
  ⟨Nat.lt_of_lt_of_le h.1 hB.size, fun i hi => (h.2 i hi).step h.1 hB⟩

theorem bare_any (t u : Pm.St) (hu : Pm.bareS t = u) (w : World) : Calls Tryz.prog 120 #[valS t] w fun e w' => e = .returned (valS u) ∧ Below w.heap.size w w' := by
  obtain ⟨k, s, n⟩ := t
  by_cases h1 : k = 1
  · obtain rfl : u = ⟨1, s, 0⟩ := by rw [← hu]; unfold Pm.bareS; rw [if_pos h1]
    subst h1
    clear hu
    unfold valS
    go_enter Tryz.func120, Tryz.ntmps120
    go_wp2
    go_returns
    exact ⟨rfl, by go_grown⟩
  · have b1 : (k == 1) = false := beq_eq_false_iff_ne.2 h1
    by_cases h2 : k = 2
    · obtain rfl : u = ⟨2, Pm.nul, n⟩ := by rw [← hu]; unfold Pm.bareS; rw [if_neg h1, if_pos h2]
      subst h2
      clear hu h1
      unfold valS
      go_enter Tryz.func120, Tryz.ntmps120
      go_wp2
      go_returns
      exact ⟨rfl, by go_grown⟩
    · have b2 : (k == 2) = false := beq_eq_false_iff_ne.2 h2
      obtain rfl : u = ⟨k, Pm.nul, 0⟩ := by rw [← hu]; unfold Pm.bareS; rw [if_neg h1, if_neg h2]
      clear hu h1 h2
      unfold valS
      go_enter Tryz.func120, Tryz.ntmps120
      go_wp2
      go_returns
      exact ⟨rfl, by go_grown⟩

theorem step_type : Tryz.prog.underlying 57 = some (.struct (Tryz.prog.fieldsOf 57)) := by kernel_rfl
theorem step_held : Tryz.prog.stoodInHeld 57 = false := by kernel_rfl
theorem step_guard : Tryz.prog.eqGuardType Tryz.prog.depth 57 = false := by kernel_rfl
theorem step_fields : (Tryz.prog.fieldsOf 57).toList.map (fun f => (f.name, f.type, f.offset)) = [("Kind", 3, 0), ("Key", 9, 1), ("N", 3, 2)] := by kernel_rfl
theorem three {α : Type} {l : List α} (h : l.length = 3) : ∃ a b c, l = [a, b, c] := by
  match l, h with
  | [a, b, c], _ => exact ⟨a, b, c, rfl⟩
theorem bytes_list {s u : ByteArray} : s.toList = u.toList ↔ s = u := by
  rw [ByteArray.toList_eq, ByteArray.toList_eq]
  constructor
  · intro h; obtain ⟨⟨x⟩⟩ := s; obtain ⟨⟨y⟩⟩ := u; simp only at h; rw [h]
  · rintro rfl; rfl
theorem step_three : ∃ f0 f1 f2 : Field, (Tryz.prog.fieldsOf 57).toList = [f0, f1, f2] ∧ (f0.name = "Kind" ∧ f0.type = 3 ∧ f0.offset = 0) ∧ (f1.name = "Key" ∧ f1.type = 9 ∧ f1.offset = 1) ∧ (f2.name = "N" ∧ f2.type = 3 ∧ f2.offset = 2) := by
  have h := step_fields
  obtain ⟨f0, f1, f2, hl⟩ := three (l := (Tryz.prog.fieldsOf 57).toList) (by have := congrArg List.length h; rwa [List.length_map] at this)
  rw [hl] at h ⊢
  simp only [List.map_cons, List.map_nil, List.cons.injEq, Prod.mk.injEq, and_true] at h
  exact ⟨f0, f1, f2, rfl, h.1, h.2.1, h.2.2⟩
theorem eq_step (a b c : Int) (s u : ByteArray) (d : Int) (w : World) : (binOp .eql 57 (.agg #[.int .i64 a, .string s, .int .i64 c]) (.agg #[.int .i64 b, .string u, .int .i64 d])).run Tryz.prog w = .ok (.bool (decide ((⟨a, s, c⟩ : Pm.St) = ⟨b, u, d⟩))) w := by
  obtain ⟨f0, f1, f2, hl, ⟨n0, t0, o0⟩, ⟨n1, t1, o1⟩, ⟨n2, t2, o2⟩⟩ := step_three
  rw [run_eql_struct, run_equalIn_struct _ _ _ _ _ step_type step_held, hl]
  have u3 := Tryz.underlying3
  have u9 := Tryz.underlying9
  simp only [Op.eqFields, n0, n1, n2, t0, t1, t2, o0, o1, o2]
  simp only [Pm.St.mk.injEq, ← bytes_list]
  simp [go_sem, u3, u9]
  by_cases h1 : a = b <;> by_cases h2 : s.toList = u.toList <;> by_cases h3 : c = d <;> simp [h1, h2, h3]
theorem guard_step (x y : Operand) (xs ys : Array Value) (w : World) : (eqGuard .eql 57 x y (.agg xs) (.agg ys)).run Tryz.prog w = .ok () w := run_eqGuard_agg _ _ _ _ _ _ _ step_guard
theorem eq_step' (x y : Pm.St) (q : Bool) (h : decide (x = y) = q) (w : World) : (binOp .eql 57 (.agg #[.int .i64 x.k, .string x.s, .int .i64 x.n]) (.agg #[.int .i64 y.k, .string y.s, .int .i64 y.n])).run Tryz.prog w = .ok (.bool q) w := by
  rw [eq_step, ← h]
theorem neq_step' (x y : Pm.St) (q : Bool) (h : (!decide (x = y)) = q) (w : World) : (binOp .neq 57 (.agg #[.int .i64 x.k, .string x.s, .int .i64 x.n]) (.agg #[.int .i64 y.k, .string y.s, .int .i64 y.n])).run Tryz.prog w = .ok (.bool q) w := by
  have h1 := eq_step x.k y.k x.n x.s y.s y.n w
  rw [run_eql_struct] at h1
  rw [run_neq_struct, ← h]
  generalize (Op.equalIn 10000 57 (Value.agg #[.int .i64 x.k, .string x.s, .int .i64 x.n]) (Value.agg #[.int .i64 y.k, .string y.s, .int .i64 y.n])).run Tryz.prog w = r at *
  cases r with
  | ok b w' =>
    simp only [Result.andThen_ok, Result.ok.injEq, Value.bool.injEq] at h1 ⊢
    obtain ⟨rfl, rfl⟩ := h1
    exact ⟨rfl, rfl⟩
  | halt h w' => simp [Result.andThen] at h1
theorem guard_stepN (x y : Operand) (xs ys : Array Value) (w : World) : (eqGuard .neq 57 x y (.agg xs) (.agg ys)).run Tryz.prog w = .ok () w := run_eqGuard_agg _ _ _ _ _ _ _ step_guard
/-- The test of one step alone, with what it wants laid in a block. -/
theorem want_any (t u x : Pm.St) (g : Nat) (q : Bool) (hq : decide (Pm.bareS x = u) = q) (w : World) (hu : StepAt w g 0 u) (hg : g < w.heap.size) : Calls Tryz.prog 121 #[valS x, .pointer (some ⟨g, 0, none⟩)] w fun e w' => e = .returned (.bool q) ∧ Below w.heap.size w w' := by
  have HQ := phide hq
  obtain ⟨b, hb⟩ : ∃ b, Pm.bareS x = b := ⟨_, rfl⟩
  have CB := fun W => bare_any x b hb W
  have hq2 : decide (b = u) = q := by rw [← hb]; exact hq
  have hEQ := fun w => eq_step' b u q hq2 w
  have hGD := guard_step
  clear HQ
  have hv : valS x = .agg #[.int .i64 x.k, .string x.s, .int .i64 x.n] := rfl
  obtain ⟨xk, xs, xn⟩ := x
  obtain ⟨bk, bs, bn⟩ := b
  obtain ⟨uk, us, un⟩ := u
  unfold valS at *
  simp only [] at *
  clear hq hb hv hq2
  obtain ⟨h1, h2, h3⟩ := hu
  go_enter Tryz.func121, Tryz.ntmps121
  go_wp2_with fail
  have hB0 : Below w.heap.size w (w.alloc (.cells #[.int .i64 xk, .string xs, .int .i64 xn] 57)) := (Below.refl _ _).alloc (Nat.le_refl _) _
  have b0 : (w.alloc (.cells #[.int .i64 xk, .string xs, .int .i64 xn] 57)).cell? ⟨w.heap.size, 0, none⟩ = some (.int .i64 xk) := by go_simp
  have b1 : (w.alloc (.cells #[.int .i64 xk, .string xs, .int .i64 xn] 57)).cell? ⟨w.heap.size, 1, none⟩ = some (.string xs) := by go_simp
  have b2 : (w.alloc (.cells #[.int .i64 xk, .string xs, .int .i64 xn] 57)).cell? ⟨w.heap.size, 2, none⟩ = some (.int .i64 xn) := by go_simp
  have hlt : w.heap.size < (w.alloc (.cells #[.int .i64 xk, .string xs, .int .i64 xn] 57)).heap.size := by simp
  generalize w.alloc (.cells #[.int .i64 xk, .string xs, .int .i64 xn] 57) = W4 at *
  generalize hbb : w.heap.size = B at *
  have HBB := phide hbb
  clear hbb
  have HSB : Hid (∀ W, Below W4.heap.size W4 W → (W.cell? ⟨g, 0, none⟩ = some (.int .i64 uk) ∧ W.cell? ⟨g, 1, none⟩ = some (.string us) ∧ W.cell? ⟨g, 2, none⟩ = some (.int .i64 un)) ∧ (W.cell? ⟨B, 0, none⟩ = some (.int .i64 xk) ∧ W.cell? ⟨B, 1, none⟩ = some (.string xs) ∧ W.cell? ⟨B, 2, none⟩ = some (.int .i64 xn))) :=
    phide (fun W hB => ⟨⟨(hB.cell (p := ⟨g, 0, none⟩) (by simp; omega)).trans ((hB0.cell (p := ⟨g, 0, none⟩) hg).trans h1), (hB.cell (p := ⟨g, 1, none⟩) (by simp; omega)).trans ((hB0.cell (p := ⟨g, 1, none⟩) hg).trans h2), (hB.cell (p := ⟨g, 2, none⟩) (by simp; omega)).trans ((hB0.cell (p := ⟨g, 2, none⟩) hg).trans h3)⟩, ⟨(hB.cell (p := ⟨B, 0, none⟩) hlt).trans b0, (hB.cell (p := ⟨B, 1, none⟩) hlt).trans b1, (hB.cell (p := ⟨B, 2, none⟩) hlt).trans b2⟩⟩)
  have HE : Hid (∀ W, Below W4.heap.size W4 W → Below B w W) := phide (fun W hB => hB0.trans (hB.mono (Nat.le_of_lt hlt)))
  have hS : Below W4.heap.size W4 W4.drew := (Below.refl _ _).drew
  clear h1 h2 h3 b0 b1 b2 hB0 hlt hg
  go_region_held3 (fun w' => (w'.cell? ⟨g, 0, none⟩ = some (.int .i64 uk) ∧ w'.cell? ⟨g, 1, none⟩ = some (.string us) ∧ w'.cell? ⟨g, 2, none⟩ = some (.int .i64 un)) ∧ (w'.cell? ⟨B, 0, none⟩ = some (.int .i64 xk) ∧ w'.cell? ⟨B, 1, none⟩ = some (.string xs) ∧ w'.cell? ⟨B, 2, none⟩ = some (.int .i64 xn))) (exact punhide HSB _ hS)
    (first | (go_at_call 120; refine (CB _).mono ?_; rintro e w2 ⟨rfl, b9⟩; replace hS := hS.trans (b9.mono hS.size); clear b9))
  all_goals
    go_wp2
    go_ret
    exact ⟨rfl, by rw [punhide HBB]; exact punhide HE _ hS⟩
theorem kind1_any (x : Pm.St) (q : Bool) (hq : decide (x.k = 1) = q) (w : World) : Calls Tryz.prog 122 #[valS x] w fun e w' => e = .returned (.bool q) ∧ Below w.heap.size w w' := by
  obtain ⟨k, s, n⟩ := x
  have d1 : (k == 1) = q := by rw [← hq]; rfl
  unfold valS
  clear hq
  go_enter Tryz.func122, Tryz.ntmps122
  go_wp2
  go_returns
  exact ⟨rfl, by go_grown⟩
theorem kind2_any (x : Pm.St) (q : Bool) (hq : decide (x.k = 2) = q) (w : World) : Calls Tryz.prog 123 #[valS x] w fun e w' => e = .returned (.bool q) ∧ Below w.heap.size w w' := by
  obtain ⟨k, s, n⟩ := x
  have d1 : (k == 2) = q := by rw [← hq]; rfl
  unfold valS
  clear hq
  go_enter Tryz.func123, Tryz.ntmps123
  go_wp2
  go_returns
  exact ⟨rfl, by go_grown⟩
theorem none_any (x : Pm.St) (w : World) : Calls Tryz.prog 124 #[valS x] w fun e w' => e = .returned (.bool false) ∧ Below w.heap.size w w' := by
  obtain ⟨k, s, n⟩ := x
  unfold valS
  go_enter Tryz.func124, Tryz.ntmps124
  go_wp2
  go_returns
  exact ⟨rfl, by go_grown⟩
theorem leads_3 (t : Pm.St) (h : t.k = 3) (w : World) : Calls Tryz.prog 94 #[valS t] w fun e w' => e = .returned (.func (.func 122) #[] #[]) ∧ Below w.heap.size w w' := by
  obtain ⟨k, s, n⟩ := t
  obtain rfl : k = 3 := h
  unfold valS
  go_enter Tryz.func94, Tryz.ntmps94
  go_wp2
  go_returns
  exact ⟨rfl, by go_grown⟩
theorem leads_4 (t : Pm.St) (h : t.k = 4) (w : World) : Calls Tryz.prog 94 #[valS t] w fun e w' => e = .returned (.func (.func 123) #[] #[]) ∧ Below w.heap.size w w' := by
  obtain ⟨k, s, n⟩ := t
  obtain rfl : k = 4 := h
  unfold valS
  go_enter Tryz.func94, Tryz.ntmps94
  go_wp2
  go_returns
  exact ⟨rfl, by go_grown⟩
theorem leads_0 (t : Pm.St) (h1 : t.k ≠ 1) (h2 : t.k ≠ 2) (h3 : t.k ≠ 3) (h4 : t.k ≠ 4) (w : World) : Calls Tryz.prog 94 #[valS t] w fun e w' => e = .returned (.func (.func 124) #[] #[]) ∧ Below w.heap.size w w' := by
  obtain ⟨k, s, n⟩ := t
  have d1 : (k == 1) = false := beq_eq_false_iff_ne.2 h1
  have d2 : (k == 2) = false := beq_eq_false_iff_ne.2 h2
  have d3 : (k == 3) = false := beq_eq_false_iff_ne.2 h3
  have d4 : (k == 4) = false := beq_eq_false_iff_ne.2 h4
  unfold valS
  clear h1 h2 h3 h4
  go_enter Tryz.func94, Tryz.ntmps94
  go_wp2
  go_returns
  exact ⟨rfl, by go_grown⟩
theorem leads_1 (t u : Pm.St) (h : t.k = 1 ∨ t.k = 2) (hu : Pm.bareS t = u) (w : World) : Calls Tryz.prog 94 #[valS t] w fun e w' => ∃ g, e = .returned (.func (.func 121) #[] #[.pointer (some ⟨g, 0, none⟩)]) ∧ Below w.heap.size w w' ∧ g < w'.heap.size ∧ StepAt w' g 0 u := by
  have CB := fun W => bare_any t u hu W
  obtain ⟨k, s, n⟩ := t
  obtain ⟨uk, us, un⟩ := u
  unfold valS at *
  simp only [] at *
  clear hu
  rcases h with h | h
  · obtain rfl : k = 1 := h
    go_enter Tryz.func94, Tryz.ntmps94
    go_wp2_with (go_at_call 120; refine (CB _).mono ?_; rintro e w2 ⟨rfl, b9⟩)
    go_returns
    exact ⟨_, rfl, (((Below.refl _ _).alloc (Nat.le_refl _) _).trans (b9.mono (by simp))).alloc (Nat.le_trans (by simp) b9.size) _, by simp, by refine ⟨?_, ?_, ?_⟩ <;> go_simp⟩
  · obtain rfl : k = 2 := h
    go_enter Tryz.func94, Tryz.ntmps94
    go_wp2_with (go_at_call 120; refine (CB _).mono ?_; rintro e w2 ⟨rfl, b9⟩)
    go_returns
    exact ⟨_, rfl, (((Below.refl _ _).alloc (Nat.le_refl _) _).trans (b9.mono (by simp))).alloc (Nat.le_trans (by simp) b9.size) _, by simp, by refine ⟨?_, ?_, ?_⟩ <;> go_simp⟩
end Go.Proofs.YtnagecbepidfiaaGreatDoor.Np

namespace Go.Proofs.YtnagecbepidfiaaGreatDoor.Np
set_option maxRecDepth 100000
open Go.RowKit
set_option linter.unusedVariables false
set_option linter.unusedSimpArgs false

/-- A row of steps that came in. -/
def StepsIn (w : World) (a : Option Addr) (n : Nat) (L : List Pm.St) : Prop :=
  L.length = n ∧ (n = 0 ∨ ∃ b o, a = some ⟨b, o, none⟩ ∧ RowSt w b o L)
theorem StepsIn.step {w w' : World} {a : Option Addr} {n : Nat} {L : List Pm.St} (h : StepsIn w a n L) (hB : Below w.heap.size w w') : StepsIn w' a n L := by
  obtain ⟨h1, h2⟩ := h
  refine ⟨h1, ?_⟩
  rcases h2 with h2 | ⟨b, o, e, h2⟩
  · exact .inl h2
  · exact .inr ⟨b, o, e, h2.step hB⟩
def cut40 (s : ByteArray) : ByteArray := if 40 < s.size then s.extract 0 40 else s
theorem cut40_size (s : ByteArray) : (cut40 s).size ≤ 40 := by
  unfold cut40
  split
  · rw [ByteArray.size_extract]; omega
  · omega
def fewS (t : Pm.St) : Pm.St := ⟨t.k, cut40 t.s, t.n⟩
def fewL (L : List Pm.St) : List Pm.St := (L.take 12).map fewS
theorem fewL_len (L : List Pm.St) : (fewL L).length = min 12 L.length := by unfold fewL; simp
theorem fewL_key (L : List Pm.St) : ∀ t ∈ fewL L, t.s.size ≤ 40 := by
  intro t ht
  obtain ⟨x, _, rfl⟩ := List.mem_map.1 ht
  exact cut40_size _
def cellsS (t : Pm.St) : List Value := [.int .i64 t.k, .string t.s, .int .i64 t.n]
def rowS (L : List Pm.St) : List Value := L.flatMap cellsS
theorem rowS_len : ∀ L : List Pm.St, (rowS L).length = L.length * 3
  | [] => rfl
  | t :: r => by
    unfold rowS
    rw [List.flatMap_cons, List.length_append, List.length_cons]
    have := rowS_len r
    unfold rowS at this
    rw [this]; simp [cellsS]; omega
theorem rowS_snoc (L : List Pm.St) (t : Pm.St) : rowS (L ++ [t]) = rowS L ++ cellsS t := by unfold rowS; rw [List.flatMap_append]; simp
theorem rowS_app (L M : List Pm.St) : rowS (L ++ M) = rowS L ++ rowS M := by unfold rowS; rw [List.flatMap_append]
theorem rowS_at : ∀ (L : List Pm.St) (i r : Nat), r < 3 → ∀ h : i < L.length, (rowS L)[i * 3 + r]? = (cellsS (L[i]'h))[r]?
  | [], _, _, _, h => absurd h (by simp)
  | t :: l, 0, r, hr, _ => by
    unfold rowS
    rw [List.flatMap_cons, Nat.zero_mul, Nat.zero_add, List.getElem?_append_left (by simpa [cellsS] using hr)]
    rfl
  | t :: l, i + 1, r, hr, h => by
    unfold rowS
    rw [List.flatMap_cons, List.getElem?_append_right (by simp [cellsS]; omega)]
    have := rowS_at l i r hr (by simpa using h)
    unfold rowS at this
    simp only [cellsS, List.length_cons, List.length_nil]
    rw [show (i + 1) * 3 + r - (0 + 1 + 1 + 1) = i * 3 + r by omega]
    exact this
theorem rowS_one {L : List Pm.St} : ∀ u ∈ rowS L, u.oneCell' = true := by
  intro u hu
  obtain ⟨t, _, h⟩ := List.mem_flatMap.1 hu
  simp only [cellsS, List.mem_cons, List.mem_nil_iff, or_false] at h
  rcases h with rfl | rfl | rfl <;> rfl
theorem addS (g i : Nat) : (⟨g, 0, none⟩ : Addr).add i = ⟨g, i, none⟩ := by unfold Addr.add; split <;> simp_all
/-- A row of the call's own lies as a row. -/
theorem rowst_of {w : World} {base g k cap : Nat} {L : List Pm.St} (h : w.ownsRow base 57 3 (.slice (some ⟨g, 0, none⟩) k cap) k (rowS L)) : RowSt w g 0 L := by
  refine ⟨(h.lt g rfl).2, fun i hi => ?_⟩
  have h0 := h.cells (g := g) rfl (i * 3) (.int .i64 (L[i]'hi).k) (by have := rowS_at L i 0 (by omega) hi; rw [Nat.add_zero] at this; rw [this]; rfl)
  have h1 := h.cells (g := g) rfl (i * 3 + 1) (.string (L[i]'hi).s) (by rw [rowS_at L i 1 (by omega) hi]; rfl)
  have h2 := h.cells (g := g) rfl (i * 3 + 2) (.int .i64 (L[i]'hi).n) (by rw [rowS_at L i 2 (by omega) hi]; rfl)
  rw [addS] at h0 h1 h2
  rw [Nat.zero_add]
  exact ⟨h0, h1, h2⟩
theorem ownS_step {w w' : World} {base g k cap : Nat} {xs : List Value} (h : w.ownsRow base 57 3 (.slice (some ⟨g, 0, none⟩) k cap) k xs) (hB : Below w.heap.size w w') : w'.ownsRow base 57 3 (.slice (some ⟨g, 0, none⟩) k cap) k xs := by
  obtain ⟨h0, h⟩ := h
  refine ⟨h0, ?_⟩
  rcases h with ⟨e, e2⟩ | ⟨g', cap', cur, hv, hg, hh, r⟩
  · exact .inl ⟨e, e2⟩
  · refine .inr ⟨g', cap', cur, hv, hg, ?_, r⟩
    rw [hB.block g' (Array.getElem?_eq_some_iff.1 hh).1]
    exact hh
theorem infoS : (Tryz.prog.info? 57).map (fun i => (i.zero, i.size, i.bytes)) = some (some (.agg #[.int .i64 0, .string ⟨#[]⟩, .int .i64 0]), 3, 32) := by kernel_rfl
theorem newS (w : World) (t : Pm.St) (ty : TypeId) : ∀ j u, (cellsS t)[j]? = some u → (w.alloc (.cells #[.int .i64 t.k, .string t.s, .int .i64 t.n] ty)).cell? ((⟨w.heap.size, 0, none⟩ : Addr).add j) = some u := by
  intro j u h
  rw [addS, World.cell?_alloc_at _ _ _ _ rfl]
  simpa [cellsS] using h

end Go.Proofs.YtnagecbepidfiaaGreatDoor.Np

namespace Go.Proofs.YtnagecbepidfiaaGreatDoor.Np
set_option maxRecDepth 100000
open Go.RowKit
set_option linter.unusedVariables false
set_option linter.unusedSimpArgs false

set_option maxRecDepth 100000 in
/-- Whether two rows are the same. -/
theorem same_any (ab ao ac bb bo bc n m : Nat) (L M : List Pm.St) (hn : L.length = n) (hm : M.length = m) (hn2 : n ≤ 1000) (hm2 : m ≤ 1000) (q : Bool) (hq : decide (L = M) = q) (w : World) (ha : RowSt w ab ao L) (hb : RowSt w bb bo M) :
    Calls Tryz.prog 38 #[.slice (some ⟨ab, ao, none⟩) n ac, .slice (some ⟨bb, bo, none⟩) m bc] w fun e w' => e = .returned (.bool q) ∧ Below w.heap.size w w' := by
  have HQ := phide hq
  clear hq
  have hGD := guard_stepN
  by_cases hnm : n = m
  · subst hnm
    go_enter Tryz.func38, Tryz.ntmps38
    go_wp2
    go_loopw [5] (fun i wr => ∃ k : Nat, i = .int .i64 (k : Int) ∧ k ≤ n ∧ L.take k = M.take k ∧ Below w.heap.size w wr) (fun i _ => n - (intOf i).toNat)
    case atStart => exact ⟨0, rfl, by omega, rfl, Below.refl _ _⟩
    case round =>
      obtain ⟨k, rfl, hk, hp, hB⟩ := hrel
      have HP := phide hp
      clear hp
      by_cases hlt : k < n
      · obtain ⟨c0, c1, c2⟩ := (ha.step hB).2 k (by omega)
        obtain ⟨x0, x1, x2⟩ := (hb.step hB).2 k (by omega)
        obtain ⟨t, ht⟩ : ∃ t, L[k]'(by omega) = t := ⟨_, rfl⟩
        obtain ⟨x, hx⟩ : ∃ x, M[k]'(by omega) = x := ⟨_, rfl⟩
        rw [ht] at c0 c1 c2
        rw [hx] at x0 x1 x2
        by_cases he : t = x
        · have hNE := fun W => neq_step' t x false (by rw [he]; simp) W
          have HP2 := phide (show L.take (k + 1) = M.take (k + 1) by
            rw [List.take_succ_eq_append_getElem (by omega), List.take_succ_eq_append_getElem (by omega), punhide HP, ht, hx, he])
          obtain ⟨tk, ts, tn⟩ := t
          obtain ⟨xk, xs, xn⟩ := x
          simp only [] at c0 c1 c2 x0 x1 x2 hNE
          clear ht hx he hn hm HP ha hb
          go_wp2_with fail
          go_quiet (fail)
          all_goals
            go_wp2
            go_roundw
            case rel => exact ⟨k + 1, by go_num, by omega, punhide HP2, hB.trans ⟨rfl, rfl, rfl, Nat.le_refl _, fun _ _ => rfl⟩⟩
            case measure => simp [intOf]; omega
        · have hNE := fun W => neq_step' t x true (by simp [he]) W
          have HF : Hid (q = false) := phide (by
            rw [← punhide HQ, decide_eq_false_iff_not]
            intro h
            exact he (by rw [← ht, ← hx]; simp only [h]))
          obtain ⟨tk, ts, tn⟩ := t
          obtain ⟨xk, xs, xn⟩ := x
          simp only [] at c0 c1 c2 x0 x1 x2 hNE
          clear ht hx he hn hm HP ha hb
          go_wp2_with fail
          go_quiet (fail)
          all_goals
            go_wp2
            go_ret
            exact ⟨by rw [punhide HF]; rfl, hB.trans ⟨rfl, rfl, rfl, Nat.le_refl _, fun _ _ => rfl⟩⟩
      · have HF : Hid (q = true) := phide (by
          have h := punhide HP
          rw [List.take_of_length_le (by omega), List.take_of_length_le (by omega)] at h
          rw [← punhide HQ, decide_eq_true_eq]; exact h)
        have d1 : decide ((k : Int) < (n : Int)) = false := decide_eq_false (by omega)
        clear hn hm HP ha hb
        go_wp2
        go_ret
        exact ⟨by rw [punhide HF]; rfl, hB⟩
  · have HF : Hid (q = false) := phide (by
      rw [← punhide HQ, decide_eq_false_iff_not]
      intro h
      exact hnm (by rw [← hn, ← hm, h]))
    have d1 : ((n : Int) != (m : Int)) = true := by simp; omega
    have d2 : ¬ (n : Int) = (m : Int) := by omega
    clear hn hm ha hb
    go_enter Tryz.func38, Tryz.ntmps38
    go_wp2
    go_ret
    exact ⟨by rw [punhide HF]; rfl, Below.refl _ _⟩
end Go.Proofs.YtnagecbepidfiaaGreatDoor.Np

namespace Go.Proofs.YtnagecbepidfiaaGreatDoor.Np
set_option maxRecDepth 100000
open Go.RowKit
set_option linter.unusedVariables false
set_option linter.unusedSimpArgs false

set_option maxRecDepth 100000 in
set_option maxHeartbeats 8000000 in
theorem match_any (lb lo lc ab ao ac n m : Nat) (l a : List Pm.St) (hn : l.length = n) (hm : a.length = m) (hn2 : n ≤ 1000) (hm2 : m ≤ 1000) (q : Bool) (hq : Pm.mt l a = q) (w : World) (hrl : RowSt w lb lo l) (hra : RowSt w ab ao a) :
    Calls Tryz.prog 64 #[.slice (some ⟨lb, lo, none⟩) n lc, .slice (some ⟨ab, ao, none⟩) m ac] w fun e w' => e = .returned (.bool q) ∧ Below w.heap.size w w' := by
  have HQ := phide hq
  have HL : Hid (∀ W, Below w.heap.size w W → ∀ i, ∀ h : i < l.length, StepAt W lb (lo + i * 3) (l[i]'h)) := phide (fun W hB => (hrl.step hB).2)
  have HA : Hid (∀ W, Below w.heap.size w W → ∀ i, ∀ h : i < a.length, StepAt W ab (ao + i * 3) (a[i]'h)) := phide (fun W hB => (hra.step hB).2)
  clear hq hrl hra
  go_enter Tryz.func64, Tryz.ntmps64
  go_wp2
  go_loopw [5, 6, 7, 8] (fun vi vj vd ve wr => ∃ i j d e : Nat, vi = .int .i64 (i : Int) ∧ vj = .int .i64 (j : Int) ∧ vd = .int .i64 (d : Int) ∧ ve = .int .i64 (e : Int) ∧ Hid (Pm.Inv l a i j d e) ∧ Below w.heap.size w wr) (fun _ vj vd ve _ => Pm.left n m (intOf vd).toNat (intOf ve).toNat (intOf vj).toNat)
  case atStart => exact ⟨0, 0, 0, 0, rfl, rfl, rfl, rfl, phide (Pm.Inv.start l a), Below.refl _ _⟩
  case round =>
    obtain ⟨i, j, d, e, rfl, rfl, rfl, rfl, HI, hB⟩ := hrel
    have hil : i ≤ n := by have := (punhide HI).1; omega
    have hjm : j ≤ m := by have := (punhide HI).2.1; omega
    have hdi : d ≤ i := by
      by_cases h0 : d = 0
      · omega
      · exact ((punhide HI).2.2.2 (by omega)).1
    have hej : e ≤ j := by
      by_cases h0 : d = 0
      · have := ((punhide HI).2.2.1 h0).1; omega
      · exact ((punhide HI).2.2.2 (by omega)).2.1
    by_cases hj : j < m
    · have hja : j < a.length := by omega
      by_cases hi : i < n
      · have hia : i < l.length := by omega
        obtain ⟨c0, c1, c2⟩ := punhide HL _ hB i hia
        obtain ⟨x0, x1, x2⟩ := punhide HA _ hB j hja
        by_cases h5 : (l[i]'hia).k = 5
        · have HI2 := phide ((punhide HI).deep hia h5)
          have hmeas := Pm.left_deep (L := n) (N := m) hdi hi hej
          rw [h5] at c0
          clear c1 c2 x0 x1 x2 h5 hil hjm hej hn hm
          go_wp2
          go_roundw
          case rel => exact ⟨i + 1, j, i + 1, j, by go_num, rfl, by go_num, rfl, HI2, hB⟩
          case measure => simp [intOf]; (first | exact hmeas | (have e1 : ((i : Int) + 1).toNat = i + 1 := by omega; simpa [e1] using hmeas))
        · obtain ⟨t, ht⟩ : ∃ t, l[i]'hia = t := ⟨_, rfl⟩
          obtain ⟨x, hx⟩ : ∃ x, a[j]'hja = x := ⟨_, rfl⟩
          have HY : Hid (Pm.leadB t x = true → Pm.Inv l a (i + 1) (j + 1) d e) := phide (fun h => (punhide HI).yes hia hja h5 (by rw [ht, hx]; exact h))
          have HN : Hid (Pm.leadB t x = false → (d = 0 → q = false) ∧ (0 < d → Pm.Inv l a d (e + 1) d (e + 1))) := phide (fun h => by
            have := (punhide HI).no hja (by rw [Pm.R_yes hia hja h5, ht, hx, h]; rfl)
            rwa [punhide HQ] at this)
          rw [ht] at c0 c1 c2 h5
          rw [hx] at x0 x1 x2
          have d5 : (t.k == 5) = false := beq_eq_false_iff_ne.2 h5
          have hmy := Pm.left_yes (L := n) (d := d) (e := e) hj
          have hmn := Pm.left_no (L := n) (N := m) (d := d) (e := e) (j := j) (show e < m by omega)
          have HC : Hid (∀ W, Below w.heap.size w W → (W.cell? ⟨lb, lo + i * 3, none⟩ = some (.int .i64 t.k) ∧ W.cell? ⟨lb, lo + i * 3 + 1, none⟩ = some (.string t.s) ∧ W.cell? ⟨lb, lo + i * 3 + 2, none⟩ = some (.int .i64 t.n)) ∧ (W.cell? ⟨ab, ao + j * 3, none⟩ = some (.int .i64 x.k) ∧ W.cell? ⟨ab, ao + j * 3 + 1, none⟩ = some (.string x.s) ∧ W.cell? ⟨ab, ao + j * 3 + 2, none⟩ = some (.int .i64 x.n))) :=
            phide (fun W hB => by
              have k1 := punhide HL W hB i hia
              have k2 := punhide HA W hB j hja
              rw [ht] at k1
              rw [hx] at k2
              exact ⟨k1, k2⟩)
          have hS : Below w.heap.size w wr.drew := hB.drew
          have hi' : (i : Int) < (n : Int) := by omega
          have hj' : (j : Int) < (m : Int) := by omega
          obtain ⟨y, hy⟩ : ∃ y, Pm.leadB t x = y := ⟨_, rfl⟩
          rw [hy] at HY HN
          clear hn hm ht hx hia hja HL HA HQ HI c1 c2 x0 x1 x2 h5
          go_wp2_with fail
          go_cut [30] from 9 to 57 (fun v wx => v = .bool y ∧ Below w.heap.size w wx)
          case first =>
            clear HY HN hmy hmn
            by_cases h12 : t.k = 1 ∨ t.k = 2
            · obtain ⟨u, hu⟩ : ∃ u, Pm.bareS t = u := ⟨_, rfl⟩
              have CL := fun W => leads_1 t u h12 hu W
              have CW : ∀ g W, StepAt W g 0 u → g < W.heap.size → _ := fun g W h1 h2 => want_any t u x g y (by rw [← hy, ← hu]; unfold Pm.leadB; rw [if_pos h12]) W h1 h2
              obtain ⟨tk, ts, tn⟩ := t
              obtain ⟨xk, xs, xn⟩ := x
              unfold valS at *
              simp only [] at *
              clear hy hu h12 hi hj
              go_region_held3 (fun w' => (w'.cell? ⟨lb, lo + i * 3, none⟩ = some (.int .i64 tk) ∧ w'.cell? ⟨lb, lo + i * 3 + 1, none⟩ = some (.string ts) ∧ w'.cell? ⟨lb, lo + i * 3 + 2, none⟩ = some (.int .i64 tn)) ∧ (w'.cell? ⟨ab, ao + j * 3, none⟩ = some (.int .i64 xk) ∧ w'.cell? ⟨ab, ao + j * 3 + 1, none⟩ = some (.string xs) ∧ w'.cell? ⟨ab, ao + j * 3 + 2, none⟩ = some (.int .i64 xn))) (exact punhide HC _ hS)
                (first | (go_at_call 94; refine (CL _).mono ?_; rintro e9 w2 ⟨g9, rfl, b9, hg9, hs9⟩; replace hS := hS.trans (b9.mono hS.size); clear b9) | (go_at_call 121; refine (CW _ _ hs9 hg9).mono ?_; rintro e9 w3 ⟨rfl, b9⟩; replace hS := hS.trans (b9.mono hS.size); clear b9))
              all_goals
                go_wp2_with fail
                go_meet
                exact ⟨rfl, hS⟩
            by_cases h3 : t.k = 3
            · have CL := fun W => leads_3 t h3 W
              have CW := fun W => kind1_any x y (by rw [← hy]; unfold Pm.leadB; rw [if_neg h12, if_pos h3]) W
              obtain ⟨tk, ts, tn⟩ := t
              obtain ⟨xk, xs, xn⟩ := x
              unfold valS at *
              simp only [] at *
              clear hy h12 hi hj h3
              go_region_held3 (fun w' => (w'.cell? ⟨lb, lo + i * 3, none⟩ = some (.int .i64 tk) ∧ w'.cell? ⟨lb, lo + i * 3 + 1, none⟩ = some (.string ts) ∧ w'.cell? ⟨lb, lo + i * 3 + 2, none⟩ = some (.int .i64 tn)) ∧ (w'.cell? ⟨ab, ao + j * 3, none⟩ = some (.int .i64 xk) ∧ w'.cell? ⟨ab, ao + j * 3 + 1, none⟩ = some (.string xs) ∧ w'.cell? ⟨ab, ao + j * 3 + 2, none⟩ = some (.int .i64 xn))) (exact punhide HC _ hS)
                (first | (go_at_call 94; refine (CL _).mono ?_; rintro e9 w2 ⟨rfl, b9⟩; replace hS := hS.trans (b9.mono hS.size); clear b9) | (go_at_call 122; refine (CW _).mono ?_; rintro e9 w3 ⟨rfl, b9⟩; replace hS := hS.trans (b9.mono hS.size); clear b9))
              all_goals
                go_wp2_with fail
                go_meet
                exact ⟨rfl, hS⟩
            by_cases h4 : t.k = 4
            · have CL := fun W => leads_4 t h4 W
              have CW := fun W => kind2_any x y (by rw [← hy]; unfold Pm.leadB; rw [if_neg h12, if_neg h3, if_pos h4]) W
              obtain ⟨tk, ts, tn⟩ := t
              obtain ⟨xk, xs, xn⟩ := x
              unfold valS at *
              simp only [] at *
              clear hy h12 hi hj h3 h4
              go_region_held3 (fun w' => (w'.cell? ⟨lb, lo + i * 3, none⟩ = some (.int .i64 tk) ∧ w'.cell? ⟨lb, lo + i * 3 + 1, none⟩ = some (.string ts) ∧ w'.cell? ⟨lb, lo + i * 3 + 2, none⟩ = some (.int .i64 tn)) ∧ (w'.cell? ⟨ab, ao + j * 3, none⟩ = some (.int .i64 xk) ∧ w'.cell? ⟨ab, ao + j * 3 + 1, none⟩ = some (.string xs) ∧ w'.cell? ⟨ab, ao + j * 3 + 2, none⟩ = some (.int .i64 xn))) (exact punhide HC _ hS)
                (first | (go_at_call 94; refine (CL _).mono ?_; rintro e9 w2 ⟨rfl, b9⟩; replace hS := hS.trans (b9.mono hS.size); clear b9) | (go_at_call 123; refine (CW _).mono ?_; rintro e9 w3 ⟨rfl, b9⟩; replace hS := hS.trans (b9.mono hS.size); clear b9))
              all_goals
                go_wp2_with fail
                go_meet
                exact ⟨rfl, hS⟩
            obtain rfl : y = false := by rw [← hy]; unfold Pm.leadB; rw [if_neg h12, if_neg h3, if_neg h4]
            have CL := fun W => leads_0 t (fun h => h12 (.inl h)) (fun h => h12 (.inr h)) h3 h4 W
            have CW := fun W => none_any x W
            obtain ⟨tk, ts, tn⟩ := t
            obtain ⟨xk, xs, xn⟩ := x
            unfold valS at *
            simp only [] at *
            clear hy h12 hi hj h3 h4
            go_region_held3 (fun w' => (w'.cell? ⟨lb, lo + i * 3, none⟩ = some (.int .i64 tk) ∧ w'.cell? ⟨lb, lo + i * 3 + 1, none⟩ = some (.string ts) ∧ w'.cell? ⟨lb, lo + i * 3 + 2, none⟩ = some (.int .i64 tn)) ∧ (w'.cell? ⟨ab, ao + j * 3, none⟩ = some (.int .i64 xk) ∧ w'.cell? ⟨ab, ao + j * 3 + 1, none⟩ = some (.string xs) ∧ w'.cell? ⟨ab, ao + j * 3 + 2, none⟩ = some (.int .i64 xn))) (exact punhide HC _ hS)
              (first | (go_at_call 94; refine (CL _).mono ?_; rintro e9 w2 ⟨rfl, b9⟩; replace hS := hS.trans (b9.mono hS.size); clear b9) | (go_at_call 124; refine (CW _).mono ?_; rintro e9 w3 ⟨rfl, b9⟩; replace hS := hS.trans (b9.mono hS.size); clear b9))
            all_goals
              go_wp2_with fail
              go_meet
              exact ⟨rfl, hS⟩
          case rest =>
            replace hS := hcut.2
            obtain rfl := hcut.1
            clear HC c0 d5 hy hi' hj'
            cases y
            · have HN2 := phide (punhide HN rfl)
              clear HY HN hmy
              by_cases hd0 : d = 0
              · have HF := phide ((punhide HN2).1 hd0)
                subst hd0
                clear HN2
                go_wp2
                go_ret
                exact ⟨by rw [punhide HF]; rfl, hS⟩
              · have HF := phide ((punhide HN2).2 (by omega))
                have hd1 : decide (0 < (d : Int)) = true := decide_eq_true (by omega)
                clear HN2
                go_wp2
                go_roundw
                case rel => exact ⟨d, e + 1, d, e + 1, rfl, by go_num, rfl, by go_num, HF, hS⟩
                case measure => simp [intOf]; (first | exact hmn | (have e1 : ((e : Int) + 1).toNat = e + 1 := by omega; simpa [e1] using hmn))
            · have HY2 := phide (punhide HY rfl)
              clear HY HN hmn
              go_wp2
              go_roundw
              case rel => exact ⟨i + 1, j + 1, d, e, by go_num, by go_num, rfl, rfl, HY2, hS⟩
              case measure => simp [intOf]; (first | exact hmy | (have e1 : ((j : Int) + 1).toNat = j + 1 := by omega; simpa [e1] using hmy))
      · have HN2 : Hid ((d = 0 → q = false) ∧ (0 < d → Pm.Inv l a d (e + 1) d (e + 1))) := phide (by
          have := (punhide HI).no hja (Pm.R_no hja (by omega) (fun h => absurd h (by omega)))
          rwa [punhide HQ] at this)
        have di : decide ((i : Int) < (n : Int)) = false := decide_eq_false (by omega)
        have hmn := Pm.left_no (L := n) (N := m) (d := d) (e := e) (j := j) (show e < m by omega)
        have hS : ∀ k, Below w.heap.size w (wr.drewN k) := fun k => hB.trans ⟨rfl, rfl, rfl, Nat.le_refl _, fun _ _ => rfl⟩
        clear hn hm hja HL HA HQ HI
        by_cases hd0 : d = 0
        · have HF := phide ((punhide HN2).1 hd0)
          subst hd0
          clear HN2
          go_wp2_with fail
          go_quiet (fail)
          all_goals
            go_wp2
            go_ret
            exact ⟨by rw [punhide HF]; rfl, hS _⟩
        · have HF := phide ((punhide HN2).2 (by omega))
          have hd1 : decide (0 < (d : Int)) = true := decide_eq_true (by omega)
          clear HN2
          go_wp2_with fail
          go_quiet (fail)
          all_goals
            go_wp2
            go_roundw
            case rel => exact ⟨d, e + 1, d, e + 1, rfl, by go_num, rfl, by go_num, HF, hS _⟩
            case measure => simp [intOf]; (first | exact hmn | (have e1 : ((e : Int) + 1).toNat = e + 1 := by omega; simpa [e1] using hmn))
    · have hjm2 : j = m := by omega
      have HR : Hid (Pm.R l a i a.length = q) := phide (by
        have h := punhide HI
        rw [show j = a.length by omega] at h
        rw [← h.last]; exact punhide HQ)
      have dj : decide ((j : Int) < (m : Int)) = false := decide_eq_false (by omega)
      clear HA HQ HI hdi hej
      go_wp2
      go_loop [5] (fun vi => ∃ i : Nat, i ≤ n ∧ vi = .int .i64 (i : Int) ∧ Hid (Pm.R l a i a.length = q)) (fun vi => n - (intOf vi).toNat)
      case atStart => exact ⟨i, hil, rfl, HR⟩
      case round =>
        clear HR hil dj
        obtain ⟨k, hk, rfl, HR⟩ := hrel
        by_cases hlt : k < n
        · have hkl : k < l.length := by omega
          obtain ⟨c0, c1, c2⟩ := punhide HL _ hB k hkl
          by_cases h5 : (l[k]'hkl).k = 5
          · have HR2 := phide ((Pm.R_last hkl h5).symm.trans (punhide HR))
            rw [h5] at c0
            clear c1 c2 h5 HR hn hm
            go_wp2
            go_round
            case rel => exact ⟨k + 1, by omega, by go_num, HR2⟩
            case measure => simp [intOf]; omega
          · have HF := phide ((Pm.R_none (a := a) hkl h5).symm.trans (punhide HR))
            obtain ⟨z, hz⟩ : ∃ z, (l[k]'hkl).k = z := ⟨_, rfl⟩
            rw [hz] at c0 h5
            have d5 : (z == 5) = false := beq_eq_false_iff_ne.2 h5
            have dk : ((k : Int) == (n : Int)) = false := beq_eq_false_iff_ne.2 (by omega)
            clear c1 c2 h5 HR hn hm hz
            go_wp2
            go_ret
            exact ⟨by rw [← punhide HF]; rfl, hB⟩
        · have hkn : k = n := by omega
          have HF : Hid (true = q) := phide (by have h := punhide HR; rw [hkn, ← hn, Pm.R_end] at h; exact h)
          have dk : decide ((k : Int) < (n : Int)) = false := decide_eq_false (by omega)
          have dk2 : ((k : Int) == (n : Int)) = true := beq_iff_eq.2 (by omega)
          clear HR hn hm hkn HL
          go_wp2
          go_ret
          exact ⟨by rw [← punhide HF]; rfl, hB⟩
end Go.Proofs.YtnagecbepidfiaaGreatDoor.Np
