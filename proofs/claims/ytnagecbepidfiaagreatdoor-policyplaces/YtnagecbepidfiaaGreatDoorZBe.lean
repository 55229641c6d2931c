/- What is proved here: what bare, leads and the tests that leads answers do, walked; conditions: as each theorem states. What is proved here: what few, place, key and at of the laws, and the document's own Same, do with rows of steps that lie, walked; conditions: as each theorem states. What is proved here: what place, key and at of the laws, and the document's own Same, do with rows of steps that lie, walked; conditions: as each theorem states. What is proved here: what Match of package path does with two rows of steps that lie, walked; conditions: as the theorem states. Written by match_gen.py. -/
import Derived.Test.YtnagecbepidfiaaGreatDoorRows
import Derived.WalkKit
import Derived.WalkSpells
import Derived.WalkLawsBesides
import Derived.BigCall
import Derived.BigQuiet
import Derived.Handy
import Derived.Laws.StructEq
import Derived.Deep.RegionHeld3
import Derived.Test.YtnagecbepidfiaaGreatDoorZAb
import Derived.OwnWalk
import Derived.Deep.AppendLies
import Derived.Deep.DeepCutAuto
import Derived.Deep.CutRange
import Derived.Deep.CutBlock
import Derived.Deep.RegionWith
namespace Go.Proofs.YtnagecbepidfiaaGreatDoor.Np
set_option maxRecDepth 100000
open Go.RowKit
set_option linter.unusedVariables false
set_option linter.unusedSimpArgs false

theorem phide {p : Prop} (h : p) : Hid p := h
theorem punhide {p : Prop} (h : Hid p) : p := h
def valS (t : Pm.St) : Value := .agg #[.int .i64 t.k, .string t.s, .int .i64 t.n]
/-- A step in memory. -/
def StepAt (w : World) (b p : Nat) (t : Pm.St) : Prop := w.cell? ⟨b, p, none⟩ = some (.int .i64 t.k) ∧ w.cell? ⟨b, p + 1, none⟩ = some (.string t.s) ∧ w.cell? ⟨b, p + 2, none⟩ = some (.int .i64 t.n)
/-- A row of steps in memory. -/
def RowSt (w : World) (b o : Nat) (L : List Pm.St) : Prop := b < w.heap.size ∧ ∀ i, ∀ h : i < L.length, StepAt w b (o + i * 3) (L[i]'h)
theorem StepAt.step {w w' : World} {b p : Nat} {t : Pm.St} (h : StepAt w b p t) (hb : b < w.heap.size) (hB : Below w.heap.size w w') : StepAt w' b p t :=
  ⟨(hB.cell (p := ⟨b, p, none⟩) hb).trans h.1, (hB.cell (p := ⟨b, p + 1, none⟩) hb).trans h.2.1, (hB.cell (p := ⟨b, p + 2, none⟩) hb).trans h.2.2⟩
theorem RowSt.step {w w' : World} {b o : Nat} {L : List Pm.St} (h : RowSt w b o L) (hB : Below w.heap.size w w') : RowSt w' b o L :=
  ⟨Nat.lt_of_lt_of_le h.1 hB.size, fun i hi => (h.2 i hi).step h.1 hB⟩

theorem bare_any (t u : Pm.St) (hu : Pm.bareS t = u) (w : World) : Calls Tryz.prog 120 #[valS t] w fun e w' => e = .returned (valS u) ∧ Below w.heap.size w w' := by
  obtain ⟨k, s, n⟩ := t
  by_cases h1 : k = 1
  · obtain rfl : u = ⟨1, s, 0⟩ := by rw [← hu]; unfold Pm.bareS; rw [if_pos h1]
    subst h1
    clear hu
    unfold valS
    go_enter Tryz.func120, Tryz.ntmps120
    go_wp2
    go_returns
    exact ⟨rfl, by go_grown⟩
  · have b1 : (k == 1) = false := beq_eq_false_iff_ne.2 h1
    by_cases h2 : k = 2
    · obtain rfl : u = ⟨2, Pm.nul, n⟩ := by rw [← hu]; unfold Pm.bareS; rw [if_neg h1, if_pos h2]
      subst h2
      clear hu h1
      unfold valS
      go_enter Tryz.func120, Tryz.ntmps120
      go_wp2
      go_returns
      exact ⟨rfl, by go_grown⟩
    · have b2 : (k == 2) = false := beq_eq_false_iff_ne.2 h2
      obtain rfl : u = ⟨k, Pm.nul, 0⟩ := by rw [← hu]; unfold Pm.bareS; rw [if_neg h1, if_neg h2]
      clear hu h1 h2
      unfold valS
      go_enter Tryz.func120, Tryz.ntmps120
      go_wp2
      go_returns
      exact ⟨rfl, by go_grown⟩

theorem step_type : Tryz.prog.underlying 57 = some (.struct (Tryz.prog.fieldsOf 57)) := by kernel_rfl
theorem step_held : Tryz.prog.stoodInHeld 57 = false := by kernel_rfl
theorem step_guard : Tryz.prog.eqGuardType Tryz.prog.depth 57 = false := by kernel_rfl
theorem step_fields : (Tryz.prog.fieldsOf 57).toList.map (fun f => (f.name, f.type, f.offset)) = [("Kind", 3, 0), ("Key", 9, 1), ("N", 3, 2)] := by kernel_rfl
theorem three {α : Type} {l : List α} (h : l.length = 3) : ∃ a b c, l = [a, b, c] := by
  match l, h with
  | [a, b, c], _ => exact ⟨a, b, c, rfl⟩
theorem bytes_list {s u : ByteArray} : s.toList = u.toList ↔ s = u := by
  rw [ByteArray.toList_eq, ByteArray.toList_eq]
  constructor
  · intro h; obtain ⟨⟨x⟩⟩ := s; obtain ⟨⟨y⟩⟩ := u; simp only at h; rw [h]
  · rintro rfl; rfl
theorem step_three : ∃ f0 f1 f2 : Field, (Tryz.prog.fieldsOf 57).toList = [f0, f1, f2] ∧ (f0.name = "Kind" ∧ f0.type = 3 ∧ f0.offset = 0) ∧ (f1.name = "Key" ∧ f1.type = 9 ∧ f1.offset = 1) ∧ (f2.name = "N" ∧ f2.type = 3 ∧ f2.offset = 2) := by
  have h := step_fields
  obtain ⟨f0, f1, f2, hl⟩ := three (l := (Tryz.prog.fieldsOf 57).toList) (by have := congrArg List.length h; rwa [List.length_map] at this)
  rw [hl] at h ⊢
  simp only [List.map_cons, List.map_nil, List.cons.injEq, Prod.mk.injEq, and_true] at h
  exact ⟨f0, f1, f2, rfl, h.1, h.2.1, h.2.2⟩
theorem eq_step (a b c : Int) (s u : ByteArray) (d : Int) (w : World) : (binOp .eql 57 (.agg #[.int .i64 a, .string s, .int .i64 c]) (.agg #[.int .i64 b, .string u, .int .i64 d])).run Tryz.prog w = .ok (.bool (decide ((⟨a, s, c⟩ : Pm.St) = ⟨b, u, d⟩))) w := by
  obtain ⟨f0, f1, f2, hl, ⟨n0, t0, o0⟩, ⟨n1, t1, o1⟩, ⟨n2, t2, o2⟩⟩ := step_three
  rw [run_eql_struct, run_equalIn_struct _ _ _ _ _ step_type step_held, hl]
  have u3 := Tryz.underlying3
  have u9 := Tryz.underlying9
  simp only [Op.eqFields, n0, n1, n2, t0, t1, t2, o0, o1, o2]
  simp only [Pm.St.mk.injEq, ← bytes_list]
  simp [go_sem, u3, u9]
  by_cases h1 : a = b <;> by_cases h2 : s.toList = u.toList <;> by_cases h3 : c = d <;> simp [h1, h2, h3]
theorem guard_step (x y : Operand) (xs ys : Array Value) (w : World) : (eqGuard .eql 57 x y (.agg xs) (.agg ys)).run Tryz.prog w = .ok () w := run_eqGuard_agg _ _ _ _ _ _ _ step_guard
theorem eq_step' (x y : Pm.St) (q : Bool) (h : decide (x = y) = q) (w : World) : (binOp .eql 57 (.agg #[.int .i64 x.k, .string x.s, .int .i64 x.n]) (.agg #[.int .i64 y.k, .string y.s, .int .i64 y.n])).run Tryz.prog w = .ok (.bool q) w := by
  rw [eq_step, ← h]
theorem neq_step' (x y : Pm.St) (q : Bool) (h : (!decide (x = y)) = q) (w : World) : (binOp .neq 57 (.agg #[.int .i64 x.k, .string x.s, .int .i64 x.n]) (.agg #[.int .i64 y.k, .string y.s, .int .i64 y.n])).run Tryz.prog w = .ok (.bool q) w := by
  have h1 := eq_step x.k y.k x.n x.s y.s y.n w
  rw [run_eql_struct] at h1
  rw [run_neq_struct, ← h]
  generalize (Op.equalIn 10000 57 (Value.agg #[.int .i64 x.k, .string x.s, .int .i64 x.n]) (Value.agg #[.int .i64 y.k, .string y.s, .int .i64 y.n])).run Tryz.prog w = r at *
  cases r with
  | ok b w' =>
    simp only [Result.andThen_ok, Result.ok.injEq, Value.bool.injEq] at h1 ⊢
    obtain ⟨rfl, rfl⟩ := h1
    exact ⟨rfl, rfl⟩
  | halt h w' => simp [Result.andThen] at h1
theorem guard_stepN (x y : Operand) (xs ys : Array Value) (w : World) : (eqGuard .neq 57 x y (.agg xs) (.agg ys)).run Tryz.prog w = .ok () w := run_eqGuard_agg _ _ _ _ _ _ _ step_guard
/-- The test of one step alone, with what it wants laid in a block. -/
theorem want_any (t u x : Pm.St) (g : Nat) (q : Bool) (hq : decide (Pm.bareS x = u) = q) (w : World) (hu : StepAt w g 0 u) (hg : g < w.heap.size) : Calls Tryz.prog 121 #[valS x, .pointer (some ⟨g, 0, none⟩)] w fun e w' => e = .returned (.bool q) ∧ Below w.heap.size w w' := by
  have HQ := phide hq
  obtain ⟨b, hb⟩ : ∃ b, Pm.bareS x = b := ⟨_, rfl⟩
  have CB := fun W => bare_any x b hb W
  have hq2 : decide (b = u) = q := by rw [← hb]; exact hq
  have hEQ := fun w => eq_step' b u q hq2 w
  have hGD := guard_step
  clear HQ
  have hv : valS x = .agg #[.int .i64 x.k, .string x.s, .int .i64 x.n] := rfl
  obtain ⟨xk, xs, xn⟩ := x
  obtain ⟨bk, bs, bn⟩ := b
  obtain ⟨uk, us, un⟩ := u
  unfold valS at *
  simp only [] at *
  clear hq hb hv hq2
  obtain ⟨h1, h2, h3⟩ := hu
  go_enter Tryz.func121, Tryz.ntmps121
  go_wp2_with fail
  have hB0 : Below w.heap.size w (w.alloc (.cells #[.int .i64 xk, .string xs, .int .i64 xn] 57)) := (Below.refl _ _).alloc (Nat.le_refl _) _
  have b0 : (w.alloc (.cells #[.int .i64 xk, .string xs, .int .i64 xn] 57)).cell? ⟨w.heap.size, 0, none⟩ = some (.int .i64 xk) := by go_simp
  have b1 : (w.alloc (.cells #[.int .i64 xk, .string xs, .int .i64 xn] 57)).cell? ⟨w.heap.size, 1, none⟩ = some (.string xs) := by go_simp
  have b2 : (w.alloc (.cells #[.int .i64 xk, .string xs, .int .i64 xn] 57)).cell? ⟨w.heap.size, 2, none⟩ = some (.int .i64 xn) := by go_simp
  have hlt : w.heap.size < (w.alloc (.cells #[.int .i64 xk, .string xs, .int .i64 xn] 57)).heap.size := by simp
  generalize w.alloc (.cells #[.int .i64 xk, .string xs, .int .i64 xn] 57) = W4 at *
  generalize hbb : w.heap.size = B at *
  have HBB := phide hbb
  clear hbb
  have HSB : Hid (∀ W, Below W4.heap.size W4 W → (W.cell? ⟨g, 0, none⟩ = some (.int .i64 uk) ∧ W.cell? ⟨g, 1, none⟩ = some (.string us) ∧ W.cell? ⟨g, 2, none⟩ = some (.int .i64 un)) ∧ (W.cell? ⟨B, 0, none⟩ = some (.int .i64 xk) ∧ W.cell? ⟨B, 1, none⟩ = some (.string xs) ∧ W.cell? ⟨B, 2, none⟩ = some (.int .i64 xn))) :=
    phide (fun W hB => ⟨⟨(hB.cell (p := ⟨g, 0, none⟩) (by simp; omega)).trans ((hB0.cell (p := ⟨g, 0, none⟩) hg).trans h1), (hB.cell (p := ⟨g, 1, none⟩) (by simp; omega)).trans ((hB0.cell (p := ⟨g, 1, none⟩) hg).trans h2), (hB.cell (p := ⟨g, 2, none⟩) (by simp; omega)).trans ((hB0.cell (p := ⟨g, 2, none⟩) hg).trans h3)⟩, ⟨(hB.cell (p := ⟨B, 0, none⟩) hlt).trans b0, (hB.cell (p := ⟨B, 1, none⟩) hlt).trans b1, (hB.cell (p := ⟨B, 2, none⟩) hlt).trans b2⟩⟩)
  have HE : Hid (∀ W, Below W4.heap.size W4 W → Below B w W) := phide (fun W hB => hB0.trans (hB.mono (Nat.le_of_lt hlt)))
  have hS : Below W4.heap.size W4 W4.drew := (Below.refl _ _).drew
  clear h1 h2 h3 b0 b1 b2 hB0 hlt hg
  go_region_held3 (fun w' => (w'.cell? ⟨g, 0, none⟩ = some (.int .i64 uk) ∧ w'.cell? ⟨g, 1, none⟩ = some (.string us) ∧ w'.cell? ⟨g, 2, none⟩ = some (.int .i64 un)) ∧ (w'.cell? ⟨B, 0, none⟩ = some (.int .i64 xk) ∧ w'.cell? ⟨B, 1, none⟩ = some (.string xs) ∧ w'.cell? ⟨B, 2, none⟩ = some (.int .i64 xn))) (exact punhide HSB _ hS)
    (first | (go_at_call 120; refine (CB _).mono ?_; rintro e w2 ⟨rfl, b9⟩; replace hS := hS.trans (b9.mono hS.size); clear b9))
  all_goals
    go_wp2
    go_ret
    exact ⟨rfl, by rw [punhide HBB]; exact punhide HE _ hS⟩
theorem kind1_any (x : Pm.St) (q : Bool) (hq : decide (x.k = 1) = q) (w : World) : Calls Tryz.prog 122 #[valS x] w fun e w' => e = .returned (.bool q) ∧ Below w.heap.size w w' := by
  obtain ⟨k, s, n⟩ := x
  have d1 : (k == 1) = q := by rw [← hq]; rfl
  unfold valS
  clear hq
  go_enter Tryz.func122, Tryz.ntmps122
  go_wp2
  go_returns
  exact ⟨rfl, by go_grown⟩
theorem kind2_any (x : Pm.St) (q : Bool) (hq : decide (x.k = 2) = q) (w : World) : Calls Tryz.prog 123 #[valS x] w fun e w' => e = .returned (.bool q) ∧ Below w.heap.size w w' := by
  obtain ⟨k, s, n⟩ := x
  have d1 : (k == 2) = q := by rw [← hq]; rfl
  unfold valS
  clear hq
  go_enter Tryz.func123, Tryz.ntmps123
  go_wp2
  go_returns
  exact ⟨rfl, by go_grown⟩
theorem none_any (x : Pm.St) (w : World) : Calls Tryz.prog 124 #[valS x] w fun e w' => e = .returned (.bool false) ∧ Below w.heap.size w w' := by
  obtain ⟨k, s, n⟩ := x
  unfold valS
  go_enter Tryz.func124, Tryz.ntmps124
  go_wp2
  go_returns
  exact ⟨rfl, by go_grown⟩
theorem leads_3 (t : Pm.St) (h : t.k = 3) (w : World) : Calls Tryz.prog 94 #[valS t] w fun e w' => e = .returned (.func (.func 122) #[] #[]) ∧ Below w.heap.size w w' := by
  obtain ⟨k, s, n⟩ := t
  obtain rfl : k = 3 := h
  unfold valS
  go_enter Tryz.func94, Tryz.ntmps94
  go_wp2
  go_returns
  exact ⟨rfl, by go_grown⟩
theorem leads_4 (t : Pm.St) (h : t.k = 4) (w : World) : Calls Tryz.prog 94 #[valS t] w fun e w' => e = .returned (.func (.func 123) #[] #[]) ∧ Below w.heap.size w w' := by
  obtain ⟨k, s, n⟩ := t
  obtain rfl : k = 4 := h
  unfold valS
  go_enter Tryz.func94, Tryz.ntmps94
  go_wp2
  go_returns
  exact ⟨rfl, by go_grown⟩
theorem leads_0 (t : Pm.St) (h1 : t.k ≠ 1) (h2 : t.k ≠ 2) (h3 : t.k ≠ 3) (h4 : t.k ≠ 4) (w : World) : Calls Tryz.prog 94 #[valS t] w fun e w' => e = .returned (.func (.func 124) #[] #[]) ∧ Below w.heap.size w w' := by
  obtain ⟨k, s, n⟩ := t
  have d1 : (k == 1) = false := beq_eq_false_iff_ne.2 h1
  have d2 : (k == 2) = false := beq_eq_false_iff_ne.2 h2
  have d3 : (k == 3) = false := beq_eq_false_iff_ne.2 h3
  have d4 : (k == 4) = false := beq_eq_false_iff_ne.2 h4
  unfold valS
  clear h1 h2 h3 h4
  go_enter Tryz.func94, Tryz.ntmps94
  go_wp2
  go_returns
  exact ⟨rfl, by go_grown⟩
theorem leads_1 (t u : Pm.St) (h : t.k = 1 ∨ t.k = 2) (hu : Pm.bareS t = u) (w : World) : Calls Tryz.prog 94 #[valS t] w fun e w' => ∃ g, e = .returned (.func (.func 121) #[] #[.pointer (some ⟨g, 0, none⟩)]) ∧ Below w.heap.size w w' ∧ g < w'.heap.size ∧ StepAt w' g 0 u := by
  have CB := fun W => bare_any t u hu W
  obtain ⟨k, s, n⟩ := t
  obtain ⟨uk, us, un⟩ := u
  unfold valS at *
  simp only [] at *
  clear hu
  rcases h with h | h
  · obtain rfl : k = 1 := h
    go_enter Tryz.func94, Tryz.ntmps94
    go_wp2_with (go_at_call 120; refine (CB _).mono ?_; rintro e w2 ⟨rfl, b9⟩)
    go_returns
    exact ⟨_, rfl, (((Below.refl _ _).alloc (Nat.le_refl _) _).trans (b9.mono (by simp))).alloc (Nat.le_trans (by simp) b9.size) _, by simp, by refine ⟨?_, ?_, ?_⟩ <;> go_simp⟩
  · obtain rfl : k = 2 := h
    go_enter Tryz.func94, Tryz.ntmps94
    go_wp2_with (go_at_call 120; refine (CB _).mono ?_; rintro e w2 ⟨rfl, b9⟩)
    go_returns
    exact ⟨_, rfl, (((Below.refl _ _).alloc (Nat.le_refl _) _).trans (b9.mono (by simp))).alloc (Nat.le_trans (by simp) b9.size) _, by simp, by refine ⟨?_, ?_, ?_⟩ <;> go_simp⟩
end Go.Proofs.YtnagecbepidfiaaGreatDoor.Np

namespace Go.Proofs.YtnagecbepidfiaaGreatDoor.Np
set_option maxRecDepth 100000
open Go.RowKit
set_option linter.unusedVariables false
set_option linter.unusedSimpArgs false

/-- A row of steps that came in. -/
def StepsIn (w : World) (a : Option Addr) (n : Nat) (L : List Pm.St) : Prop :=
  L.length = n ∧ (n = 0 ∨ ∃ b o, a = some ⟨b, o, none⟩ ∧ RowSt w b o L)
theorem StepsIn.step {w w' : World} {a : Option Addr} {n : Nat} {L : List Pm.St} (h : StepsIn w a n L) (hB : Below w.heap.size w w') : StepsIn w' a n L := by
  obtain ⟨h1, h2⟩ := h
  refine ⟨h1, ?_⟩
  rcases h2 with h2 | ⟨b, o, e, h2⟩
  · exact .inl h2
  · exact .inr ⟨b, o, e, h2.step hB⟩
def cellsS (t : Pm.St) : List Value := [.int .i64 t.k, .string t.s, .int .i64 t.n]
def rowS (L : List Pm.St) : List Value := L.flatMap cellsS
theorem rowS_len : ∀ L : List Pm.St, (rowS L).length = L.length * 3
  | [] => rfl
  | t :: r => by
    unfold rowS
    rw [List.flatMap_cons, List.length_append, List.length_cons]
    have := rowS_len r
    unfold rowS at this
    rw [this]; simp [cellsS]; omega
theorem rowS_snoc (L : List Pm.St) (t : Pm.St) : rowS (L ++ [t]) = rowS L ++ cellsS t := by unfold rowS; rw [List.flatMap_append]; simp
theorem rowS_app (L M : List Pm.St) : rowS (L ++ M) = rowS L ++ rowS M := by unfold rowS; rw [List.flatMap_append]
theorem rowS_at : ∀ (L : List Pm.St) (i r : Nat), r < 3 → ∀ h : i < L.length, (rowS L)[i * 3 + r]? = (cellsS (L[i]'h))[r]?
  | [], _, _, _, h => absurd h (by simp)
  | t :: l, 0, r, hr, _ => by
    unfold rowS
    rw [List.flatMap_cons, Nat.zero_mul, Nat.zero_add, List.getElem?_append_left (by simpa [cellsS] using hr)]
    rfl
  | t :: l, i + 1, r, hr, h => by
    unfold rowS
    rw [List.flatMap_cons, List.getElem?_append_right (by simp [cellsS]; omega)]
    have := rowS_at l i r hr (by simpa using h)
    unfold rowS at this
    simp only [cellsS, List.length_cons, List.length_nil]
    rw [show (i + 1) * 3 + r - (0 + 1 + 1 + 1) = i * 3 + r by omega]
    exact this
theorem rowS_one {L : List Pm.St} : ∀ u ∈ rowS L, u.oneCell' = true := by
  intro u hu
  obtain ⟨t, _, h⟩ := List.mem_flatMap.1 hu
  simp only [cellsS, List.mem_cons, List.mem_nil_iff, or_false] at h
  rcases h with rfl | rfl | rfl <;> rfl
theorem addS (g i : Nat) : (⟨g, 0, none⟩ : Addr).add i = ⟨g, i, none⟩ := by unfold Addr.add; split <;> simp_all
/-- A row of the call's own lies as a row. -/
theorem rowst_of {w : World} {base g k cap : Nat} {L : List Pm.St} (h : w.ownsRow base 57 3 (.slice (some ⟨g, 0, none⟩) k cap) k (rowS L)) : RowSt w g 0 L := by
  refine ⟨(h.lt g rfl).2, fun i hi => ?_⟩
  have h0 := h.cells (g := g) rfl (i * 3) (.int .i64 (L[i]'hi).k) (by have := rowS_at L i 0 (by omega) hi; rw [Nat.add_zero] at this; rw [this]; rfl)
  have h1 := h.cells (g := g) rfl (i * 3 + 1) (.string (L[i]'hi).s) (by rw [rowS_at L i 1 (by omega) hi]; rfl)
  have h2 := h.cells (g := g) rfl (i * 3 + 2) (.int .i64 (L[i]'hi).n) (by rw [rowS_at L i 2 (by omega) hi]; rfl)
  rw [addS] at h0 h1 h2
  rw [Nat.zero_add]
  exact ⟨h0, h1, h2⟩
theorem ownS_step {w w' : World} {base g k cap : Nat} {xs : List Value} (h : w.ownsRow base 57 3 (.slice (some ⟨g, 0, none⟩) k cap) k xs) (hB : Below w.heap.size w w') : w'.ownsRow base 57 3 (.slice (some ⟨g, 0, none⟩) k cap) k xs := by
  obtain ⟨h0, h⟩ := h
  refine ⟨h0, ?_⟩
  rcases h with ⟨e, e2⟩ | ⟨g', cap', cur, hv, hg, hh, r⟩
  · exact .inl ⟨e, e2⟩
  · refine .inr ⟨g', cap', cur, hv, hg, ?_, r⟩
    rw [hB.block g' (Array.getElem?_eq_some_iff.1 hh).1]
    exact hh
theorem infoS : (Tryz.prog.info? 57).map (fun i => (i.zero, i.size, i.bytes)) = some (some (.agg #[.int .i64 0, .string ⟨#[]⟩, .int .i64 0]), 3, 32) := by kernel_rfl
theorem newS (w : World) (t : Pm.St) (ty : TypeId) : ∀ j u, (cellsS t)[j]? = some u → (w.alloc (.cells #[.int .i64 t.k, .string t.s, .int .i64 t.n] ty)).cell? ((⟨w.heap.size, 0, none⟩ : Addr).add j) = some u := by
  intro j u h
  rw [addS, World.cell?_alloc_at _ _ _ _ rfl]
  simpa [cellsS] using h

end Go.Proofs.YtnagecbepidfiaaGreatDoor.Np

namespace Go.Proofs.YtnagecbepidfiaaGreatDoor.Np
set_option maxRecDepth 100000
open Go.RowKit
set_option linter.unusedVariables false
set_option linter.unusedSimpArgs false

end Go.Proofs.YtnagecbepidfiaaGreatDoor.Np

namespace Go.Proofs.YtnagecbepidfiaaGreatDoor.Np
set_option maxRecDepth 100000
open Go.RowKit
set_option linter.unusedVariables false
set_option linter.unusedSimpArgs false

end Go.Proofs.YtnagecbepidfiaaGreatDoor.Np
