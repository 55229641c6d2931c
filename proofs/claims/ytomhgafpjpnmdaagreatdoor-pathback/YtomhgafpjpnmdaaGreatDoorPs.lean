/- What is proved here: what shown of the laws of path does (the document's examples), walked; conditions: the tables lie. -/
import Derived.Test.YtomhgafpjpnmdaaGreatDoorPo
import Derived.Test.YtomhgafpjpnmdaaGreatDoorPb
import Derived.Test.YtomhgafpjpnmdaaGreatDoorPd
namespace Go.Proofs.YtomhgafpjpnmdaaGreatDoor
open Go.RowKit
set_option linter.unusedVariables false
set_option linter.unusedSimpArgs false

def tId : ByteArray := ⟨#[105, 100]⟩
def tA : ByteArray := ⟨#[97]⟩
def r1 : ByteArray := ⟨#[42, 42, 46, 105, 100]⟩
def r2 : ByteArray := ⟨#[46, 105, 100]⟩
def r3 : ByteArray := ⟨#[46, 97, 91, 42, 93]⟩
def r4 : ByteArray := ⟨#[91, 42, 93]⟩
/-- What readStep answers at the document's examples. -/
def RDs (r : ByteArray) : Pm.St × Nat := if r = r1 then (⟨5, Pm.nul, 0⟩, 2) else if r = r2 then (⟨1, tId, 0⟩, 3) else if r = r3 then (⟨1, tA, 0⟩, 2) else if r = r4 then (⟨4, Pm.nul, 0⟩, 3) else (⟨0, Pm.nul, 0⟩, 0)
def Ps (r : ByteArray) : Prop := r = r1 ∨ r = r2 ∨ r = r3 ∨ r = r4 ∨ r.size = 0
theorem iter_below (w : World) (s : ByteArray) (pos : Nat) : Below w.heap.size w (w.iter s pos) := (Below.refl _ _).alloc (Nat.le_refl _) _
theorem idx_short (s : ByteArray) (h8 : s.size ≤ 8) (ha : ∀ (j : Nat) b, s.data.toList[j]? = some b → b.toNat < 128) (i : Int) (hi : Lib.indexAny s.data.toList [46, 91, 42] = i) (w : World) :
    Calls Tryz.prog 57 #[.string s, .string ⟨#[46, 91, 42]⟩] w fun e w' => e = .returned (.int .i64 i) ∧ Below w.heap.size w w' := by
  refine (Tryz.strings_IndexAny_short s ⟨#[46, 91, 42]⟩ w (by decide) h8 ha).mono ?_
  rintro e w' ⟨rfl, pos, rfl⟩
  exact ⟨by rw [← hi], iter_below _ _ _⟩
theorem ascii_list (s : ByteArray) (h : s.data.toList.all (fun b => decide (b.toNat < 128)) = true) : ∀ (j : Nat) b, s.data.toList[j]? = some b → b.toNat < 128 := by
  intro j b hj
  have := List.all_eq_true.1 h b (List.mem_of_getElem? hj)
  exact of_decide_eq_true this
theorem shown_steps : ∀ r, Ps r → r.size ≠ 0 → (RDs r).2 ≤ r.size ∧ (mayB (RDs r).1 = true → prL (RDs r).1 = r.data.toList.take (RDs r).2 → Ps (r.extract (RDs r).2 r.size)) ∧
    ∀ W, Tabs W → Pow W → True → Calls Tryz.prog 37 #[.string r] W fun e w' => e = .returned (stV (RDs r).1 (RDs r).2) ∧ Below W.heap.size W w' := by
  intro r hr h0
  rcases hr with rfl | rfl | rfl | rfl | hr
  · refine ⟨by decide, fun _ _ => .inr (.inl (by decide +kernel)), fun W _ _ _ => step_deep r1 (by decide +kernel) W⟩
  · refine ⟨by decide, fun _ _ => .inr (.inr (.inr (.inr (by decide +kernel)))), fun W _ _ _ => ?_⟩
    refine step_plain r2 (by decide +kernel) (by decide +kernel) (by decide +kernel) (by decide +kernel) ⟨1, tId, 0⟩ 3 W (fun W' _ => ?_)
    exact plainKey_any r2 (by decide) (by decide) tId (by decide +kernel) (-1) 3 (.inl ⟨rfl, rfl⟩) tId (by decide +kernel) (fun W => idx_short tId (by decide) (ascii_list _ (by decide +kernel)) _ (by decide +kernel) W) W'
  · refine ⟨by decide, fun _ _ => .inr (.inr (.inr (.inl (by decide +kernel)))), fun W _ _ _ => ?_⟩
    refine step_plain r3 (by decide +kernel) (by decide +kernel) (by decide +kernel) (by decide +kernel) ⟨1, tA, 0⟩ 2 W (fun W' _ => ?_)
    exact plainKey_any r3 (by decide) (by decide) ⟨#[97, 91, 42, 93]⟩ (by decide +kernel) 1 2 (.inr ⟨1, rfl, rfl, by decide⟩) tA (by decide +kernel) (fun W => idx_short ⟨#[97, 91, 42, 93]⟩ (by decide) (ascii_list _ (by decide +kernel)) _ (by decide +kernel) W) W'
  · refine ⟨by decide, fun _ _ => .inr (.inr (.inr (.inr (by decide +kernel)))), fun W _ _ _ => step_any r4 (by decide +kernel) (by decide +kernel) (by decide +kernel) W⟩
  · exact absurd hr h0
def L1 : List Pm.St := [⟨5, Pm.nul, 0⟩, ⟨1, tId, 0⟩]
def L2 : List Pm.St := [⟨1, tA, 0⟩, ⟨4, Pm.nul, 0⟩]
def L3 : List Pm.St := [⟨1, tA, 0⟩, ⟨2, Pm.nul, 2⟩, ⟨1, tId, 0⟩]
theorem shown_1 : goS RDs 4000 r1 = (true, L1) := by decide +kernel
theorem shown_2 : goS RDs 4000 r3 = (true, L2) := by decide +kernel
theorem shown_m1 : Pm.mt L1 L3 = true := by decide +kernel
theorem shown_m2 : Pm.mt L2 L3 = false := by decide +kernel
theorem shown_m3 : Pm.mt L2 (L3.take 2) = true := by decide +kernel
theorem shown_p : ptL L2 = (⟨#[36, 46, 97, 91, 42, 93]⟩ : ByteArray).data.toList := by decide +kernel
theorem shown_may : ∀ t ∈ L2, mayB t = true := by
  have : L2.all mayB = true := by decide +kernel
  exact List.all_eq_true.1 this
theorem row3_new (w : World) (t0 t1 t2 : Pm.St) (ty : TypeId) : RowSt (w.alloc (.cells #[.int .i64 t0.k, .string t0.s, .int .i64 t0.n, .int .i64 t1.k, .string t1.s, .int .i64 t1.n, .int .i64 t2.k, .string t2.s, .int .i64 t2.n] ty)) w.heap.size 0 [t0, t1, t2] := by
  refine ⟨by simp, fun i hi => ?_⟩
  have hi3 : i = 0 ∨ i = 1 ∨ i = 2 := by simp at hi; omega
  rcases hi3 with rfl | rfl | rfl <;> exact ⟨World.cell?_alloc_at _ _ _ _ rfl, World.cell?_alloc_at _ _ _ _ rfl, World.cell?_alloc_at _ _ _ _ rfl⟩

theorem RowSt.take {w : World} {b o : Nat} {L : List Pm.St} (h : RowSt w b o L) (k : Nat) : RowSt w b o (L.take k) := by
  refine ⟨h.1, fun i hi => ?_⟩
  rw [List.length_take] at hi
  rw [List.getElem_take]
  exact h.2 i (by omega)
theorem RowSt.drop {w : World} {b o : Nat} {L : List Pm.St} (h : RowSt w b o L) (k : Nat) : RowSt w b (o + k * 3) (L.drop k) := by
  refine ⟨h.1, fun i hi => ?_⟩
  rw [List.length_drop] at hi
  rw [List.getElem_drop, Nat.add_assoc, ← Nat.add_mul]
  exact h.2 (k + i) (by omega)
theorem parse_two (s r : ByteArray) (hs : s.data.toList = 36 :: r.data.toList) (hr : r.size ≤ 4000) (hP : Ps r) (x y : Pm.St) (hG : goS RDs 4000 r = (true, [x, y])) (w : World) (hT : Tabs w) (hPw : Pow w) :
    Calls Tryz.prog 15 #[.string s] w fun e w' => Below w.heap.size w w' ∧ ∃ g o c, e = .returned (.tuple #[.slice (some ⟨g, o, none⟩) 2 c, .int .i64 0]) ∧ RowSt w' g o [x, y] := by
  refine (parse_any s r hs hr RDs Ps (fun _ => True) hP shown_steps true _ hG w hT hPw (fun _ _ => trivial)).mono ?_
  rintro e w' ⟨hB, _, _, h⟩
  obtain ⟨a, c, rfl, h1, h2⟩ := h rfl (by simp)
  obtain ⟨b, o, rfl, h3⟩ := h2.resolve_left (by simp)
  exact ⟨hB, b, o, c, rfl, h3⟩
set_option maxRecDepth 100000 in
set_option maxHeartbeats 4000000 in
theorem pshown_any (w : World) (hT : Tabs w) (hP : Pow w) : Calls Tryz.prog 8 #[] w fun e w' => e = .returned (.bool true) ∧ Below w.heap.size w w' := by
  have C1 := fun W => parse_two ⟨#[36, 42, 42, 46, 105, 100]⟩ r1 (by decide +kernel) (by decide) (.inl rfl) _ _ shown_1 W
  have C2 := fun W => parse_two ⟨#[36, 46, 97, 91, 42, 93]⟩ r3 (by decide +kernel) (by decide) (.inr (.inr (.inl rfl))) _ _ shown_2 W
  go_enter Tryz.func8, Tryz.ntmps8
  go_wp2_with fail
  refine (C1 _ hT hP).mono ?_
  rintro e w1 ⟨hB, lb, lo, lc, rfl, hl⟩
  clear C1
  go_wp2_with fail
  refine (C2 _ (tabs_step hT hB) (hP.next hB)).mono ?_
  rintro e w2 ⟨b2, mb, mo, mc, rfl, hm⟩
  replace hl := hl.step b2
  replace hB := hB.trans (b2.mono hB.size)
  clear C2 b2
  go_wp2_with fail
  refine (key_any tA _).mono ?_
  rintro e w3 ⟨rfl, b3⟩
  replace hl := hl.step b3
  replace hm := hm.step b3
  replace hB := hB.trans (b3.mono hB.size)
  clear b3
  go_wp2_with fail
  refine (at_any 2 _).mono ?_
  rintro e w4 ⟨rfl, b3⟩
  replace hl := hl.step b3
  replace hm := hm.step b3
  replace hB := hB.trans (b3.mono hB.size)
  clear b3
  go_wp2_with fail
  refine (key_any tId _).mono ?_
  rintro e w5 ⟨rfl, b3⟩
  replace hl := hl.step b3
  replace hm := hm.step b3
  replace hB := hB.trans (b3.mono hB.size)
  clear b3
  have hr := row3_new w5 ⟨1, tA, 0⟩ ⟨2, Pm.nul, 2⟩ ⟨1, tId, 0⟩ 33
  have b5 := (Below.refl w5.heap.size w5).alloc (Nat.le_refl _) (.cells #[.int .i64 1, .string tA, .int .i64 0, .int .i64 2, .string Pm.nul, .int .i64 2, .int .i64 1, .string tId, .int .i64 0] 33)
  have hl6 := hl.step b5
  have hm6 := hm.step b5
  have hB6 := hB.trans (b5.mono hB.size)
  clear hl hm hB b5
  unfold tA tId at *
  go_wp2_with fail
  refine (match_any lb lo lc w5.heap.size 0 3 2 3 L1 L3 rfl rfl (by omega) (by omega) true shown_m1 _ hl6 hr).mono ?_
  rintro e w6 ⟨rfl, b6⟩
  have hr6 := hr.step b6
  replace hm6 := hm6.step b6
  replace hB6 := hB6.trans (b6.mono hB6.size)
  clear b6 hl6 hr
  generalize w5.heap.size = pb at *
  go_wp2_with fail
  refine (match_any mb mo mc pb 0 3 2 3 L2 L3 rfl rfl (by omega) (by omega) false shown_m2 _ hm6 hr6).mono ?_
  rintro e w7 ⟨rfl, b6⟩
  replace hr6 := hr6.step b6
  replace hm6 := hm6.step b6
  replace hB6 := hB6.trans (b6.mono hB6.size)
  clear b6
  have hr7 := hr6.take 2
  go_wp2_with fail
  refine (match_any mb mo mc pb 0 3 2 2 L2 (L3.take 2) rfl rfl (by omega) (by omega) true shown_m3 _ hm6 hr7).mono ?_
  rintro e w8 ⟨rfl, b6⟩
  replace hm6 := hm6.step b6
  replace hB6 := hB6.trans (b6.mono hB6.size)
  clear b6 hr6 hr7
  have hP8 : Pow w8 := hP.next hB6
  go_wp2_with fail
  refine (print_any (some ⟨mb, mo, none⟩) 2 mc L2 shown_may (by omega) _ shown_p _ ⟨rfl, .inr ⟨mb, mo, rfl, hm6⟩⟩ hP8).mono ?_
  rintro e w9 ⟨rfl, b6⟩
  replace hB6 := hB6.trans (b6.mono hB6.size)
  go_wp2
  go_ret
  exact ⟨rfl, hB6⟩
end Go.Proofs.YtomhgafpjpnmdaaGreatDoor
