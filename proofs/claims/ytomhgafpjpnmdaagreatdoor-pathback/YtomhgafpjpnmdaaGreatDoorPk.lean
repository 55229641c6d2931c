/- What is proved here: the ways through readStep of package path, by the texts that a text begins with, and readPlainKey, walked; conditions: as each theorem states. Written by readstep_gen.py. -/
import Derived.Test.YtomhgafpjpnmdaaGreatDoorPj
namespace Go.Proofs.YtomhgafpjpnmdaaGreatDoor
open Go.RowKit
set_option linter.unusedVariables false
set_option linter.unusedSimpArgs false

/-- What readStep answers. -/
def stV (t : Pm.St) (n : Nat) : Value := .tuple #[valS t, .int .i64 (n : Int)]
abbrev pfx (s : ByteArray) (p : List UInt8) : Bool := Lib.hasPrefix s.data.toList p
/-- The block of a result that is a step. -/
def Res (B : Nat) (W : World) (g : Nat) : Prop := B ≤ g ∧ g < W.heap.size ∧ (W.cell? ⟨g, 0, none⟩ = some (.int .i64 0) ∧ W.cell? ⟨g, 1, none⟩ = some (.string ⟨#[]⟩) ∧ W.cell? ⟨g, 2, none⟩ = some (.int .i64 0)) ∧ (W.frozen? ⟨g, 0, none⟩ = false ∧ W.frozen? ⟨g, 1, none⟩ = false ∧ W.frozen? ⟨g, 2, none⟩ = false)
theorem Res.new (w : World) : Res w.heap.size (w.alloc (.cells #[.int .i64 0, .string ⟨#[]⟩, .int .i64 0] 33)) w.heap.size :=
  ⟨Nat.le_refl _, by simp, ⟨World.cell?_alloc_at _ _ _ _ rfl, World.cell?_alloc_at _ _ _ _ rfl, World.cell?_alloc_at _ _ _ _ rfl⟩, ⟨World.frozen?_alloc_at _ _ _ _ rfl, World.frozen?_alloc_at _ _ _ _ rfl, World.frozen?_alloc_at _ _ _ _ rfl⟩⟩
theorem Res.next {B g : Nat} {W W' : World} (h : Res B W g) (hB : Below W.heap.size W W') : Res B W' g := by
  obtain ⟨h1, h2, ⟨a0, a1, a2⟩, ⟨f0, f1, f2⟩⟩ := h
  exact ⟨h1, Nat.lt_of_lt_of_le h2 hB.size, ⟨(hB.cell (p := ⟨g, 0, none⟩) h2).trans a0, (hB.cell (p := ⟨g, 1, none⟩) h2).trans a1, (hB.cell (p := ⟨g, 2, none⟩) h2).trans a2⟩,
    ⟨(hB.frozen (p := ⟨g, 0, none⟩) h2).trans f0, (hB.frozen (p := ⟨g, 1, none⟩) h2).trans f1, (hB.frozen (p := ⟨g, 2, none⟩) h2).trans f2⟩⟩
theorem Res.same {B g : Nat} {W : World} (h : Res B W g) : (∀ v, (W.setCell ⟨g, 0, none⟩ v).cell? ⟨g, 0, none⟩ = some v) ∧ (∀ v0 v, ((W.setCell ⟨g, 0, none⟩ v0).setCell ⟨g, 1, none⟩ v).cell? ⟨g, 1, none⟩ = some v) ∧
    (∀ v0 v1 v, (((W.setCell ⟨g, 0, none⟩ v0).setCell ⟨g, 1, none⟩ v1).setCell ⟨g, 2, none⟩ v).cell? ⟨g, 2, none⟩ = some v) := by
  obtain ⟨h1, h2, ⟨a0, a1, a2⟩, _⟩ := h
  have n1 : ∀ {i j : Nat}, i ≠ j → ((⟨g, i, none⟩ : Addr) ≠ ⟨g, j, none⟩) := fun h e => h (Addr.mk.inj e).2.1
  refine ⟨fun v => World.cell?_setCell_same _ _ _ a0, fun v0 v => World.cell?_setCell_same _ _ _ (u := .string ⟨#[]⟩) ?_, fun v0 v1 v => World.cell?_setCell_same _ _ _ (u := .int .i64 0) ?_⟩
  · rw [World.cell?_setCell_other _ _ _ _ (n1 (by decide))]; exact a1
  · rw [World.cell?_setCell_other _ _ _ _ (n1 (by decide)), World.cell?_setCell_other _ _ _ _ (n1 (by decide))]; exact a2
theorem set3 {B g : Nat} {w W : World} (h : Below B w W) (hg : B ≤ g) (x y z : Value) : Below B w (((W.setCell ⟨g, 0, none⟩ x).setCell ⟨g, 1, none⟩ y).setCell ⟨g, 2, none⟩ z) := ((h.setCell hg _).setCell hg _).setCell hg _
set_option maxRecDepth 100000 in
set_option maxHeartbeats 1000000 in
theorem plainKey_any (s : ByteArray) (h1 : 1 ≤ s.size) (hs : s.size ≤ 100000) (r : ByteArray) (hr : s.extract 1 s.size = r) (i : Int) (len : Nat) (hi : (i = -1 ∧ len = s.size) ∨ (∃ j : Nat, i = (j : Int) ∧ len = j + 1 ∧ len ≤ s.size)) (k : ByteArray) (hk : s.extract 1 len = k)
    (CI : ∀ W, Calls Tryz.prog 57 #[.string r, .string ⟨#[46, 91, 42]⟩] W fun e w' => e = .returned (.int .i64 i) ∧ Below W.heap.size W w') (w : World) :
    Calls Tryz.prog 46 #[.string s] w fun e w' => e = .returned (stV ⟨1, k, 0⟩ len) ∧ Below w.heap.size w w' := by
  have c1 : (1 : Int) ≤ (s.size : Int) := by omega
  have hB0 : Below w.heap.size w (w.alloc (.cells #[.int .i64 0, .string ⟨#[]⟩, .int .i64 0] 33)) := (Below.refl _ _).alloc (Nat.le_refl _) _
  have hR := Res.new w
  have hsz : w.heap.size ≤ (w.alloc (.cells #[.int .i64 0, .string ⟨#[]⟩, .int .i64 0] 33)).heap.size := by simp
  have hks : k.size ≤ 1000000 := by rw [← hk, ByteArray.size_extract]; omega
  have CC := fun W => clone_any k W hks
  have h1l : 1 ≤ len := by rcases hi with h | ⟨j, h⟩ <;> omega
  have c3 : (1 : Int) ≤ (len : Int) := by omega
  have c4 : (len : Int) ≤ (s.size : Int) := by rcases hi with h | ⟨j, h⟩ <;> omega
  unfold stV valS
  go_enter Tryz.func46, Tryz.ntmps46
  rcases hi with ⟨rfl, hl⟩ | ⟨j, rfl, rfl, hl2⟩
  · subst hl
    have hkr : r = k := hr.symm.trans hk
    subst hkr
    clear hks h1 hs h1l c3 c4 hk
    go_wp2_with fail
    refine (CI _).mono ?_
    rintro e w2 ⟨rfl, b2⟩
    replace hR := hR.next b2
    replace hB0 := hB0.trans (b2.mono hsz)
    go_wp2_with (go_at_call 58; refine (CC _).mono ?_; rintro e w3 ⟨rfl, b3⟩; have q3 := Nat.le_of_lt hR.2.1; replace hR := hR.next b3; replace hB0 := hB0.trans (b3.mono q3); clear q3 b3; obtain ⟨r1, r2, ⟨a0, a1, a2⟩, ⟨f0, f1, f2⟩⟩ := id hR; obtain ⟨s0, s1, s2⟩ := hR.same)
    (try simp only [Exit.inBlock, Exit.then])
    refine bodyPost_ret (by simp [results, Tryz.results46, go_sem, s0, s1, s2]; try rfl) rfl ?_
    exact ⟨rfl, set3 hB0 (Nat.le_refl _) _ _ _⟩
  · have d1 : decide (0 ≤ (j : Int)) = true := decide_eq_true (by omega)
    have hw : IntKind.i64.wrap (1 + (j : Int)) = (j : Int) + 1 := by rw [IntKind.wrap_i64]; omega
    have c5 : (1 : Int) ≤ (j : Int) + 1 := by omega
    have c6 : (j : Int) + 1 ≤ (s.size : Int) := by omega
    have c7 : ((j + 1 : Nat) : Int) = (j : Int) + 1 := by omega
    clear hks h1 hs h1l hl2 c3 c4
    go_wp2_with fail
    refine (CI _).mono ?_
    rintro e w2 ⟨rfl, b2⟩
    replace hR := hR.next b2
    replace hB0 := hB0.trans (b2.mono hsz)
    go_wp2_with (go_at_call 58; refine (CC _).mono ?_; rintro e w3 ⟨rfl, b3⟩; have q3 := Nat.le_of_lt hR.2.1; replace hR := hR.next b3; replace hB0 := hB0.trans (b3.mono q3); clear q3 b3; obtain ⟨r1, r2, ⟨a0, a1, a2⟩, ⟨f0, f1, f2⟩⟩ := id hR; obtain ⟨s0, s1, s2⟩ := hR.same)
    (try simp only [Exit.inBlock, Exit.then])
    refine bodyPost_ret (by simp [results, Tryz.results46, go_sem, s0, s1, s2]; try rfl) rfl ?_
    exact ⟨rfl, set3 hB0 (Nat.le_refl _) _ _ _⟩

set_option maxRecDepth 100000 in
set_option maxHeartbeats 1000000 in
theorem step_deep (s : ByteArray) (p1 : pfx s [42, 42] = true) (w : World) :
    Calls Tryz.prog 37 #[.string s] w fun e w' => e = .returned (stV ⟨5, Pm.nul, 0⟩ 2) ∧ Below w.heap.size w w' := by
  have qq := fun (p : ByteArray) (W : World) => prefix_is s p _ rfl W
  have q1 : Lib.hasPrefix s.data.toList (⟨#[42, 42]⟩ : ByteArray).data.toList = true := p1
  have hB0 : Below w.heap.size w (w.alloc (.cells #[.int .i64 0, .string ⟨#[]⟩, .int .i64 0] 33)) := (Below.refl _ _).alloc (Nat.le_refl _) _
  have hR := Res.new w
  unfold stV valS
  unfold pfx at *
  go_enter Tryz.func37, Tryz.ntmps37
  go_wp2_with (first | (go_at_call 45; refine (qq _ _).mono ?_; rintro e9 w9 ⟨rfl, rfl⟩; simp only [q1]))
  go_returns
  exact ⟨rfl, by go_grown⟩
set_option maxRecDepth 100000 in
set_option maxHeartbeats 1000000 in
theorem step_anyKey (s : ByteArray) (p1 : pfx s [42, 42] = false) (p2 : pfx s [46, 42] = true) (w : World) :
    Calls Tryz.prog 37 #[.string s] w fun e w' => e = .returned (stV ⟨3, Pm.nul, 0⟩ 2) ∧ Below w.heap.size w w' := by
  have qq := fun (p : ByteArray) (W : World) => prefix_is s p _ rfl W
  have q1 : Lib.hasPrefix s.data.toList (⟨#[42, 42]⟩ : ByteArray).data.toList = false := p1
  have q2 : Lib.hasPrefix s.data.toList (⟨#[46, 42]⟩ : ByteArray).data.toList = true := p2
  have hB0 : Below w.heap.size w (w.alloc (.cells #[.int .i64 0, .string ⟨#[]⟩, .int .i64 0] 33)) := (Below.refl _ _).alloc (Nat.le_refl _) _
  have hR := Res.new w
  unfold stV valS
  unfold pfx at *
  go_enter Tryz.func37, Tryz.ntmps37
  go_wp2_with (first | (go_at_call 45; refine (qq _ _).mono ?_; rintro e9 w9 ⟨rfl, rfl⟩; simp only [q1, q2]))
  go_returns
  exact ⟨rfl, by go_grown⟩
set_option maxRecDepth 100000 in
set_option maxHeartbeats 1000000 in
theorem step_any (s : ByteArray) (p1 : pfx s [42, 42] = false) (p2 : pfx s [46, 42] = false) (p3 : pfx s [91, 42, 93] = true) (w : World) :
    Calls Tryz.prog 37 #[.string s] w fun e w' => e = .returned (stV ⟨4, Pm.nul, 0⟩ 3) ∧ Below w.heap.size w w' := by
  have qq := fun (p : ByteArray) (W : World) => prefix_is s p _ rfl W
  have q1 : Lib.hasPrefix s.data.toList (⟨#[42, 42]⟩ : ByteArray).data.toList = false := p1
  have q2 : Lib.hasPrefix s.data.toList (⟨#[46, 42]⟩ : ByteArray).data.toList = false := p2
  have q3 : Lib.hasPrefix s.data.toList (⟨#[91, 42, 93]⟩ : ByteArray).data.toList = true := p3
  have hB0 : Below w.heap.size w (w.alloc (.cells #[.int .i64 0, .string ⟨#[]⟩, .int .i64 0] 33)) := (Below.refl _ _).alloc (Nat.le_refl _) _
  have hR := Res.new w
  unfold stV valS
  unfold pfx at *
  go_enter Tryz.func37, Tryz.ntmps37
  go_wp2_with (first | (go_at_call 45; refine (qq _ _).mono ?_; rintro e9 w9 ⟨rfl, rfl⟩; simp only [q1, q2, q3]))
  go_returns
  exact ⟨rfl, by go_grown⟩
set_option maxRecDepth 100000 in
set_option maxHeartbeats 1000000 in
theorem step_plain (s : ByteArray) (p1 : pfx s [42, 42] = false) (p2 : pfx s [46, 42] = false) (p3 : pfx s [91, 42, 93] = false) (p4 : pfx s [46] = true) (t : Pm.St) (n : Nat) (w : World) (CS : ∀ W, Below w.heap.size w W → Calls Tryz.prog 46 #[.string s] W fun e w' => e = .returned (stV t n) ∧ Below W.heap.size W w') :
    Calls Tryz.prog 37 #[.string s] w fun e w' => e = .returned (stV t n) ∧ Below w.heap.size w w' := by
  have qq := fun (p : ByteArray) (W : World) => prefix_is s p _ rfl W
  have q1 : Lib.hasPrefix s.data.toList (⟨#[42, 42]⟩ : ByteArray).data.toList = false := p1
  have q2 : Lib.hasPrefix s.data.toList (⟨#[46, 42]⟩ : ByteArray).data.toList = false := p2
  have q3 : Lib.hasPrefix s.data.toList (⟨#[91, 42, 93]⟩ : ByteArray).data.toList = false := p3
  have q4 : Lib.hasPrefix s.data.toList (⟨#[46]⟩ : ByteArray).data.toList = true := p4
  have hB0 : Below w.heap.size w (w.alloc (.cells #[.int .i64 0, .string ⟨#[]⟩, .int .i64 0] 33)) := (Below.refl _ _).alloc (Nat.le_refl _) _
  have hR := Res.new w
  unfold stV valS
  unfold pfx at *
  have CS2 := CS _ hB0
  unfold stV valS at CS2
  clear CS
  go_enter Tryz.func37, Tryz.ntmps37
  go_wp2_with (first | (go_at_call 45; refine (qq _ _).mono ?_; rintro e9 w9 ⟨rfl, rfl⟩; simp only [q1, q2, q3, q4]) | (go_at_call 46; refine CS2.mono ?_; rintro e9 w2 ⟨rfl, b2⟩; have q9 := Nat.le_of_lt hR.2.1; replace hR := hR.next b2; replace hB0 := hB0.trans (b2.mono q9); clear q9 b2; obtain ⟨r1, r2, ⟨a0, a1, a2⟩, ⟨f0, f1, f2⟩⟩ := id hR; obtain ⟨s0, s1, s2⟩ := hR.same))
  (try simp only [Exit.inBlock, Exit.then])
  refine bodyPost_ret (by simp [results, Tryz.results37, go_sem, s0, s1, s2]; try rfl) rfl ?_
  exact ⟨rfl, set3 hB0 (Nat.le_refl _) _ _ _⟩
set_option maxRecDepth 100000 in
set_option maxHeartbeats 1000000 in
theorem step_quoted (s : ByteArray) (p1 : pfx s [42, 42] = false) (p2 : pfx s [46, 42] = false) (p3 : pfx s [91, 42, 93] = false) (p4 : pfx s [46] = false) (p5 : pfx s [91, 34] = true) (t : Pm.St) (n : Nat) (w : World) (CS : ∀ W, Below w.heap.size w W → Calls Tryz.prog 47 #[.string s] W fun e w' => e = .returned (stV t n) ∧ Below W.heap.size W w') :
    Calls Tryz.prog 37 #[.string s] w fun e w' => e = .returned (stV t n) ∧ Below w.heap.size w w' := by
  have qq := fun (p : ByteArray) (W : World) => prefix_is s p _ rfl W
  have q1 : Lib.hasPrefix s.data.toList (⟨#[42, 42]⟩ : ByteArray).data.toList = false := p1
  have q2 : Lib.hasPrefix s.data.toList (⟨#[46, 42]⟩ : ByteArray).data.toList = false := p2
  have q3 : Lib.hasPrefix s.data.toList (⟨#[91, 42, 93]⟩ : ByteArray).data.toList = false := p3
  have q4 : Lib.hasPrefix s.data.toList (⟨#[46]⟩ : ByteArray).data.toList = false := p4
  have q5 : Lib.hasPrefix s.data.toList (⟨#[91, 34]⟩ : ByteArray).data.toList = true := p5
  have hB0 : Below w.heap.size w (w.alloc (.cells #[.int .i64 0, .string ⟨#[]⟩, .int .i64 0] 33)) := (Below.refl _ _).alloc (Nat.le_refl _) _
  have hR := Res.new w
  unfold stV valS
  unfold pfx at *
  have CS2 := CS _ hB0
  unfold stV valS at CS2
  clear CS
  go_enter Tryz.func37, Tryz.ntmps37
  go_wp2_with (first | (go_at_call 45; refine (qq _ _).mono ?_; rintro e9 w9 ⟨rfl, rfl⟩; simp only [q1, q2, q3, q4, q5]) | (go_at_call 47; refine CS2.mono ?_; rintro e9 w2 ⟨rfl, b2⟩; have q9 := Nat.le_of_lt hR.2.1; replace hR := hR.next b2; replace hB0 := hB0.trans (b2.mono q9); clear q9 b2; obtain ⟨r1, r2, ⟨a0, a1, a2⟩, ⟨f0, f1, f2⟩⟩ := id hR; obtain ⟨s0, s1, s2⟩ := hR.same))
  (try simp only [Exit.inBlock, Exit.then])
  refine bodyPost_ret (by simp [results, Tryz.results37, go_sem, s0, s1, s2]; try rfl) rfl ?_
  exact ⟨rfl, set3 hB0 (Nat.le_refl _) _ _ _⟩
set_option maxRecDepth 100000 in
set_option maxHeartbeats 1000000 in
theorem step_at (s : ByteArray) (p1 : pfx s [42, 42] = false) (p2 : pfx s [46, 42] = false) (p3 : pfx s [91, 42, 93] = false) (p4 : pfx s [46] = false) (p5 : pfx s [91, 34] = false) (p6 : pfx s [91] = true) (t : Pm.St) (n : Nat) (w : World) (CS : ∀ W, Below w.heap.size w W → Calls Tryz.prog 48 #[.string s] W fun e w' => e = .returned (stV t n) ∧ Below W.heap.size W w') :
    Calls Tryz.prog 37 #[.string s] w fun e w' => e = .returned (stV t n) ∧ Below w.heap.size w w' := by
  have qq := fun (p : ByteArray) (W : World) => prefix_is s p _ rfl W
  have q1 : Lib.hasPrefix s.data.toList (⟨#[42, 42]⟩ : ByteArray).data.toList = false := p1
  have q2 : Lib.hasPrefix s.data.toList (⟨#[46, 42]⟩ : ByteArray).data.toList = false := p2
  have q3 : Lib.hasPrefix s.data.toList (⟨#[91, 42, 93]⟩ : ByteArray).data.toList = false := p3
  have q4 : Lib.hasPrefix s.data.toList (⟨#[46]⟩ : ByteArray).data.toList = false := p4
  have q5 : Lib.hasPrefix s.data.toList (⟨#[91, 34]⟩ : ByteArray).data.toList = false := p5
  have q6 : Lib.hasPrefix s.data.toList (⟨#[91]⟩ : ByteArray).data.toList = true := p6
  have hB0 : Below w.heap.size w (w.alloc (.cells #[.int .i64 0, .string ⟨#[]⟩, .int .i64 0] 33)) := (Below.refl _ _).alloc (Nat.le_refl _) _
  have hR := Res.new w
  unfold stV valS
  unfold pfx at *
  have CS2 := CS _ hB0
  unfold stV valS at CS2
  clear CS
  go_enter Tryz.func37, Tryz.ntmps37
  go_wp2_with (first | (go_at_call 45; refine (qq _ _).mono ?_; rintro e9 w9 ⟨rfl, rfl⟩; simp only [q1, q2, q3, q4, q5, q6]) | (go_at_call 48; refine CS2.mono ?_; rintro e9 w2 ⟨rfl, b2⟩; have q9 := Nat.le_of_lt hR.2.1; replace hR := hR.next b2; replace hB0 := hB0.trans (b2.mono q9); clear q9 b2; obtain ⟨r1, r2, ⟨a0, a1, a2⟩, ⟨f0, f1, f2⟩⟩ := id hR; obtain ⟨s0, s1, s2⟩ := hR.same))
  (try simp only [Exit.inBlock, Exit.then])
  refine bodyPost_ret (by simp [results, Tryz.results37, go_sem, s0, s1, s2]; try rfl) rfl ?_
  exact ⟨rfl, set3 hB0 (Nat.le_refl _) _ _ _⟩
set_option maxRecDepth 100000 in
set_option maxHeartbeats 1000000 in
theorem step_none (s : ByteArray) (p1 : pfx s [42, 42] = false) (p2 : pfx s [46, 42] = false) (p3 : pfx s [91, 42, 93] = false) (p4 : pfx s [46] = false) (p5 : pfx s [91, 34] = false) (p6 : pfx s [91] = false) (w : World) :
    Calls Tryz.prog 37 #[.string s] w fun e w' => e = .returned (stV ⟨0, Pm.nul, 0⟩ 0) ∧ Below w.heap.size w w' := by
  have qq := fun (p : ByteArray) (W : World) => prefix_is s p _ rfl W
  have q1 : Lib.hasPrefix s.data.toList (⟨#[42, 42]⟩ : ByteArray).data.toList = false := p1
  have q2 : Lib.hasPrefix s.data.toList (⟨#[46, 42]⟩ : ByteArray).data.toList = false := p2
  have q3 : Lib.hasPrefix s.data.toList (⟨#[91, 42, 93]⟩ : ByteArray).data.toList = false := p3
  have q4 : Lib.hasPrefix s.data.toList (⟨#[46]⟩ : ByteArray).data.toList = false := p4
  have q5 : Lib.hasPrefix s.data.toList (⟨#[91, 34]⟩ : ByteArray).data.toList = false := p5
  have q6 : Lib.hasPrefix s.data.toList (⟨#[91]⟩ : ByteArray).data.toList = false := p6
  have hB0 : Below w.heap.size w (w.alloc (.cells #[.int .i64 0, .string ⟨#[]⟩, .int .i64 0] 33)) := (Below.refl _ _).alloc (Nat.le_refl _) _
  have hR := Res.new w
  unfold stV valS
  unfold pfx at *
  go_enter Tryz.func37, Tryz.ntmps37
  go_wp2_with (first | (go_at_call 45; refine (qq _ _).mono ?_; rintro e9 w9 ⟨rfl, rfl⟩; simp only [q1, q2, q3, q4, q5, q6]))
  go_returns
  exact ⟨rfl, by go_grown⟩
end Go.Proofs.YtomhgafpjpnmdaaGreatDoor
