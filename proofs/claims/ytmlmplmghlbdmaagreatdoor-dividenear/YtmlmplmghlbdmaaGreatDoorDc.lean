/- What is proved here: what bytes.Repeat does with one nought, walked; conditions: at least two, at most 1000 of them. -/
import Derived.Test.YtmlmplmghlbdmaaGreatDoorDb
import Derived.Test.YtmlmplmghlbdmaaGreatDoorShelf
import Derived.Lib.MakeNoZero
import Derived.Laws.IdiomCopy
import Derived.RegionTactic
import Derived.Deep.RegionWith
namespace Go.Proofs.YtmlmplmghlbdmaaGreatDoor
open Go.RowKit
set_option linter.unusedVariables false
set_option linter.unusedSimpArgs false

theorem bmul_1 (n : Nat) (w : World) (hn : n ≤ 1000) : Calls Tryz.prog 59 #[.int .u64 1, .int .u64 (n : Int)] w fun e w' => e = .returned (.tuple #[.int .u64 0, .int .u64 (n : Int)]) ∧ w' = w := by
  have := Any.bits_Mul { Tryz.laysB with } 1 n (by omega) (by omega) w
  rw [Nat.one_mul, Nat.div_eq_of_lt (by omega : n < 18446744073709551616), Nat.mod_eq_of_lt (by omega : n < 18446744073709551616)] at this
  exact this
/-- What has been laid of the noughts. -/
def NoughtInv (w : World) (g n k : Nat) (wr : World) : Prop :=
  (∀ i, i < k → wr.cell? ⟨g, i, none⟩ = some (.int .u8 48)) ∧ (∀ i, i < n → (wr.cell? ⟨g, i, none⟩).isSome = true) ∧ (∀ i, i < n → wr.frozen? ⟨g, i, none⟩ = false) ∧ Below w.heap.size w wr ∧ g < wr.heap.size
theorem setCells_size (w : World) (b o : Nat) (cs : List Value) : (w.setCells b o cs).heap.size = w.heap.size := by
  induction cs generalizing w o with
  | nil => rfl
  | cons v r ih => rw [World.setCells, ih]; simp [World.setCell]
theorem setCells_cell (cs : List Value) : ∀ (w : World) (g o : Nat), (∀ i, i < cs.length → (w.cell? ⟨g, o + i, none⟩).isSome = true) → ∀ j, (w.setCells g o cs).cell? ⟨g, j, none⟩ = if h : o ≤ j ∧ j < o + cs.length then some (cs[j - o]'(by omega)) else w.cell? ⟨g, j, none⟩ := by
  induction cs with
  | nil => intro w g o _ j; rw [dif_neg (by simp)]; rfl
  | cons v r ih =>
    intro w g o hs j
    have h0 : (w.cell? ⟨g, o, none⟩).isSome = true := by have := hs 0 (by simp); rwa [Nat.add_zero] at this
    rw [World.setCells, ih (w.setCell ⟨g, o, none⟩ v) g (o + 1) (fun i hi => by
      by_cases e : o + 1 + i = o
      · omega
      · rw [World.cell?_setCell_other (w := w) (a := ⟨g, o, none⟩) (b := ⟨g, o + 1 + i, none⟩) (h := by intro q; injection q with _ q2; omega)]
        have := hs (i + 1) (by simp; omega)
        rwa [show o + (i + 1) = o + 1 + i by omega] at this)]
    by_cases e : j = o
    · subst e
      rw [dif_neg (by omega), World.cell?_setCell_same' _ _ _ h0, dif_pos (by simp)]
      simp
    · have hne : (w.setCell ⟨g, o, none⟩ v).cell? ⟨g, j, none⟩ = w.cell? ⟨g, j, none⟩ := by
        rw [World.cell?_setCell_other (w := w) (a := ⟨g, o, none⟩) (b := ⟨g, j, none⟩) (h := by intro q; injection q with _ q2; exact e q2.symm)]
      by_cases h : o + 1 ≤ j ∧ j < o + 1 + r.length
      · rw [dif_pos h, dif_pos (by simp; omega)]
        congr 1
        rw [List.getElem_cons]
        rw [dif_neg (by omega)]
        rfl
      · rw [dif_neg h, dif_neg (by simp; omega), hne]
theorem setCells_frozen (cs : List Value) : ∀ (w : World) (g o : Nat) (a : Addr), (w.setCells g o cs).frozen? a = w.frozen? a := by
  induction cs with
  | nil => intro w g o a; rfl
  | cons v r ih => intro w g o a; rw [World.setCells, ih, World.frozen?_setCell]
theorem setCells_below (cs : List Value) : ∀ (w0 w : World) (B g o : Nat), Below B w0 w → B ≤ g → Below B w0 (w.setCells g o cs) := by
  induction cs with
  | nil => intro w0 w B g o h _; exact h
  | cons v r ih => intro w0 w B g o h hg; exact ih w0 _ B g (o + 1) (h.setCell (p := ⟨g, o, none⟩) hg _) hg
theorem NoughtInv.next {w wr : World} {g n k m : Nat} (h : NoughtInv w g n k wr) (hg : w.heap.size ≤ g) (hm : k + m ≤ n) : NoughtInv w g n (k + m) (wr.setCells g k (List.replicate m (.int .u8 48))) := by
  obtain ⟨h1, h2, h3, h4, h5⟩ := h
  have hs : ∀ i, i < (List.replicate m (Value.int .u8 48)).length → (wr.cell? ⟨g, k + i, none⟩).isSome = true := fun i hi => h2 _ (by rw [List.length_replicate] at hi; omega)
  refine ⟨fun i hi => ?_, fun i hi => ?_, fun i hi => by rw [setCells_frozen]; exact h3 i hi, setCells_below _ _ _ _ _ _ h4 hg, by rw [setCells_size]; exact h5⟩
  · rw [setCells_cell _ wr g k hs i]
    by_cases e : k ≤ i ∧ i < k + (List.replicate m (Value.int .u8 48)).length
    · rw [dif_pos e]; simp
    · rw [dif_neg e]; rw [List.length_replicate] at e; exact h1 i (by omega)
  · rw [setCells_cell _ wr g k hs i]
    by_cases e : k ≤ i ∧ i < k + (List.replicate m (Value.int .u8 48)).length
    · rw [dif_pos e]; rfl
    · rw [dif_neg e]; exact h2 i hi
theorem NoughtInv.copy {w wr : World} {g n k m c1 c2 : Nat} (h : NoughtInv w g n k wr) (hm : m = Nat.min k (n - k)) (ty : TypeId) :
    (Builtin.copy_ #[38, 38] ty #[.slice (some ⟨g, k, none⟩) (n - k) c1, .slice (some ⟨g, 0, none⟩) k c2]).run Tryz.prog wr = .ok (.int .i64 (m : Int)) (wr.setCells g k (List.replicate m (.int .u8 48))) := by
  obtain ⟨h1, h2, h3, h4, h5⟩ := h
  have hmk : m ≤ k ∧ m ≤ n - k := by
    subst hm
    exact ⟨Nat.min_le_left _ _, Nat.min_le_right _ _⟩
  have := run_copy_cells (P := Tryz.prog) wr 38 38 ty 5 g k (n - k) c1 ⟨g, 0, none⟩ k c2 (List.replicate m (.int .u8 48)) Tryz.underlying38 (by kernel_rfl) (by rw [List.length_replicate]; exact hm)
    (fun j v hj => by
      rw [List.getElem?_replicate] at hj
      split at hj
      · rename_i hjm
        injection hj with hj
        subst hj
        have e : (⟨g, 0, none⟩ : Addr).add j = ⟨g, j, none⟩ := by unfold Addr.add; split <;> simp_all
        rw [e]; exact h1 j (by omega)
      · cases hj)
    (fun j hj => h2 _ (by rw [List.length_replicate] at hj; omega)) (fun j hj => h3 _ (by rw [List.length_replicate] at hj; omega)) (fun v hv => by rw [List.mem_replicate] at hv; rw [hv.2]; rfl)
  rw [this, List.length_replicate]; rfl

theorem NoughtInv.drew {w wr : World} {g n k : Nat} (h : NoughtInv w g n k wr) : NoughtInv w g n k wr.drew := by
  obtain ⟨h1, h2, h3, h4, h5⟩ := h
  exact ⟨h1, h2, h3, h4.drew, h5⟩
set_option maxRecDepth 100000 in
set_option maxHeartbeats 2000000 in
theorem brepeat_any (b c n : Nat) (w : World) (h2 : 2 ≤ n) (hn : n ≤ 1000) (hr : w.cell? ⟨b, 0, none⟩ = some (.int .u8 48)) :
    Calls Tryz.prog 56 #[.slice (some ⟨b, 0, none⟩) 1 c, .int .i64 (n : Int)] w fun e w' => ∃ g : Nat, e = .returned (.slice (some ⟨g, 0, none⟩) n n) ∧ w.heap.size ≤ g ∧ NoughtInv w g n n w' := by
  have n0 : ((n : Int) == 0) = false := beq_eq_false_iff_ne.2 (by omega)
  have hn1 : (n : Int) ≤ 1000 := by omega
  have hn2 : (2 : Int) ≤ (n : Int) := by omega
  go_enter Tryz.func56, Tryz.ntmps56
  go_wp2_with fail
  refine (bmul_1 n _ hn).mono ?_
  rintro e w1 ⟨rfl, hw1⟩
  subst hw1
  go_wp2_with fail
  obtain ⟨cs, hrun, hle, _⟩ := Lib.run_makeNoZero (P := Tryz.prog) w1 #[3] 38 5 Tryz.underlying38 n (by omega)
  rw [run_callFunc_extern Tryz.func77 (by kernel_rfl) (by kernel_rfl) (by kernel_rfl) (e := Extern.BytealgMakeNoZero.makeNoZero #[3] #[38]) (by kernel_rfl), hrun]
  have hleI : (n : Int) ≤ (cs.size : Int) := by omega
  have hI0 : NoughtInv w1 w1.heap.size n 0 ((w1.alloc (.cells cs 5)).drew.drew) := by
    refine ⟨fun i hi => by omega, fun i hi => ?_, fun i hi => by go_simp, ((Below.refl _ _).alloc (Nat.le_refl _) _).drew.drew, by simp⟩
    have hi' : i < cs.size := by omega
    go_simp
  have hcp : (Builtin.copy_ #[38, 38] 3 #[.slice (some ⟨w1.heap.size, 0, none⟩) n n, .slice (some ⟨b, 0, none⟩) 1 c]).run Tryz.prog ((w1.alloc (.cells cs 5)).drew.drew) = .ok (.int .i64 1) (((w1.alloc (.cells cs 5)).drew.drew).setCells w1.heap.size 0 [.int .u8 48]) := by
    have hb : b < w1.heap.size := World.block_lt_of_cell? _ _ hr
    have := run_copy_cells (P := Tryz.prog) ((w1.alloc (.cells cs 5)).drew.drew) 38 38 3 5 w1.heap.size 0 n n ⟨b, 0, none⟩ 1 c [.int .u8 48] Tryz.underlying38 (by kernel_rfl) (Nat.min_eq_left (show 1 ≤ n by omega)).symm
      (fun j v hj => by
        cases j with
        | zero =>
          simp at hj
          subst hj
          exact ((hI0.2.2.2.1).cell (p := ⟨b, 0, none⟩) hb).trans hr
        | succ j => simp at hj)
      (fun j hj => by rw [Nat.zero_add]; exact hI0.2.1 j (by simp at hj; omega)) (fun j hj => by rw [Nat.zero_add]; exact hI0.2.2.1 j (by simp at hj; omega)) (fun v hv => by simp at hv; rw [hv]; rfl)
    exact this
  have hI1 : NoughtInv w1 w1.heap.size n (0 + 1) (((w1.alloc (.cells cs 5)).drew.drew).setCells w1.heap.size 0 (List.replicate 1 (.int .u8 48))) := hI0.next (Nat.le_refl _) (by omega)
  have HCP := hide hcp
  clear hcp hI0 hle
  simp only [Result.andThen]
  rw [Oper.upon_value]
  go_wp2_with fail
  rw [unhide HCP]
  clear HCP
  have hS : Hid (∃ q : World, q = ((w1.alloc (.cells cs 5)).drew.drew).setCells w1.heap.size 0 [.int .u8 48]) := ⟨_, rfl⟩
  obtain ⟨q, hq⟩ := unhide hS
  have e1 : (((w1.alloc (.cells cs 5)).drew.drew).setCells w1.heap.size 0 (List.replicate 1 (.int .u8 48))) = q := hq.symm
  rw [e1] at hI1
  rw [← hq]
  clear e1 hq hS
  simp only [Result.andThen]
  rw [Oper.upon_value]
  go_wp2_with fail
  go_loopw [10, 11] (fun bp _ wr => ∃ k : Nat, 1 ≤ k ∧ k ≤ n ∧ bp = .int .i64 (k : Int) ∧ NoughtInv w1 w1.heap.size n k wr) (fun bp _ _ => n - (intOf bp).toNat)
  case atStart => exact ⟨1, by omega, by omega, rfl, hI1⟩
  case round =>
    clear hI1
    obtain ⟨k, hk1, hk, rfl, hI⟩ := hrel
    by_cases hlt : (k : Int) < (n : Int)
    · obtain ⟨m, hm⟩ : ∃ m, m = Nat.min k (n - k) := ⟨_, rfl⟩
      have hm2 : m ≤ n - k ∧ 0 < m := by
        subst hm
        refine ⟨Nat.min_le_right _ _, ?_⟩
        have := Nat.lt_min.2 ⟨(by omega : 0 < k), (by omega : 0 < n - k)⟩
        exact this
      have hcp := hI.drew.copy (c1 := n - k) (c2 := n) hm 3
      have hnx := hI.drew.next (m := m) (Nat.le_refl _) (by omega)
      have HNX := hide hnx
      have hmin : min (k : Int) (n : Int) = (k : Int) := by omega
      have hnk : ¬ n = k := by omega
      have hmk : (m : Int) ≤ (n : Int) - (k : Int) := by omega
      clear hnx hm hI
      go_wp2_with fail
      go_region
      clear hcp
      go_wp2_with fail
      go_roundw
      case rel => exact ⟨k + m, by omega, by omega, congrArg (Value.int .i64) (by omega), unhide HNX⟩
      case measure => simp only [intOf]; omega
    · obtain rfl : k = n := by omega
      have HI := hide hI
      clear hI
      go_wp2
      go_ret
      exact ⟨w1.heap.size, rfl, Nat.le_refl _, unhide HI⟩
end Go.Proofs.YtmlmplmghlbdmaaGreatDoor
