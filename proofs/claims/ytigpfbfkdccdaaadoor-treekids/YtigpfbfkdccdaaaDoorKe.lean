/- What is proved here: what package tree's Size answers, walked; condition: at most a million nodes. -/
import Derived.Test.YtigpfbfkdccdaaaDoorKd
import Derived.BigRegion
namespace Go.Proofs.YtigpfbfkdccdaaaDoor
open Go.RowKit
set_option linter.unusedVariables false
set_option linter.unusedSimpArgs false

theorem fold_max (f : Tr → Nat) : ∀ (l : List Tr) (a : Nat), l.foldl (fun a k => max a (f k)) a = max a (l.foldl (fun a k => max a (f k)) 0)
  | [], a => by simp
  | t :: r, a => by
    rw [List.foldl_cons, List.foldl_cons, fold_max f r (max a (f t)), fold_max f r (max 0 (f t))]
    omega
theorem sD_eq : ∀ (n : Nat) (t : Tr) (lev y : Nat), 1 ≤ lev → lev ≤ y + 1 → sD n t lev y = max y (lev + depthT n t - 1)
  | 0, _, lev, y, h1, h2 => by
    show y = max y (lev + 0 - 1)
    omega
  | n + 1, t, lev, y, h1, h2 => by
    show (Tr.kd t).foldl (fun y k => sD n k (lev + 1) y) (max y lev) = max y (lev + (1 + (Tr.kd t).foldl (fun a k => max a (depthT n k)) 0) - 1)
    have key : ∀ (l : List Tr) (z : Nat), lev ≤ z → l.foldl (fun y k => sD n k (lev + 1) y) z = max z (lev + l.foldl (fun a k => max a (depthT n k)) 0) := by
      intro l
      induction l with
      | nil => intro z hz; simp; omega
      | cons t r ih =>
        intro z hz
        rw [List.foldl_cons, List.foldl_cons, sD_eq n t (lev + 1) z (by omega) (by omega), ih _ (by omega), fold_max (depthT n) r (max 0 (depthT n t))]
        omega
    rw [key _ _ (by omega)]
    omega
theorem depth_pos (n : Nat) (t : Tr) : 1 ≤ depthT (n + 1) t := by unfold depthT; omega

set_option maxHeartbeats 1000000 in
set_option maxRecDepth 1000000 in
theorem tsize_any (ok : Nat → Prop) (n : Nat) (v : Value) (t : Tr) (w : World) (hl : Lies ok w n v t) (hs : sizeT n t ≤ 1000000) (hn : n ≤ 999999) :
    Calls Tryd.prog 26 #[v] w fun e w' => e = .returned (.tuple #[.int .i64 (sizeT n t : Int), .int .i64 (depthT n t : Int)]) ∧ Below w.heap.size w w' := by
  cases n with
  | zero => exact hl.elim
  | succ m =>
    have hl' : Lies (fun b => b < w.heap.size) w (m + 1) v t := hl.weak (fun b hb _ => hb)
    obtain ⟨h, l, ka, kc, a, cap, rfl, rfl, hm64, hkc, hdc, hks, hkid⟩ := hl.node
    have HL := khide hl'
    have hsd := sD_eq (m + 1) (Tr.mk h l) 1 0 (Nat.le_refl _) (Nat.le_refl _)
    have hdp := depth_pos m (Tr.mk h l)
    obtain ⟨S, hS⟩ : ∃ S, sizeT (m + 1) (Tr.mk h l) = S := ⟨_, rfl⟩
    obtain ⟨D, hD⟩ : ∃ D, depthT (m + 1) (Tr.mk h l) = D := ⟨_, rfl⟩
    have C : ∀ W, Lies (fun b => b < w.heap.size) W (m + 1) (.agg #[.int .i64 h.k, .int .u64 (h.m : Int), .bool h.ng, .string h.dg, .int .i64 h.sc, .string h.tx, .slice ka h.ks.length kc, .slice a l.length cap, .int .i64 h.cd]) (Tr.mk h l) →
        W.cell? ⟨w.heap.size + 1, 0, none⟩ = some (.int .i64 0) → W.frozen? ⟨w.heap.size + 1, 0, none⟩ = false → w.heap.size + 1 < W.heap.size →
        W.cell? ⟨w.heap.size + 2, 0, none⟩ = some (.int .i64 0) → W.frozen? ⟨w.heap.size + 2, 0, none⟩ = false → w.heap.size + 2 < W.heap.size →
        Calls Tryd.prog 64 #[.agg #[.int .i64 h.k, .int .u64 (h.m : Int), .bool h.ng, .string h.dg, .int .i64 h.sc, .string h.tx, .slice ka h.ks.length kc, .slice a l.length cap, .int .i64 h.cd], .int .i64 1, .func (Fn.func 66) #[] #[.pointer (some ⟨w.heap.size + 1, 0, none⟩), .pointer (some ⟨w.heap.size + 2, 0, none⟩)]] W
          fun e w' => e = .returned (.tuple #[]) ∧ (w'.cell? ⟨w.heap.size + 1, 0, none⟩ = some (.int .i64 (S : Int)) ∧ w'.frozen? ⟨w.heap.size + 1, 0, none⟩ = false ∧ w'.cell? ⟨w.heap.size + 2, 0, none⟩ = some (.int .i64 (D : Int)) ∧ w'.frozen? ⟨w.heap.size + 2, 0, none⟩ = false) ∧
            Moved (fun b => b = w.heap.size + 1 ∨ b = w.heap.size + 2) W w' := by
      intro W hW hc hf hp hc2 hf2 hp2
      have := walksize_any (fun b => b < w.heap.size) (w.heap.size + 1) (w.heap.size + 2) (by omega) (fun b hb => by omega) (m + 1) _ _ W 1 0 0 hW (by omega) (by omega) (by omega) hc hf hp hc2 hf2 hp2
      rw [hsd, hD, hS, Nat.zero_add] at this
      rw [hD] at hdp
      rw [show max 0 (1 + D - 1) = D by omega] at this
      exact this
    rw [hS, hD]
    have HC := khide C
    have hB2 : ∀ o1 o2 o3, Below w.heap.size w (((w.alloc o1).alloc o2).alloc o3) := fun o1 o2 o3 => (((Below.refl _ w).alloc (Nat.le_refl _) o1).alloc (by simp) o2).alloc (by simp; omega) o3
    have HB2 := khide hB2
    clear C hB2 hl' hs hks hkid hl hsd hdp hS hD
    go_enter Tryd.func26, Tryd.ntmps26
    go_wp2_with fail
    refine (kunhide HC _ (Lies.below (kunhide HB2 _ _ _) (kunhide HL)) ?_ ?_ (by simp) ?_ ?_ (by simp)).mono ?_
    · rw [World.cell?_alloc_past _ _ _ (by simp)]; exact World.cell?_alloc_at _ _ _ _ (by simp)
    · rw [World.frozen?_alloc_past _ _ _ (by simp)]; exact World.frozen?_alloc_at _ _ _ _ (by simp)
    · exact World.cell?_alloc_at _ _ _ _ (by simp)
    · exact World.frozen?_alloc_at _ _ _ _ (by simp)
    rintro e W ⟨rfl, ⟨hc, hf, hc2, hf2⟩, hM⟩
    have hBW : Below w.heap.size w W := Moved.to_below (kunhide HB2 _ _ _) (by simp; omega) hM (fun b hb e => by omega)
    clear hM
    go_wp2_with fail
    go_region
    all_goals
      go_wp2_with fail
      have n1 : (⟨w.heap.size + 1 + 1, 0, none⟩ : Addr) ≠ ⟨w.heap.size + 1, 0, none⟩ := fun e => by have := (Addr.mk.inj e).1; omega
      have n2 : (⟨w.heap.size + 1, 0, none⟩ : Addr) ≠ ⟨w.heap.size + 1 + 1, 0, none⟩ := fun e => by have := (Addr.mk.inj e).1; omega
      have k1 : ((W.setCell ⟨w.heap.size + 1, 0, none⟩ (.int .i64 (S : Int))).setCell ⟨w.heap.size + 1 + 1, 0, none⟩ (.int .i64 (D : Int))).drew.cell? ⟨w.heap.size + 1, 0, none⟩ = some (.int .i64 (S : Int)) := by
        show ((W.setCell ⟨w.heap.size + 1, 0, none⟩ (.int .i64 (S : Int))).setCell ⟨w.heap.size + 1 + 1, 0, none⟩ (.int .i64 (D : Int))).cell? _ = _
        rw [World.cell?_setCell_other _ _ _ _ n1, World.cell?_setCell_same _ _ _ hc]
      have k2 : ((W.setCell ⟨w.heap.size + 1, 0, none⟩ (.int .i64 (S : Int))).setCell ⟨w.heap.size + 1 + 1, 0, none⟩ (.int .i64 (D : Int))).drew.cell? ⟨w.heap.size + 1 + 1, 0, none⟩ = some (.int .i64 (D : Int)) := by
        show ((W.setCell ⟨w.heap.size + 1, 0, none⟩ (.int .i64 (S : Int))).setCell ⟨w.heap.size + 1 + 1, 0, none⟩ (.int .i64 (D : Int))).cell? _ = _
        rw [World.cell?_setCell_same _ _ _ (by rw [World.cell?_setCell_other _ _ _ _ n2]; exact hc2)]
      have hBE : Below w.heap.size w ((W.setCell ⟨w.heap.size + 1, 0, none⟩ (.int .i64 (S : Int))).setCell ⟨w.heap.size + 1 + 1, 0, none⟩ (.int .i64 (D : Int))).drew :=
        ((hBW.setCell (p := ⟨w.heap.size + 1, 0, none⟩) (by show w.heap.size ≤ w.heap.size + 1; omega) _).setCell (p := ⟨w.heap.size + 1 + 1, 0, none⟩) (by show w.heap.size ≤ w.heap.size + 1 + 1; omega) _).drew
      generalize ((W.setCell ⟨w.heap.size + 1, 0, none⟩ (.int .i64 (S : Int))).setCell ⟨w.heap.size + 1 + 1, 0, none⟩ (.int .i64 (D : Int))).drew = V at k1 k2 hBE ⊢
      exact bodyPost_ret (v := .tuple #[.int .i64 (S : Int), .int .i64 (D : Int)]) (by simp [results, Tryd.results26, go_sem, k1, k2]) rfl ⟨rfl, hBE⟩
end Go.Proofs.YtigpfbfkdccdaaaDoor
