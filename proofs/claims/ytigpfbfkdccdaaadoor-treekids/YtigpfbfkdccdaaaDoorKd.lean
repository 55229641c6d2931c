/- What is proved here: what package tree's Size answers, walked; condition: at most a million nodes and levels. -/
import Derived.Test.YtigpfbfkdccdaaaDoorKc
namespace Go.Proofs.YtigpfbfkdccdaaaDoor
open Go.RowKit
set_option linter.unusedVariables false
set_option linter.unusedSimpArgs false

set_option maxHeartbeats 1000000 in
set_option maxRecDepth 1000000 in
theorem size1_any (h : Hd) (ka : Option Addr) (kn kc : Nat) (da : Option Addr) (dn dc : Nat) (lev : Nat) (p q x y : Nat) (w : World) (hpq : p ≠ q) (hx : x ≤ 2000000) (hy : y ≤ 2000000) (hl9 : lev ≤ 2000000)
    (hc : w.cell? ⟨p, 0, none⟩ = some (.int .i64 (x : Int))) (hf : w.frozen? ⟨p, 0, none⟩ = false) (hl : p < w.heap.size) (hc2 : w.cell? ⟨q, 0, none⟩ = some (.int .i64 (y : Int))) (hf2 : w.frozen? ⟨q, 0, none⟩ = false) (hl2 : q < w.heap.size) :
    Calls Tryd.prog 66 #[.agg #[.int .i64 h.k, .int .u64 (h.m : Int), .bool h.ng, .string h.dg, .int .i64 h.sc, .string h.tx, .slice ka kn kc, .slice da dn dc, .int .i64 h.cd], .int .i64 (lev : Int), .pointer (some ⟨p, 0, none⟩), .pointer (some ⟨q, 0, none⟩)] w
      fun e w' => e = .returned (.tuple #[]) ∧ w'.cell? ⟨p, 0, none⟩ = some (.int .i64 ((x + 1 : Nat) : Int)) ∧ w'.frozen? ⟨p, 0, none⟩ = false ∧ w'.cell? ⟨q, 0, none⟩ = some (.int .i64 ((max y lev : Nat) : Int)) ∧ w'.frozen? ⟨q, 0, none⟩ = false ∧ Moved (fun b => b = p ∨ b = q) w w' := by
  have w1 : IntKind.i64.wrap ((x : Int) + 1) = ((x + 1 : Nat) : Int) := by rw [IntKind.wrap_i64]; omega
  obtain ⟨z, hz⟩ : ∃ z, max y lev = z := ⟨_, rfl⟩
  have m1 : max (y : Int) (lev : Int) = (z : Int) := by omega
  have m2 : (if (y : Int) < (lev : Int) then (lev : Int) else (y : Int)) = (z : Int) := by split <;> omega
  have hend : ∀ (W : World) (o : Obj) (a b : Value), W = ((w.setCell ⟨p, 0, none⟩ a).setCell ⟨q, 0, none⟩ b).alloc o → W.cell? ⟨p, 0, none⟩ = some a ∧ W.frozen? ⟨p, 0, none⟩ = false ∧ W.cell? ⟨q, 0, none⟩ = some b ∧ W.frozen? ⟨q, 0, none⟩ = false ∧ Moved (fun b => b = p ∨ b = q) w W := by
    intro W o a b e
    subst e
    have s1 : ((w.setCell ⟨p, 0, none⟩ a).setCell ⟨q, 0, none⟩ b).heap.size = w.heap.size := by simp [World.setCell]
    have n1 : (⟨q, 0, none⟩ : Addr) ≠ ⟨p, 0, none⟩ := fun e => hpq (Addr.mk.inj e).1.symm
    have n2 : (⟨p, 0, none⟩ : Addr) ≠ ⟨q, 0, none⟩ := fun e => hpq (Addr.mk.inj e).1
    refine ⟨?_, ?_, ?_, ?_, ((((Moved.refl (fun b => b = p ∨ b = q) w).setCell (p := ⟨p, 0, none⟩) (.inl rfl) _).setCell (p := ⟨q, 0, none⟩) (.inr rfl) _).alloc _)⟩
    · rw [World.cell?_alloc_lt _ _ _ (by rw [s1]; exact hl), World.cell?_setCell_other _ _ _ _ n1, World.cell?_setCell_same _ _ _ hc]
    · rw [World.frozen?_alloc_past _ _ _ (by rw [s1]; exact hl), World.frozen?_setCell, World.frozen?_setCell]
      exact hf
    · rw [World.cell?_alloc_lt _ _ _ (by rw [s1]; exact hl2), World.cell?_setCell_same _ _ _ (by rw [World.cell?_setCell_other _ _ _ _ n2]; exact hc2)]
    · rw [World.frozen?_alloc_past _ _ _ (by rw [s1]; exact hl2), World.frozen?_setCell, World.frozen?_setCell]
      exact hf2
  have HEND := khide hend
  clear hend m1 m2 hz
  by_cases hyl : y < lev
  · have e1 : max y lev = lev := by omega
    rw [e1]
    clear e1
    go_enter Tryd.func66, Tryd.ntmps66
    go_wp2_with fail
    go_end0
    exact ⟨rfl, kunhide HEND _ _ _ _ rfl⟩
  · have e1 : max y lev = y := by omega
    rw [e1]
    clear e1
    go_enter Tryd.func66, Tryd.ntmps66
    go_wp2_with fail
    all_goals
      go_end0
      exact ⟨rfl, kunhide HEND _ _ _ _ rfl⟩

/-- The deepest level that is met. -/
def sD : Nat → Tr → Nat → Nat → Nat
  | 0, _, _, y => y
  | n + 1, t, lev, y => (Tr.kd t).foldl (fun y k => sD n k (lev + 1) y) (max y lev)
theorem sD_le : ∀ (n : Nat) (t : Tr) (lev y b : Nat), y ≤ b → lev + n ≤ b → sD n t lev y ≤ b
  | 0, _, _, _, _, h, _ => h
  | n + 1, t, lev, y, b, h1, h2 => by
    show (Tr.kd t).foldl (fun y k => sD n k (lev + 1) y) (max y lev) ≤ b
    have : ∀ (l : List Tr) (z : Nat), z ≤ b → l.foldl (fun y k => sD n k (lev + 1) y) z ≤ b := by
      intro l
      induction l with
      | nil => intro z hz; exact hz
      | cons t r ih => intro z hz; rw [List.foldl_cons]; exact ih _ (sD_le n t (lev + 1) z b hz (by omega))
    exact this _ _ (by omega)

set_option maxHeartbeats 1000000 in
set_option maxRecDepth 1000000 in
theorem walksize_any (ok : Nat → Prop) (p q : Nat) (hpq : p ≠ q) (hok : ∀ b, ok b → b ≠ p ∧ b ≠ q) : ∀ (n : Nat) (v : Value) (t : Tr) (w : World) (lev x y : Nat), Lies ok w n v t → x + sizeT n t ≤ 1000000 → lev + n ≤ 1000000 → y ≤ 1000000 →
    w.cell? ⟨p, 0, none⟩ = some (.int .i64 (x : Int)) → w.frozen? ⟨p, 0, none⟩ = false → p < w.heap.size → w.cell? ⟨q, 0, none⟩ = some (.int .i64 (y : Int)) → w.frozen? ⟨q, 0, none⟩ = false → q < w.heap.size →
    Calls Tryd.prog 64 #[v, .int .i64 (lev : Int), .func (Fn.func 66) #[] #[.pointer (some ⟨p, 0, none⟩), .pointer (some ⟨q, 0, none⟩)]] w
      fun e w' => e = .returned (.tuple #[]) ∧ (w'.cell? ⟨p, 0, none⟩ = some (.int .i64 ((x + sizeT n t : Nat) : Int)) ∧ w'.frozen? ⟨p, 0, none⟩ = false ∧ w'.cell? ⟨q, 0, none⟩ = some (.int .i64 (sD n t lev y : Int)) ∧ w'.frozen? ⟨q, 0, none⟩ = false) ∧ Moved (fun b => b = p ∨ b = q) w w'
  | 0, _, _, _, _, _, _, h, _, _, _, _, _, _, _, _, _ => h.elim
  | n + 1, v, t, w, lev, x, y, hl, hsz, hlev, hy, hc, hf, hp, hcq, hfq, hq => by
    obtain ⟨h, l, ka, kc, a, cap, rfl, rfl, hm64, hkc, hdc, hks, hkid⟩ := hl.node
    have IH := khide (walksize_any ok p q hpq hok n)
    have hsum : x + (1 + (l.map (sizeT n)).sum) ≤ 1000000 := hsz
    have hlen9 : l.length ≤ 1000000 := by have := len_le_sum _ (sizeT_pos n) l; omega
    obtain ⟨X, hX⟩ : ∃ X, x + sizeT (n + 1) (Tr.mk h l) = X := ⟨_, rfl⟩
    obtain ⟨Y, hY⟩ : ∃ Y, sD (n + 1) (Tr.mk h l) lev y = Y := ⟨_, rfl⟩
    rw [hX, hY]
    have HX : Hid (x + (1 + (l.map (sizeT n)).sum) = X) := khide hX
    have HY : Hid (l.foldl (fun y k => sD n k (lev + 1) y) (max y lev) = Y) := khide hY
    have HSUM := khide hsum
    have w1 : IntKind.i64.wrap ((lev : Int) + 1) = ((lev + 1 : Nat) : Int) := by rw [IntKind.wrap_i64]; omega
    obtain ⟨O, hO⟩ : ∃ O, Obj.cells #[.int .i64 h.k, .int .u64 (h.m : Int), .bool h.ng, .string h.dg, .int .i64 h.sc, .string h.tx, .slice ka h.ks.length kc, .slice a l.length cap, .int .i64 h.cd] 33 = O := ⟨_, rfl⟩
    have hbox : ∀ W, Moved (fun b => b = p ∨ b = q) (w.alloc O) W → W.cell? ⟨w.heap.size, 7, none⟩ = some (.slice a l.length cap) := by
      intro W hW
      rw [hW.cell (p := ⟨w.heap.size, 7, none⟩) (by simp) (by show ¬ (w.heap.size = p ∨ w.heap.size = q); omega), ← hO]
      exact World.cell?_alloc_at _ _ _ _ rfl
    have D := fun hc hf hl hc2 hf2 hl2 => size1_any h ka h.ks.length kc a l.length cap lev p q x y (w.alloc O) hpq (by omega) (by omega) (by omega) hc hf hl hc2 hf2 hl2
    have HLEV := khide hlev
    have HY9 := khide hy
    have HBOX := khide hbox
    have HO := khide hO
    clear hbox hlev hO hX hY hsz hsum hl hy
    go_enter Tryd.func64, Tryd.ntmps64
    go_wp2_with fail
    rw [kunhide HO]
    refine (D (by rw [World.cell?_alloc_lt _ _ _ hp]; exact hc) (by rw [World.frozen?_alloc_past _ _ _ hp]; exact hf) (by simp; omega) (by rw [World.cell?_alloc_lt _ _ _ hq]; exact hcq) (by rw [World.frozen?_alloc_past _ _ _ hq]; exact hfq) (by simp; omega)).mono ?_
    rintro e W ⟨rfl, hc2, hf2, hc3, hf3, hM⟩
    have hb := kunhide HBOX W hM
    have hM0 : Moved (fun b => b = p ∨ b = q) w W := Moved.trans ((Moved.refl _ w).alloc O) hM
    clear hc hf hcq hfq D
    go_wp2_with fail
    go_loopw [15] (fun i wr => ∃ k A B : Nat, i = .int .i64 (k : Int) ∧ k ≤ l.length ∧ x + (1 + ((l.take k).map (sizeT n)).sum) = A ∧ (l.take k).foldl (fun y k => sD n k (lev + 1) y) (max y lev) = B ∧ B ≤ 1000000 ∧
      (wr.cell? ⟨p, 0, none⟩ = some (.int .i64 (A : Int)) ∧ wr.frozen? ⟨p, 0, none⟩ = false ∧ wr.cell? ⟨q, 0, none⟩ = some (.int .i64 (B : Int)) ∧ wr.frozen? ⟨q, 0, none⟩ = false) ∧ Moved (fun b => b = p ∨ b = q) w wr) (fun i _ => l.length - (intOf i).toNat)
    case atStart => exact ⟨0, x + 1, max y lev, rfl, by omega, rfl, rfl, by have := kunhide HLEV; have := kunhide HY9; omega, ⟨hc2, hf2, hc3, hf3⟩, hM0⟩
    case round =>
      obtain ⟨k, A, B, rfl, hk9, hsA, hfB, hB9, hcells, hMr⟩ := hrel
      clear hM0 hM hc2 hf2 hc3 hf3 hb
      by_cases hlt : k < l.length
      · obtain ⟨b, o, hd2, ka2, kn2, kc2, da2, dn2, dc2, rfl, hb, ⟨c0, c1, c2, c3, c4, c5, c6, c7, c8⟩, hlies⟩ := kid_kept hkid (hMr.kept (fun b hb => by have := hok b hb; rintro (g | g) <;> omega)) k hlt
        have hst := take_fold (fun y k => sD n k (lev + 1) y) (max y lev) l k hlt
        rw [hfB] at hst
        have hst2 := take_sum (sizeT n) l k hlt
        have hle := take_sum_le (sizeT n) l (k + 1)
        have hA2 : A + sizeT n (l[k]'hlt) = x + (1 + ((l.take (k + 1)).map (sizeT n)).sum) := by omega
        have hA3 : A + sizeT n (l[k]'hlt) ≤ 1000000 := by have := kunhide HSUM; omega
        have hS9 : sD n (l[k]'hlt) (lev + 1) B ≤ 1000000 := sD_le n _ _ _ _ hB9 (by have := kunhide HLEV; omega)
        obtain ⟨O2, hO2⟩ : ∃ O2, Obj.cells #[.int .i64 hd2.k, .int .u64 (hd2.m : Int), .bool hd2.ng, .string hd2.dg, .int .i64 hd2.sc, .string hd2.tx, .slice ka2 kn2 kc2, .slice da2 dn2 dc2, .int .i64 hd2.cd] 33 = O2 := ⟨_, rfl⟩
        have C := fun v W hW h1 h2 h3 h4 h5 h6 => kunhide IH v (l[k]'hlt) W (lev + 1) A B hW hA3 (by have := kunhide HLEV; omega) hB9 h1 h2 h3 h4 h5 h6
        have HST := khide hst.symm
        have HA2 := khide hA2.symm
        have HS9 := khide hS9
        have HO2 := khide hO2
        have HCL := khide hcells
        have hp9 : p < wr.heap.size := Nat.lt_of_lt_of_le hp hMr.size
        have hq9 : q < wr.heap.size := Nat.lt_of_lt_of_le hq hMr.size
        clear hst hst2 hle hA2 hA3 hS9 hsA hfB hO2 hcells
        go_wp2_with fail
        rw [kunhide HO2]
        have hcl := kunhide HCL
        refine (C _ _ (Lies.below ((Below.refl _ _).alloc (Nat.le_refl _) _) hlies) (by rw [World.cell?_alloc_lt _ _ _ hp9]; exact hcl.1) (by rw [World.frozen?_alloc_past _ _ _ hp9]; exact hcl.2.1) (by simp; omega) (by rw [World.cell?_alloc_lt _ _ _ hq9]; exact hcl.2.2.1) (by rw [World.frozen?_alloc_past _ _ _ hq9]; exact hcl.2.2.2) (by simp; omega)).mono ?_
        rintro e W2 ⟨rfl, hcells2, hM3⟩
        have hM4 : Moved (fun b => b = p ∨ b = q) w W2 := hMr.trans (Moved.trans ((Moved.refl _ wr).alloc O2) hM3)
        have HCL2 := khide hcells2
        clear hM3 C hcl hcells2
        go_wp2_with fail
        go_roundw
        case rel => exact ⟨k + 1, _, _, by go_num, hlt, kunhide HA2, (kunhide HST).symm, kunhide HS9, kunhide HCL2, hM4⟩
        case measure => simp [intOf]; omega
      · have hAX : A = X := by
          rw [← hsA, List.take_of_length_le (by omega)]
          exact kunhide HX
        have hBY : B = Y := by
          rw [← hfB, List.take_of_length_le (by omega)]
          exact kunhide HY
        subst hAX
        subst hBY
        have HCL := khide hcells
        clear hsA hfB HX HY hcells
        go_wp2_with fail
        go_end0
        exact ⟨rfl, kunhide HCL, hMr⟩
end Go.Proofs.YtigpfbfkdccdaaaDoor
