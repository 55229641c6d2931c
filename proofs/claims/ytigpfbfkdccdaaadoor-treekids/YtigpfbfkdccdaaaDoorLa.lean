/- What is proved here: TreeTidy's walk: it returns true for any row. -/
import Derived.Test.YtigpfbfkdccdaaaDoorKz
import Derived.Test.YtigpfbfkdccdaaaDoorKr
import Derived.Test.YtigpfbfkdccdaaaDoorKj
import Derived.Test.YtigpfbfkdccdaaaDoorKl
import Derived.Test.YtigpfbfkdccdaaaDoorKb
import Derived.Test.YtigpfbfkdccdaaaDoorKe
import Derived.Test.YtigpfbfkdccdaaaDoorKf
import Derived.Test.YtigpfbfkdccdaaaDoorKy
import Derived.Deep.RegionHeld3
namespace Go.Proofs.YtigpfbfkdccdaaaDoor
open Go.RowKit
set_option linter.unusedVariables false
set_option linter.unusedSimpArgs false

/-- Nine cells of a box in a later world. -/
theorem box_nine {W W' : World} {B : Nat} {x0 x1 x2 x3 x4 x5 x6 x7 x8 : Value} (h : Box W B #[x0, x1, x2, x3, x4, x5, x6, x7, x8]) (hB : Below W.heap.size W W') : W'.cell? ⟨B, 0, none⟩ = some x0 ∧ W'.cell? ⟨B, 1, none⟩ = some x1 ∧ W'.cell? ⟨B, 2, none⟩ = some x2 ∧ W'.cell? ⟨B, 3, none⟩ = some x3 ∧ W'.cell? ⟨B, 4, none⟩ = some x4 ∧ W'.cell? ⟨B, 5, none⟩ = some x5 ∧ W'.cell? ⟨B, 6, none⟩ = some x6 ∧ W'.cell? ⟨B, 7, none⟩ = some x7 ∧ W'.cell? ⟨B, 8, none⟩ = some x8 := by
  have h2 := h.kept (ok := anyB) (Kept.of_below hB) trivial
  exact ⟨h2.1 0, h2.1 1, h2.1 2, h2.1 3, h2.1 4, h2.1 5, h2.1 6, h2.1 7, h2.1 8⟩
/-- The mask of a value is its tree's. -/
theorem Lies.mask {ok : Nat → Prop} {w : World} {n : Nat} {t : Tr} {hd : Hd} {kv dv : Value} (h : Lies ok w n (.agg #[.int .i64 hd.k, .int .u64 (hd.m : Int), .bool hd.ng, .string hd.dg, .int .i64 hd.sc, .string hd.tx, kv, dv, .int .i64 hd.cd]) t) : (Tr.hd t).m = hd.m ∧ hd.m < 18446744073709551616 := by
  obtain ⟨m, h2, l, kv2, dv2, rfl, rfl, e, h64, _, _⟩ := h.open
  have e2 := Value.agg.inj e
  simp only [nine, Array.mk.injEq, List.cons.injEq, Value.int.injEq] at e2
  have e3 : (hd.m : Int) = (h2.m : Int) := e2.2.1.2
  have e4 : hd.m = h2.m := by omega
  rw [Tr.hd_mk, e4]
  exact ⟨rfl, h64⟩

set_option maxHeartbeats 20000000 in
set_option maxRecDepth 1000000 in
theorem tidy_walk (a : Option Addr) (n c : Nat) (w : World) (hn : n ≤ 140737488355328) (hit : ∀ i, i < n → i < 80 → ItemAt w a i) :
    Calls Tryd.prog 7 #[.slice a n c] w fun e w' => e = .returned (.bool true) ∧ Below w.heap.size w w' := by
  have HIT := khide hit
  clear hit
  go_enter Tryd.func7, Tryd.ntmps7
  go_wp2_with fail
  refine (tshown_any _).mono ?_
  rintro e W1 ⟨rfl, b1⟩
  go_wp2_with fail
  refine (built_any a n c W1 hn (fun i hi h8 => (kunhide HIT i hi h8).below b1)).mono ?_
  rintro e W2 ⟨v, t, rfl, hl, hg, hs, b2⟩
  obtain ⟨hd4, ka4, kn4, kc4, da4, dn4, dc4, rfl⟩ := hl.shape
  have hB2 : Below w.heap.size w W2 := b1.trans (b2.mono b1.size)
  have hok : okT 100 t := good_ok 100 t hg
  have h4 : Box (W2.alloc (.cells #[.int .i64 hd4.k, .int .u64 (hd4.m : Int), .bool hd4.ng, .string hd4.dg, .int .i64 hd4.sc, .string hd4.tx, .slice ka4 kn4 kc4, .slice da4 dn4 dc4, .int .i64 hd4.cd] 33)) W2.heap.size #[.int .i64 hd4.k, .int .u64 (hd4.m : Int), .bool hd4.ng, .string hd4.dg, .int .i64 hd4.sc, .string hd4.tx, .slice ka4 kn4 kc4, .slice da4 dn4 dc4, .int .i64 hd4.cd] := Box.new _ _ _
  have hl4 := (hl.any).below ((Below.refl _ W2).alloc (Nat.le_refl _) (.cells #[.int .i64 hd4.k, .int .u64 (hd4.m : Int), .bool hd4.ng, .string hd4.dg, .int .i64 hd4.sc, .string hd4.tx, .slice ka4 kn4 kc4, .slice da4 dn4 dc4, .int .i64 hd4.cd] 33))
  have HB2 := khide (And.intro hB2 (And.intro hok (And.intro hs (And.intro hl4 h4))))
  clear hl hg hs b1 b2 hB2 hok h4 hl4 HIT
  go_wp2_with fail
  refine (tidy_any 100 _ t _ (kunhide HB2).2.2.2.1 (kunhide HB2).2.1 (by have := (kunhide HB2).2.2.1; omega) (by omega)).mono ?_
  rintro e W3 ⟨v3, rfl, hl3, b3⟩
  obtain ⟨hd5, ka5, kn5, kc5, da5, dn5, dc5, rfl⟩ := hl3.shape
  obtain ⟨hB2, hok, hs, hl4, h4⟩ := kunhide HB2
  have hal := (Below.refl _ W3).alloc (Nat.le_refl _) (.cells #[.int .i64 hd5.k, .int .u64 (hd5.m : Int), .bool hd5.ng, .string hd5.dg, .int .i64 hd5.sc, .string hd5.tx, .slice ka5 kn5 kc5, .slice da5 dn5 dc5, .int .i64 hd5.cd] 33)
  have h4 := (h4.kept (ok := anyB) (Kept.of_below b3) trivial).kept (ok := anyB) (Kept.of_below hal) trivial
  have h5 : Box (W3.alloc (.cells #[.int .i64 hd5.k, .int .u64 (hd5.m : Int), .bool hd5.ng, .string hd5.dg, .int .i64 hd5.sc, .string hd5.tx, .slice ka5 kn5 kc5, .slice da5 dn5 dc5, .int .i64 hd5.cd] 33)) W3.heap.size #[.int .i64 hd5.k, .int .u64 (hd5.m : Int), .bool hd5.ng, .string hd5.dg, .int .i64 hd5.sc, .string hd5.tx, .slice ka5 kn5 kc5, .slice da5 dn5 dc5, .int .i64 hd5.cd] := Box.new _ _ _
  have hl4 := (hl4.below b3).below hal
  have hl5 := (hl3.any).below hal
  have hb := hB2.size
  have hc := b3.size
  have hB4 := ((hB2.alloc hb (.cells #[.int .i64 hd4.k, .int .u64 (hd4.m : Int), .bool hd4.ng, .string hd4.dg, .int .i64 hd4.sc, .string hd4.tx, .slice ka4 kn4 kc4, .slice da4 dn4 dc4, .int .i64 hd4.cd] 33)).trans (b3.mono (by simp; omega))).alloc (by simp at hc; omega) (.cells #[.int .i64 hd5.k, .int .u64 (hd5.m : Int), .bool hd5.ng, .string hd5.dg, .int .i64 hd5.sc, .string hd5.tx, .slice ka5 kn5 kc5, .slice da5 dn5 dc5, .int .i64 hd5.cd] 33)
  have HX := khide (And.intro hB4 (And.intro hok (And.intro hs (And.intro hl4 (And.intro hl5 (And.intro h4 h5))))))
  clear hB2 hok hs hl4 hl5 h4 h5 hal hl3 b3 hb hc hB4 HB2
  go_wp2_with fail
  obtain ⟨hB4, hok, hs, hl4, hl5, h4, h5⟩ := kunhide HX
  clear HX
  generalize W3.alloc (.cells #[.int .i64 hd5.k, .int .u64 (hd5.m : Int), .bool hd5.ng, .string hd5.dg, .int .i64 hd5.sc, .string hd5.tx, .slice ka5 kn5 kc5, .slice da5 dn5 dc5, .int .i64 hd5.cd] 33) = W4 at hB4 hl4 hl5 h4 h5 ⊢
  have hok5 := ok_tidy 100 t hok
  have hs5 : sizeT 100 (tidyT 100 t) ≤ 80 := by rw [size_tidy]; exact hs
  obtain ⟨m4, m4l⟩ := hl4.mask
  obtain ⟨m5, m5l⟩ := hl5.mask
  have hmk : bits BinOp.and IntKind.u64 (hd5.m : Int) (hd4.m : Int) = (hd4.m : Int) := by
    rw [u64_and_nat _ _ m5l m4l, ← m4, ← m5, tidy_mask 99 t]
  have HSB := khide (fun (W' : World) (hW : Below W4.heap.size W4 W') => (show W'.cell? ⟨W2.heap.size, 0, none⟩ = some (.int .i64 hd4.k) ∧ W'.cell? ⟨W2.heap.size, 1, none⟩ = some (.int .u64 (hd4.m : Int)) ∧ W'.cell? ⟨W2.heap.size, 2, none⟩ = some (.bool hd4.ng) ∧ W'.cell? ⟨W2.heap.size, 3, none⟩ = some (.string hd4.dg) ∧ W'.cell? ⟨W2.heap.size, 4, none⟩ = some (.int .i64 hd4.sc) ∧ W'.cell? ⟨W2.heap.size, 5, none⟩ = some (.string hd4.tx) ∧ W'.cell? ⟨W2.heap.size, 6, none⟩ = some (.slice ka4 kn4 kc4) ∧ W'.cell? ⟨W2.heap.size, 7, none⟩ = some (.slice da4 dn4 dc4) ∧ W'.cell? ⟨W2.heap.size, 8, none⟩ = some (.int .i64 hd4.cd) ∧ W'.cell? ⟨W3.heap.size, 0, none⟩ = some (.int .i64 hd5.k) ∧ W'.cell? ⟨W3.heap.size, 1, none⟩ = some (.int .u64 (hd5.m : Int)) ∧ W'.cell? ⟨W3.heap.size, 2, none⟩ = some (.bool hd5.ng) ∧ W'.cell? ⟨W3.heap.size, 3, none⟩ = some (.string hd5.dg) ∧ W'.cell? ⟨W3.heap.size, 4, none⟩ = some (.int .i64 hd5.sc) ∧ W'.cell? ⟨W3.heap.size, 5, none⟩ = some (.string hd5.tx) ∧ W'.cell? ⟨W3.heap.size, 6, none⟩ = some (.slice ka5 kn5 kc5) ∧ W'.cell? ⟨W3.heap.size, 7, none⟩ = some (.slice da5 dn5 dc5) ∧ W'.cell? ⟨W3.heap.size, 8, none⟩ = some (.int .i64 hd5.cd) from by
    have p := box_nine h4 hW
    have q := box_nine h5 hW
    exact ⟨p.1, p.2.1, p.2.2.1, p.2.2.2.1, p.2.2.2.2.1, p.2.2.2.2.2.1, p.2.2.2.2.2.2.1, p.2.2.2.2.2.2.2.1, p.2.2.2.2.2.2.2.2, q⟩))
  obtain ⟨Z, hZ⟩ : ∃ Z, sizeT 100 t = Z := ⟨_, rfl⟩
  obtain ⟨Y, hY⟩ : ∃ Y, depthT 100 t = Y := ⟨_, rfl⟩
  obtain ⟨D, hD⟩ : ∃ D, deepT 100 t = D := ⟨_, rfl⟩
  obtain ⟨X, hX⟩ : ∃ X, heldT 100 t = X := ⟨_, rfl⟩
  have HT := khide (fun (W : World) (hW : Below W4.heap.size W4 W) => (show Calls Tryd.prog 27 #[(.agg #[.int .i64 hd5.k, .int .u64 (hd5.m : Int), .bool hd5.ng, .string hd5.dg, .int .i64 hd5.sc, .string hd5.tx, .slice ka5 kn5 kc5, .slice da5 dn5 dc5, .int .i64 hd5.cd])] W fun e w' => ∃ v', e = .returned v' ∧ Lies (fun b => W.heap.size ≤ b) w' 100 v' (tidyT 100 t) ∧ Below W.heap.size W w' from by
    have h := tidy_any 100 _ _ W (hl5.below hW) hok5 (by omega) (by omega)
    rw [tidy_tidy] at h
    exact h))
  have HB5 := khide (fun (W : World) (hW : Below W4.heap.size W4 W) => (show Calls Tryd.prog 28 #[(.agg #[.int .i64 hd5.k, .int .u64 (hd5.m : Int), .bool hd5.ng, .string hd5.dg, .int .i64 hd5.sc, .string hd5.tx, .slice ka5 kn5 kc5, .slice da5 dn5 dc5, .int .i64 hd5.cd])] W fun e w' => ∃ v', e = .returned v' ∧ Lies (orNew anyB W.heap.size) w' 100 v' (bareT 100 t) ∧ Below W.heap.size W w' from by
    have h := rbare_any anyB 100 _ _ W (hl5.below hW) hok5
    rw [bare_tidy] at h
    exact h))
  have HB4 := khide (fun (W : World) (hW : Below W4.heap.size W4 W) => (show Calls Tryd.prog 28 #[(.agg #[.int .i64 hd4.k, .int .u64 (hd4.m : Int), .bool hd4.ng, .string hd4.dg, .int .i64 hd4.sc, .string hd4.tx, .slice ka4 kn4 kc4, .slice da4 dn4 dc4, .int .i64 hd4.cd])] W fun e w' => ∃ v', e = .returned v' ∧ Lies (orNew anyB W.heap.size) w' 100 v' (bareT 100 t) ∧ Below W.heap.size W w' from by
    exact rbare_any anyB 100 _ _ W (hl4.below hW) hok))
  have HZ4 := khide (fun (W : World) (hW : Below W4.heap.size W4 W) => (show Calls Tryd.prog 26 #[(.agg #[.int .i64 hd4.k, .int .u64 (hd4.m : Int), .bool hd4.ng, .string hd4.dg, .int .i64 hd4.sc, .string hd4.tx, .slice ka4 kn4 kc4, .slice da4 dn4 dc4, .int .i64 hd4.cd])] W fun e w' => e = .returned (.tuple #[.int .i64 (Z : Int), .int .i64 (Y : Int)]) ∧ Below W.heap.size W w' from by
    have h := tsize_any anyB 100 _ t W (hl4.below hW) (by omega) (by omega)
    rw [hZ, hY] at h
    exact h))
  have HTB := khide (fun (W : World) (hW : Below W4.heap.size W4 W) => (show Calls Tryd.prog 23 #[(.agg #[.int .i64 hd4.k, .int .u64 (hd4.m : Int), .bool hd4.ng, .string hd4.dg, .int .i64 hd4.sc, .string hd4.tx, .slice ka4 kn4 kc4, .slice da4 dn4 dc4, .int .i64 hd4.cd])] W fun e w' => ∃ v', e = .returned v' ∧ Lies (fun b => W.heap.size ≤ b) w' 100 v' (bareT 100 t) ∧ Below W.heap.size W w' from by
    exact bare_any 100 _ t W (hl4.below hW).any hok))
  have HW4 := khide (fun (W : World) (hW : Below W4.heap.size W4 W) => (show Calls Tryd.prog 24 #[(.agg #[.int .i64 hd4.k, .int .u64 (hd4.m : Int), .bool hd4.ng, .string hd4.dg, .int .i64 hd4.sc, .string hd4.tx, .slice ka4 kn4 kc4, .slice da4 dn4 dc4, .int .i64 hd4.cd]), .int .u64 1] W fun e w' => ∃ v', e = .returned v' ∧ Lies anyB w' 100 v' (withT 1 t) ∧ Below W.heap.size W w' from by
    exact with_any anyB 100 _ t 1 W (hl4.below hW) (by decide)))
  have HF5 := khide (fun (W : World) (hW : Below W4.heap.size W4 W) => (show Calls Tryd.prog 30 #[(.agg #[.int .i64 hd5.k, .int .u64 (hd5.m : Int), .bool hd5.ng, .string hd5.dg, .int .i64 hd5.sc, .string hd5.tx, .slice ka5 kn5 kc5, .slice da5 dn5 dc5, .int .i64 hd5.cd]), .bool false] W fun e w' => e = .returned (.bool true) ∧ Below W.heap.size W w' from by
    have h := flat_any anyB 100 _ _ false W (hl5.below hW) hok5
    rw [flat_tidy] at h
    exact h))
  have HD5 := khide (fun (W : World) (hW : Below W4.heap.size W4 W) => (show Calls Tryd.prog 25 #[(.agg #[.int .i64 hd5.k, .int .u64 (hd5.m : Int), .bool hd5.ng, .string hd5.dg, .int .i64 hd5.sc, .string hd5.tx, .slice ka5 kn5 kc5, .slice da5 dn5 dc5, .int .i64 hd5.cd])] W fun e w' => e = .returned (.int .u64 (D : Int)) ∧ D < 18446744073709551616 ∧ Below W.heap.size W w' from by
    have h := deep_any anyB 100 _ _ W (hl5.below hW) (by omega) (by omega)
    rw [deep_tidy, hD] at h
    exact h))
  have HD4 := khide (fun (W : World) (hW : Below W4.heap.size W4 W) => (show Calls Tryd.prog 25 #[(.agg #[.int .i64 hd4.k, .int .u64 (hd4.m : Int), .bool hd4.ng, .string hd4.dg, .int .i64 hd4.sc, .string hd4.tx, .slice ka4 kn4 kc4, .slice da4 dn4 dc4, .int .i64 hd4.cd])] W fun e w' => e = .returned (.int .u64 (D : Int)) ∧ D < 18446744073709551616 ∧ Below W.heap.size W w' from by
    have h := deep_any anyB 100 _ _ W (hl4.below hW) (by omega) (by omega)
    rw [hD] at h
    exact h))
  have HH5 := khide (fun (W : World) (hW : Below W4.heap.size W4 W) => (show Calls Tryd.prog 29 #[(.agg #[.int .i64 hd5.k, .int .u64 (hd5.m : Int), .bool hd5.ng, .string hd5.dg, .int .i64 hd5.sc, .string hd5.tx, .slice ka5 kn5 kc5, .slice da5 dn5 dc5, .int .i64 hd5.cd])] W fun e w' => e = .returned (.int .i64 (X : Int)) ∧ Below W.heap.size W w' from by
    have h := held_any anyB 100 _ _ W (hl5.below hW) (by omega)
    rw [held_tidy, hX] at h
    exact h))
  have HH4 := khide (fun (W : World) (hW : Below W4.heap.size W4 W) => (show Calls Tryd.prog 29 #[(.agg #[.int .i64 hd4.k, .int .u64 (hd4.m : Int), .bool hd4.ng, .string hd4.dg, .int .i64 hd4.sc, .string hd4.tx, .slice ka4 kn4 kc4, .slice da4 dn4 dc4, .int .i64 hd4.cd])] W fun e w' => e = .returned (.int .i64 (X : Int)) ∧ Below W.heap.size W w' from by
    have h := held_any anyB 100 _ _ W (hl4.below hW) (by omega)
    rw [hX] at h
    exact h))
  have HHB := khide (fun (ok : Nat → Prop) (W : World) (v : Value) (hv : Lies ok W 100 v (bareT 100 t)) => (show Calls Tryd.prog 29 #[v] W fun e w' => e = .returned (.int .i64 (Z : Int)) ∧ Below W.heap.size W w' from by
    have h := held_any ok 100 v _ W hv (by rw [size_bare]; omega)
    rw [held_bare, hZ] at h
    exact h))
  have HHW := khide (fun (ok : Nat → Prop) (W : World) (v : Value) (hv : Lies ok W 100 v (withT 1 t)) => (show Calls Tryd.prog 29 #[v] W fun e w' => e = .returned (.int .i64 1) ∧ Below W.heap.size W w' from by
    have h := held_any ok 100 v _ W hv (by rw [size_with]; omega)
    rw [held_with_one 99] at h
    exact h))
  have HL5 := khide (fun (W : World) (hW : Below W4.heap.size W4 W) => hl5.below hW)
  have HO := khide (And.intro hok (And.intro hok5 (And.intro hs hB4)))
  have hle : (X : Int) ≤ (Z : Int) := by have := held_le 100 t; omega
  have hS : Below W4.heap.size W4 W4 := Below.refl _ _
  clear hok hok5 hs hs5 hl4 hl5 h4 h5 m4 m4l m5 m5l hB4 hZ hY hD hX
  replace hS := hS.drew
  go_region_held3 (fun W' => W'.cell? ⟨W2.heap.size, 0, none⟩ = some (.int .i64 hd4.k) ∧ W'.cell? ⟨W2.heap.size, 1, none⟩ = some (.int .u64 (hd4.m : Int)) ∧ W'.cell? ⟨W2.heap.size, 2, none⟩ = some (.bool hd4.ng) ∧ W'.cell? ⟨W2.heap.size, 3, none⟩ = some (.string hd4.dg) ∧ W'.cell? ⟨W2.heap.size, 4, none⟩ = some (.int .i64 hd4.sc) ∧ W'.cell? ⟨W2.heap.size, 5, none⟩ = some (.string hd4.tx) ∧ W'.cell? ⟨W2.heap.size, 6, none⟩ = some (.slice ka4 kn4 kc4) ∧ W'.cell? ⟨W2.heap.size, 7, none⟩ = some (.slice da4 dn4 dc4) ∧ W'.cell? ⟨W2.heap.size, 8, none⟩ = some (.int .i64 hd4.cd) ∧ W'.cell? ⟨W3.heap.size, 0, none⟩ = some (.int .i64 hd5.k) ∧ W'.cell? ⟨W3.heap.size, 1, none⟩ = some (.int .u64 (hd5.m : Int)) ∧ W'.cell? ⟨W3.heap.size, 2, none⟩ = some (.bool hd5.ng) ∧ W'.cell? ⟨W3.heap.size, 3, none⟩ = some (.string hd5.dg) ∧ W'.cell? ⟨W3.heap.size, 4, none⟩ = some (.int .i64 hd5.sc) ∧ W'.cell? ⟨W3.heap.size, 5, none⟩ = some (.string hd5.tx) ∧ W'.cell? ⟨W3.heap.size, 6, none⟩ = some (.slice ka5 kn5 kc5) ∧ W'.cell? ⟨W3.heap.size, 7, none⟩ = some (.slice da5 dn5 dc5) ∧ W'.cell? ⟨W3.heap.size, 8, none⟩ = some (.int .i64 hd5.cd)) (exact kunhide HSB _ hS) (first | (go_at_call 27; refine (kunhide HT _ hS).mono ?_; rintro e Wn ⟨v6, rfl, hl6, bn⟩; replace hS := hS.trans (bn.mono hS.size); obtain ⟨hd6, ka6, kn6, kc6, da6, dn6, dc6, rfl⟩ := hl6.shape) | (go_at_call 19; refine (rsame_eq anyB anyB 100 _ _ (tidyT 100 t) _ hl6.any (kunhide HL5 _ hS) (kunhide HO).2.1).mono ?_; rintro e Wn ⟨rfl, bn⟩; replace hS := hS.trans (bn.mono hS.size); skip))
  clear hl6 bn
  go_upto_region 5 with fail
  go_cut [7] from 20 to 25 (fun c wx => c = .bool true ∧ Below W4.heap.size W4 wx)
  case first =>
    replace hS := hS.drew
    go_region_held3 (fun W' => W'.cell? ⟨W2.heap.size, 0, none⟩ = some (.int .i64 hd4.k) ∧ W'.cell? ⟨W2.heap.size, 1, none⟩ = some (.int .u64 (hd4.m : Int)) ∧ W'.cell? ⟨W2.heap.size, 2, none⟩ = some (.bool hd4.ng) ∧ W'.cell? ⟨W2.heap.size, 3, none⟩ = some (.string hd4.dg) ∧ W'.cell? ⟨W2.heap.size, 4, none⟩ = some (.int .i64 hd4.sc) ∧ W'.cell? ⟨W2.heap.size, 5, none⟩ = some (.string hd4.tx) ∧ W'.cell? ⟨W2.heap.size, 6, none⟩ = some (.slice ka4 kn4 kc4) ∧ W'.cell? ⟨W2.heap.size, 7, none⟩ = some (.slice da4 dn4 dc4) ∧ W'.cell? ⟨W2.heap.size, 8, none⟩ = some (.int .i64 hd4.cd) ∧ W'.cell? ⟨W3.heap.size, 0, none⟩ = some (.int .i64 hd5.k) ∧ W'.cell? ⟨W3.heap.size, 1, none⟩ = some (.int .u64 (hd5.m : Int)) ∧ W'.cell? ⟨W3.heap.size, 2, none⟩ = some (.bool hd5.ng) ∧ W'.cell? ⟨W3.heap.size, 3, none⟩ = some (.string hd5.dg) ∧ W'.cell? ⟨W3.heap.size, 4, none⟩ = some (.int .i64 hd5.sc) ∧ W'.cell? ⟨W3.heap.size, 5, none⟩ = some (.string hd5.tx) ∧ W'.cell? ⟨W3.heap.size, 6, none⟩ = some (.slice ka5 kn5 kc5) ∧ W'.cell? ⟨W3.heap.size, 7, none⟩ = some (.slice da5 dn5 dc5) ∧ W'.cell? ⟨W3.heap.size, 8, none⟩ = some (.int .i64 hd5.cd)) (exact kunhide HSB _ hS) (first | (go_at_call_of 28 (Value.int IntKind.i64 hd5.k); refine (kunhide HB5 _ hS).mono ?_; rintro e Wn ⟨v6, rfl, hl6, bn⟩; replace hS := hS.trans (bn.mono hS.size); obtain ⟨hd7, ka7, kn7, kc7, da7, dn7, dc7, rfl⟩ := hl6.shape; have L6 := hl6.any; clear hl6; (try replace L7 := L7.below bn); clear bn) | (go_at_call_of 28 (Value.int IntKind.i64 hd4.k); refine (kunhide HB4 _ hS).mono ?_; rintro e Wn ⟨v6, rfl, hl6, bn⟩; replace hS := hS.trans (bn.mono hS.size); obtain ⟨hd8, ka8, kn8, kc8, da8, dn8, dc8, rfl⟩ := hl6.shape; have L7 := hl6.any; clear hl6; (try replace L6 := L6.below bn); clear bn) | (go_at_call 19; refine (rsame_eq anyB anyB 100 _ _ (bareT 100 t) _ L6 L7 (ok_bare 100 t (kunhide HO).1)).mono ?_; rintro e Wn ⟨rfl, bn⟩; replace hS := hS.trans (bn.mono hS.size); clear bn L6 L7))
    all_goals
      go_wp2_with fail
      go_meet
      case rel => exact ⟨rfl, hS⟩
  case rest =>
    obtain ⟨rfl, hS⟩ := hcut
    obtain ⟨x0, x1, x2, x3, x4, x5, x6, x7, x8, y0, y1, y2, y3, y4, y5, y6, y7, y8⟩ := kunhide HSB _ hS
    go_wp2_with fail
    refine (kunhide HZ4 _ hS).mono ?_
    rintro e Wn ⟨rfl, bn⟩
    replace hS := hS.trans (bn.mono hS.size)
    clear bn x0 y0 x1 y1 x2 y2 x3 y3 x4 y4 x5 y5 x6 y6 x7 y7 x8 y8
    obtain ⟨x0, x1, x2, x3, x4, x5, x6, x7, x8, y0, y1, y2, y3, y4, y5, y6, y7, y8⟩ := kunhide HSB _ hS
    go_wp2_with fail
    refine (kunhide HTB _ hS).mono ?_
    rintro e Wn ⟨v6, rfl, hl6, bn⟩
    obtain ⟨hd9, ka9, kn9, kc9, da9, dn9, dc9, rfl⟩ := hl6.shape
    have HC := khide (kunhide HHB _ _ _ hl6)
    replace hS := hS.trans (bn.mono hS.size)
    clear bn hl6 x0 y0 x1 y1 x2 y2 x3 y3 x4 y4 x5 y5 x6 y6 x7 y7 x8 y8
    obtain ⟨x0, x1, x2, x3, x4, x5, x6, x7, x8, y0, y1, y2, y3, y4, y5, y6, y7, y8⟩ := kunhide HSB _ hS
    go_wp2_with fail
    refine (kunhide HC).mono ?_
    rintro e Wn ⟨rfl, bn⟩
    replace hS := hS.trans (bn.mono hS.size)
    clear bn HC x0 y0 x1 y1 x2 y2 x3 y3 x4 y4 x5 y5 x6 y6 x7 y7 x8 y8
    obtain ⟨x0, x1, x2, x3, x4, x5, x6, x7, x8, y0, y1, y2, y3, y4, y5, y6, y7, y8⟩ := kunhide HSB _ hS
    go_wp2_with fail
    refine (kunhide HW4 _ hS).mono ?_
    rintro e Wn ⟨v6, rfl, hl6, bn⟩
    obtain ⟨hdA, kaA, knA, kcA, daA, dnA, dcA, rfl⟩ := hl6.shape
    have HC := khide (kunhide HHW _ _ _ hl6)
    replace hS := hS.trans (bn.mono hS.size)
    clear bn hl6 x0 y0 x1 y1 x2 y2 x3 y3 x4 y4 x5 y5 x6 y6 x7 y7 x8 y8
    obtain ⟨x0, x1, x2, x3, x4, x5, x6, x7, x8, y0, y1, y2, y3, y4, y5, y6, y7, y8⟩ := kunhide HSB _ hS
    go_wp2_with fail
    refine (kunhide HC).mono ?_
    rintro e Wn ⟨rfl, bn⟩
    replace hS := hS.trans (bn.mono hS.size)
    clear bn HC x0 y0 x1 y1 x2 y2 x3 y3 x4 y4 x5 y5 x6 y6 x7 y7 x8 y8
    go_wp2_with fail
    replace hS := hS.drew
    go_region_held3 (fun W' => W'.cell? ⟨W2.heap.size, 0, none⟩ = some (.int .i64 hd4.k) ∧ W'.cell? ⟨W2.heap.size, 1, none⟩ = some (.int .u64 (hd4.m : Int)) ∧ W'.cell? ⟨W2.heap.size, 2, none⟩ = some (.bool hd4.ng) ∧ W'.cell? ⟨W2.heap.size, 3, none⟩ = some (.string hd4.dg) ∧ W'.cell? ⟨W2.heap.size, 4, none⟩ = some (.int .i64 hd4.sc) ∧ W'.cell? ⟨W2.heap.size, 5, none⟩ = some (.string hd4.tx) ∧ W'.cell? ⟨W2.heap.size, 6, none⟩ = some (.slice ka4 kn4 kc4) ∧ W'.cell? ⟨W2.heap.size, 7, none⟩ = some (.slice da4 dn4 dc4) ∧ W'.cell? ⟨W2.heap.size, 8, none⟩ = some (.int .i64 hd4.cd) ∧ W'.cell? ⟨W3.heap.size, 0, none⟩ = some (.int .i64 hd5.k) ∧ W'.cell? ⟨W3.heap.size, 1, none⟩ = some (.int .u64 (hd5.m : Int)) ∧ W'.cell? ⟨W3.heap.size, 2, none⟩ = some (.bool hd5.ng) ∧ W'.cell? ⟨W3.heap.size, 3, none⟩ = some (.string hd5.dg) ∧ W'.cell? ⟨W3.heap.size, 4, none⟩ = some (.int .i64 hd5.sc) ∧ W'.cell? ⟨W3.heap.size, 5, none⟩ = some (.string hd5.tx) ∧ W'.cell? ⟨W3.heap.size, 6, none⟩ = some (.slice ka5 kn5 kc5) ∧ W'.cell? ⟨W3.heap.size, 7, none⟩ = some (.slice da5 dn5 dc5) ∧ W'.cell? ⟨W3.heap.size, 8, none⟩ = some (.int .i64 hd5.cd)) (exact kunhide HSB _ hS) (first | (go_at_call 30; refine (kunhide HF5 _ hS).mono ?_; rintro e Wn ⟨rfl, bn⟩; replace hS := hS.trans (bn.mono hS.size); clear bn) | (go_at_call_of 25 (Value.int IntKind.i64 hd5.k); refine (kunhide HD5 _ hS).mono ?_; rintro e Wn ⟨rfl, hdl, bn⟩; replace hS := hS.trans (bn.mono hS.size); clear bn hdl) | (go_at_call_of 25 (Value.int IntKind.i64 hd4.k); refine (kunhide HD4 _ hS).mono ?_; rintro e Wn ⟨rfl, hdl, bn⟩; replace hS := hS.trans (bn.mono hS.size); clear bn hdl) | (go_at_call_of 29 (Value.int IntKind.i64 hd5.k); refine (kunhide HH5 _ hS).mono ?_; rintro e Wn ⟨rfl, bn⟩; replace hS := hS.trans (bn.mono hS.size); clear bn) | (go_at_call_of 29 (Value.int IntKind.i64 hd4.k); refine (kunhide HH4 _ hS).mono ?_; rintro e Wn ⟨rfl, bn⟩; replace hS := hS.trans (bn.mono hS.size); clear bn))
    all_goals
      go_wp2_with fail
      go_ret
      exact ⟨rfl, (kunhide HO).2.2.2.trans (hS.mono (kunhide HO).2.2.2.size)⟩
end Go.Proofs.YtigpfbfkdccdaaaDoor
