/- What is proved here: TreeMasks's walk: it returns true for any row, mask and place. -/
import Derived.Test.YtigpfbfkdccdaaaDoorLa
import Derived.Test.YtigpfbfkdccdaaaDoorLc
namespace Go.Proofs.YtigpfbfkdccdaaaDoor
open Go.RowKit
set_option linter.unusedVariables false
set_option linter.unusedSimpArgs false

theorem fold_max_le (f g : Tr → Nat) (h : ∀ k, f k ≤ g k) : ∀ (l : List Tr) (a : Nat), l.foldl (fun a k => max a (f k)) a ≤ a + (l.map g).sum
  | [], a => by simp
  | k :: r, a => by
    have h1 := fold_max_le f g h r (max a (f k))
    have h2 := h k
    rw [List.foldl_cons, List.map_cons, List.sum_cons]
    omega
theorem depth_le : ∀ (n : Nat) (t : Tr), depthT n t ≤ sizeT n t
  | 0, _ => Nat.zero_le _
  | n + 1, t => by
    have := fold_max_le (depthT n) (sizeT n) (depth_le n) (Tr.kd t) 0
    show 1 + _ ≤ 1 + _
    omega
theorem depth_one (n : Nat) (t : Tr) : 1 ≤ depthT (n + 1) t := by
  show 1 ≤ 1 + _
  omega
theorem deep_with (n m : Nat) (t : Tr) : deepT (n + 1) (withT m t) = deepT (n + 1) t ||| m := by
  show (Tr.kd t).foldl (fun a k => a ||| deepT n k) ((Tr.hd t).m ||| m) = (Tr.kd t).foldl (fun a k => a ||| deepT n k) (Tr.hd t).m ||| m
  rw [fold_or, fold_or (deepT n) (Tr.kd t) (Tr.hd t).m, Nat.or_assoc, Nat.or_assoc, Nat.or_comm m]
theorem sub_or {a b : Nat} (c : Nat) (h : a &&& b = a) : a &&& (b ||| c) = a := by
  apply Nat.eq_of_testBit_eq
  intro i
  have := congrArg (fun x => x.testBit i) h
  simp only [Nat.testBit_and, Nat.testBit_or] at this ⊢
  cases ha : a.testBit i <;> cases hb : b.testBit i <;> simp_all
theorem sub_or' {a b : Nat} (c : Nat) (h : a &&& b = a) : a &&& (c ||| b) = a := by rw [Nat.or_comm]; exact sub_or c h
theorem fold_sub (f : Tr → Nat) (k : Tr) : ∀ (l : List Tr) (a : Nat), k ∈ l → f k &&& l.foldl (fun a k => a ||| f k) a = f k
  | [], _, h => absurd h (by simp)
  | x :: r, a, h => by
    rw [List.foldl_cons, fold_or]
    rcases List.mem_cons.1 h with rfl | h
    · exact sub_or _ (sub_or' _ (Nat.and_self _))
    · have := fold_sub f k r 0 h
      exact sub_or' _ this
/-- A kid's masks are its parent's. -/
theorem deep_kid {n : Nat} {t k : Tr} (h : k ∈ Tr.kd t) : deepT n k &&& deepT (n + 1) t = deepT n k := fold_sub (deepT n) k (Tr.kd t) _ h
theorem deep_self (n : Nat) (t : Tr) : (Tr.hd t).m &&& deepT (n + 1) t = (Tr.hd t).m := by
  obtain ⟨x, hx⟩ := deep_own n t
  rw [hx]
  exact sub_or _ (Nat.and_self _)
theorem sub_both {a b c : Nat} (h1 : a &&& c = a) (h2 : b &&& c = b) : (a ||| b) &&& c = a ||| b := by
  rw [Nat.and_or_distrib_right, h1, h2]
theorem andNot_none {a b : Nat} (ha : a < 18446744073709551616) (hb : b < 18446744073709551616) (h : a &&& b = a) : bits BinOp.andNot IntKind.u64 (a : Int) (b : Int) = 0 := by
  rw [u64_andNot_nat a b ha hb]
  have : a &&& (18446744073709551615 - b) = 0 := by
    apply Nat.eq_of_testBit_eq
    intro i
    have h1 := congrArg (fun x => x.testBit i) h
    have h2 : (18446744073709551615 - b).testBit i = (decide (i < 64) && !b.testBit i) := by
      have := Nat.testBit_two_pow_sub_succ (n := 64) (x := b) hb i
      rw [← this]
      congr 1
      omega
    simp only [Nat.testBit_and] at h1 ⊢
    rw [h2, Nat.zero_testBit]
    cases ha : a.testBit i <;> cases hb : b.testBit i <;> simp_all
  rw [this]
  rfl
theorem fold_lt (f : Tr → Nat) : ∀ (l : List Tr) (a : Nat), a < 18446744073709551616 → (∀ k, k ∈ l → f k < 18446744073709551616) → l.foldl (fun a k => a ||| f k) a < 18446744073709551616
  | [], _, h, _ => h
  | k :: r, a, h, hk => fold_lt f r (a ||| f k) (or_lt h (hk k (by simp))) (fun x hx => hk x (by simp [hx]))
theorem deep_lt64 {ok : Nat → Prop} {w : World} : ∀ {n : Nat} {v : Value} {t : Tr}, Lies ok w n v t → deepT n t < 18446744073709551616
  | 0, _, _, h => h.elim
  | n + 1, v, t, h => by
    obtain ⟨hd, l, ka, kc, da, dc, rfl, rfl, hm64, _, _, _, hkid⟩ := h.node
    refine fold_lt (deepT n) l hd.m hm64 (fun k hk => ?_)
    obtain ⟨i, hi, rfl⟩ := List.getElem_of_mem hk
    obtain ⟨b, o, cs, _, _, _, _, hlk⟩ := hkid i hi
    exact deep_lt64 hlk
/-- Nine cells of a block. -/
def Nine (W : World) (B : Nat) (c : Array Value) : Prop := (∀ r, r < 9 → W.cell? ⟨B, r, none⟩ = c[r]?) ∧ B < W.heap.size
theorem Nine.below {W W' : World} {B : Nat} {c : Array Value} (h : Nine W B c) (hB : Below W.heap.size W W') : Nine W' B c :=
  ⟨fun r hr => by rw [hB.cell (p := ⟨B, r, none⟩) h.2]; exact h.1 r hr, Nat.lt_of_lt_of_le h.2 hB.size⟩
theorem Nine.of {W : World} {B : Nat} {c : Array Value} (h : Box W B c) : Nine W B c := ⟨fun r _ => h.1 r, h.2.2⟩
theorem Nine.all {W : World} {B : Nat} {x0 x1 x2 x3 x4 x5 x6 x7 x8 : Value} (h : Nine W B #[x0, x1, x2, x3, x4, x5, x6, x7, x8]) : W.cell? ⟨B, 0, none⟩ = some x0 ∧ W.cell? ⟨B, 1, none⟩ = some x1 ∧ W.cell? ⟨B, 2, none⟩ = some x2 ∧ W.cell? ⟨B, 3, none⟩ = some x3 ∧ W.cell? ⟨B, 4, none⟩ = some x4 ∧ W.cell? ⟨B, 5, none⟩ = some x5 ∧ W.cell? ⟨B, 6, none⟩ = some x6 ∧ W.cell? ⟨B, 7, none⟩ = some x7 ∧ W.cell? ⟨B, 8, none⟩ = some x8 :=
  ⟨h.1 0 (by omega), h.1 1 (by omega), h.1 2 (by omega), h.1 3 (by omega), h.1 4 (by omega), h.1 5 (by omega), h.1 6 (by omega), h.1 7 (by omega), h.1 8 (by omega)⟩
theorem nine_store {W : World} {B : Nat} (v0 v1 v2 v3 v4 v5 v6 v7 v8 : Value) (hs : ∀ r, r < 9 → (W.cell? ⟨B, r, none⟩).isSome = true) (hB : B < W.heap.size) : Nine (W.setCells B 0 [v0, v1, v2, v3, v4, v5, v6, v7, v8]) B #[v0, v1, v2, v3, v4, v5, v6, v7, v8] := by
  obtain ⟨r0, r1, r2, r3, r4, r5, r6, r7, r8⟩ := res9 W B v0 v1 v2 v3 v4 v5 v6 v7 v8 hs
  refine ⟨fun r hr => ?_, by rw [(setCells_frame B _ 0 W).1]; exact hB⟩
  match r, hr with
  | 0, _ => exact r0
  | 1, _ => exact r1
  | 2, _ => exact r2
  | 3, _ => exact r3
  | 4, _ => exact r4
  | 5, _ => exact r5
  | 6, _ => exact r6
  | 7, _ => exact r7
  | 8, _ => exact r8

set_option maxHeartbeats 20000000 in
set_option maxRecDepth 1000000 in
theorem masks_walk (a : Option Addr) (n c mask : Nat) (z : Int) (w : World) (hn : n ≤ 140737488355328) (hit : ∀ i, i < n → i < 80 → ItemAt w a i) (hmask : mask < 18446744073709551616) (hz1 : -9223372036854775808 ≤ z) (hz2 : z ≤ 9223372036854775807) :
    Calls Tryd.prog 6 #[.slice a n c, .int .u64 (mask : Int), .int .i64 z] w fun e w' => e = .returned (.bool true) ∧ Below w.heap.size w w' := by
  have HIT := khide hit
  have HZB := khide (And.intro hz1 hz2)
  clear hit hz1 hz2
  go_enter Tryd.func6, Tryd.ntmps6
  go_wp2_with fail
  refine (tshown_any _).mono ?_
  rintro e W1 ⟨rfl, b1⟩
  go_wp2_with fail
  refine (built_any a n c W1 hn (fun i hi h8 => (kunhide HIT i hi h8).below b1)).mono ?_
  rintro e W2 ⟨v, t, rfl, hl, hg, hs, b2⟩
  have hB2 : Below w.heap.size w W2 := b1.trans (b2.mono b1.size)
  have hok : okT 100 t := good_ok 100 t hg
  have hlA := hl.any
  obtain ⟨h, l, ka, kc, da, dc, rfl, rfl, hm64, hkc, hdc, hks, hkid⟩ := hlA.node
  have h4 : Box (W2.alloc (.cells #[.int .i64 h.k, .int .u64 (h.m : Int), .bool h.ng, .string h.dg, .int .i64 h.sc, .string h.tx, .slice ka h.ks.length kc, .slice da l.length dc, .int .i64 h.cd] 33)) W2.heap.size #[.int .i64 h.k, .int .u64 (h.m : Int), .bool h.ng, .string h.dg, .int .i64 h.sc, .string h.tx, .slice ka h.ks.length kc, .slice da l.length dc, .int .i64 h.cd] := Box.new _ _ _
  have hal := (Below.refl _ W2).alloc (Nat.le_refl _) (.cells #[.int .i64 h.k, .int .u64 (h.m : Int), .bool h.ng, .string h.dg, .int .i64 h.sc, .string h.tx, .slice ka h.ks.length kc, .slice da l.length dc, .int .i64 h.cd] 33)
  have hl4 := hlA.below hal
  have HB2 := khide (And.intro hB2 (And.intro hok (And.intro hs (And.intro hl4 (And.intro h4 hg)))))
  have HKS := khide hks
  have HKID := khide hkid
  have HCK := khide (And.intro hkc hdc)
  clear hl hlA hg hs b1 b2 hB2 hok h4 hl4 HIT hal hks hkid hkc hdc
  go_wp2_with fail
  refine (with_any anyB 100 _ _ mask _ (kunhide HB2).2.2.2.1 hmask).mono ?_
  rintro e W3 ⟨v3, rfl, hl3, b3⟩
  obtain ⟨hd9, ka9, kn9, kc9, da9, dn9, dc9, rfl⟩ := hl3.shape
  obtain ⟨hB2, hok, hs, hl4, h4, hg⟩ := kunhide HB2
  have hal := (Below.refl _ W3).alloc (Nat.le_refl _) (.cells #[.int .i64 hd9.k, .int .u64 (hd9.m : Int), .bool hd9.ng, .string hd9.dg, .int .i64 hd9.sc, .string hd9.tx, .slice ka9 kn9 kc9, .slice da9 dn9 dc9, .int .i64 hd9.cd] 33)
  have h4 := (h4.kept (ok := anyB) (Kept.of_below b3) trivial).kept (ok := anyB) (Kept.of_below hal) trivial
  have h5 : Box (W3.alloc (.cells #[.int .i64 hd9.k, .int .u64 (hd9.m : Int), .bool hd9.ng, .string hd9.dg, .int .i64 hd9.sc, .string hd9.tx, .slice ka9 kn9 kc9, .slice da9 dn9 dc9, .int .i64 hd9.cd] 33)) W3.heap.size #[.int .i64 hd9.k, .int .u64 (hd9.m : Int), .bool hd9.ng, .string hd9.dg, .int .i64 hd9.sc, .string hd9.tx, .slice ka9 kn9 kc9, .slice da9 dn9 dc9, .int .i64 hd9.cd] := Box.new _ _ _
  have hl4 := (hl4.below b3).below hal
  have hl5 := hl3.below hal
  have hb := hB2.size
  have hc := b3.size
  have hB4 := ((hB2.alloc hb (.cells #[.int .i64 h.k, .int .u64 (h.m : Int), .bool h.ng, .string h.dg, .int .i64 h.sc, .string h.tx, .slice ka h.ks.length kc, .slice da l.length dc, .int .i64 h.cd] 33)).trans (b3.mono (by simp; omega))).alloc (by simp at hc; omega) (.cells #[.int .i64 hd9.k, .int .u64 (hd9.m : Int), .bool hd9.ng, .string hd9.dg, .int .i64 hd9.sc, .string hd9.tx, .slice ka9 kn9 kc9, .slice da9 dn9 dc9, .int .i64 hd9.cd] 33)
  have hB24 := ((Below.refl W2.heap.size W2).alloc (Nat.le_refl _) (.cells #[.int .i64 h.k, .int .u64 (h.m : Int), .bool h.ng, .string h.dg, .int .i64 h.sc, .string h.tx, .slice ka h.ks.length kc, .slice da l.length dc, .int .i64 h.cd] 33)).trans ((b3.mono (by simp)).trans (hal.mono (by simp at hc; omega)))
  have HX := khide (And.intro hB4 (And.intro hok (And.intro hs (And.intro hl4 (And.intro hl5 (And.intro h4 (And.intro h5 (And.intro hg hB24))))))))
  clear hB2 hok hs hl4 hl5 h4 h5 hal hl3 b3 hb hc hB4 HB2 hg hB24
  go_upto_region 4 with fail
  obtain ⟨hB4, hok, hs, hl4, hl5, h4, h5, hg, hB24⟩ := kunhide HX
  clear HX
  generalize W3.alloc (.cells #[.int .i64 hd9.k, .int .u64 (hd9.m : Int), .bool hd9.ng, .string hd9.dg, .int .i64 hd9.sc, .string hd9.tx, .slice ka9 kn9 kc9, .slice da9 dn9 dc9, .int .i64 hd9.cd] 33) = W4 at hB4 hl4 hl5 h4 h5 hB24 ⊢
  obtain ⟨D, hD⟩ : ∃ D, deepT 100 (Tr.mk h l) = D := ⟨_, rfl⟩
  obtain ⟨Z, hZ⟩ : ∃ Z, sizeT 100 (Tr.mk h l) = Z := ⟨_, rfl⟩
  obtain ⟨Y, hY⟩ : ∃ Y, depthT 100 (Tr.mk h l) = Y := ⟨_, rfl⟩
  have hD64 : D < 18446744073709551616 := by rw [← hD]; exact deep_lt64 hl4
  have hDs : h.m &&& D = h.m := by rw [← hD]; exact deep_self 99 (Tr.mk h l)
  obtain ⟨DM, hDM⟩ : ∃ DM, D ||| mask = DM := ⟨_, rfl⟩
  have hor : bits BinOp.or IntKind.u64 (D : Int) (mask : Int) = (DM : Int) := by rw [u64_or_nat _ _ hD64 hmask, hDM]
  have hand : bits BinOp.and IntKind.u64 (D : Int) (h.m : Int) = (h.m : Int) := by rw [u64_and_nat _ _ hD64 hm64, Nat.and_comm, hDs]
  have hYZ : (Y : Int) ≤ (Z : Int) := by have := depth_le 100 (Tr.mk h l); omega
  have hY1 : (1 : Int) ≤ (Y : Int) := by have q : 1 ≤ depthT 100 (Tr.mk h l) := depth_one 99 (Tr.mk h l); omega
  have hl80 : l.length ≤ 80 := by
    have h1 := len_le_sum (sizeT 99) (sizeT_pos 99) l
    have h2 : 1 + (l.map (sizeT 99)).sum ≤ 80 := hs
    omega
  have HSB := khide (fun (W' : World) (hW : Below W4.heap.size W4 W') => (show W'.cell? ⟨W2.heap.size, 0, none⟩ = some (.int .i64 h.k) ∧ W'.cell? ⟨W2.heap.size, 1, none⟩ = some (.int .u64 (h.m : Int)) ∧ W'.cell? ⟨W2.heap.size, 2, none⟩ = some (.bool h.ng) ∧ W'.cell? ⟨W2.heap.size, 3, none⟩ = some (.string h.dg) ∧ W'.cell? ⟨W2.heap.size, 4, none⟩ = some (.int .i64 h.sc) ∧ W'.cell? ⟨W2.heap.size, 5, none⟩ = some (.string h.tx) ∧ W'.cell? ⟨W2.heap.size, 6, none⟩ = some (.slice ka h.ks.length kc) ∧ W'.cell? ⟨W2.heap.size, 7, none⟩ = some (.slice da l.length dc) ∧ W'.cell? ⟨W2.heap.size, 8, none⟩ = some (.int .i64 h.cd) ∧ W'.cell? ⟨W3.heap.size, 0, none⟩ = some (.int .i64 hd9.k) ∧ W'.cell? ⟨W3.heap.size, 1, none⟩ = some (.int .u64 (hd9.m : Int)) ∧ W'.cell? ⟨W3.heap.size, 2, none⟩ = some (.bool hd9.ng) ∧ W'.cell? ⟨W3.heap.size, 3, none⟩ = some (.string hd9.dg) ∧ W'.cell? ⟨W3.heap.size, 4, none⟩ = some (.int .i64 hd9.sc) ∧ W'.cell? ⟨W3.heap.size, 5, none⟩ = some (.string hd9.tx) ∧ W'.cell? ⟨W3.heap.size, 6, none⟩ = some (.slice ka9 kn9 kc9) ∧ W'.cell? ⟨W3.heap.size, 7, none⟩ = some (.slice da9 dn9 dc9) ∧ W'.cell? ⟨W3.heap.size, 8, none⟩ = some (.int .i64 hd9.cd) from by
    have p := box_nine h4 hW
    have q := box_nine h5 hW
    exact ⟨p.1, p.2.1, p.2.2.1, p.2.2.2.1, p.2.2.2.2.1, p.2.2.2.2.2.1, p.2.2.2.2.2.2.1, p.2.2.2.2.2.2.2.1, p.2.2.2.2.2.2.2.2, q⟩))
  have HD5 := khide (fun (W : World) (hW : Below W4.heap.size W4 W) => (show Calls Tryd.prog 25 #[(.agg #[.int .i64 hd9.k, .int .u64 (hd9.m : Int), .bool hd9.ng, .string hd9.dg, .int .i64 hd9.sc, .string hd9.tx, .slice ka9 kn9 kc9, .slice da9 dn9 dc9, .int .i64 hd9.cd])] W fun e w' => e = .returned (.int .u64 (DM : Int)) ∧ DM < 18446744073709551616 ∧ Below W.heap.size W w' from by
    have h := deep_any anyB 100 _ _ W (hl5.below hW) (by rw [size_with]; omega) (by omega)
    rw [deep_with 99, hD, hDM] at h
    exact h))
  have HD4 := khide (fun (W : World) (hW : Below W4.heap.size W4 W) => (show Calls Tryd.prog 25 #[(.agg #[.int .i64 h.k, .int .u64 (h.m : Int), .bool h.ng, .string h.dg, .int .i64 h.sc, .string h.tx, .slice ka h.ks.length kc, .slice da l.length dc, .int .i64 h.cd])] W fun e w' => e = .returned (.int .u64 (D : Int)) ∧ D < 18446744073709551616 ∧ Below W.heap.size W w' from by
    have h := deep_any anyB 100 _ _ W (hl4.below hW) (by omega) (by omega)
    rw [hD] at h
    exact h))
  have HTB := khide (fun (W : World) (hW : Below W4.heap.size W4 W) => (show Calls Tryd.prog 23 #[(.agg #[.int .i64 h.k, .int .u64 (h.m : Int), .bool h.ng, .string h.dg, .int .i64 h.sc, .string h.tx, .slice ka h.ks.length kc, .slice da l.length dc, .int .i64 h.cd])] W fun e w' => ∃ v', e = .returned v' ∧ Lies (fun b => W.heap.size ≤ b) w' 100 v' (bareT 100 (Tr.mk h l)) ∧ Below W.heap.size W w' from by
    exact bare_any 100 _ _ W (hl4.below hW) hok))
  have HZ4 := khide (fun (W : World) (hW : Below W4.heap.size W4 W) => (show Calls Tryd.prog 26 #[(.agg #[.int .i64 h.k, .int .u64 (h.m : Int), .bool h.ng, .string h.dg, .int .i64 h.sc, .string h.tx, .slice ka h.ks.length kc, .slice da l.length dc, .int .i64 h.cd])] W fun e w' => e = .returned (.tuple #[.int .i64 (Z : Int), .int .i64 (Y : Int)]) ∧ Below W.heap.size W w' from by
    have h := tsize_any anyB 100 _ _ W (hl4.below hW) (by omega) (by omega)
    rw [hZ, hY] at h
    exact h))
  have HDB := khide (fun (ok : Nat → Prop) (W : World) (v : Value) (hv : Lies ok W 100 v (bareT 100 (Tr.mk h l))) => (show Calls Tryd.prog 25 #[v] W fun e w' => e = .returned (.int .u64 0) ∧ (0 : Nat) < 18446744073709551616 ∧ Below W.heap.size W w' from by
    have h := deep_any ok 100 v _ W hv (by rw [size_bare]; omega) (by omega)
    rw [deep_bare] at h
    exact h))
  have HL4 := khide (fun (W : World) (hW : Below W4.heap.size W4 W) => hl4.below hW)
  have HL4b := khide (fun (W : World) (hW : Below W4.heap.size W4 W) => (hl4.weak (ok' := fun b => b < W4.heap.size) (fun b hb _ => hb)).below hW)
  have HO := khide (And.intro hok (And.intro hs (And.intro hB4 (And.intro hg (And.intro hD64 (And.intro hD hB24))))))
  have hS : Below W4.heap.size W4 W4 := Below.refl _ _
  clear hok hs hl4 hl5 h4 h5 hB4 hZ hY hD hD64 hDs hg hDM hB24
  go_cut [47] from 25 to 48 (fun c wx => c = .bool false ∧ Below W4.heap.size W4 wx)
  case first =>
    replace hS := hS.drew
    go_region_held3 (fun W' => W'.cell? ⟨W2.heap.size, 0, none⟩ = some (.int .i64 h.k) ∧ W'.cell? ⟨W2.heap.size, 1, none⟩ = some (.int .u64 (h.m : Int)) ∧ W'.cell? ⟨W2.heap.size, 2, none⟩ = some (.bool h.ng) ∧ W'.cell? ⟨W2.heap.size, 3, none⟩ = some (.string h.dg) ∧ W'.cell? ⟨W2.heap.size, 4, none⟩ = some (.int .i64 h.sc) ∧ W'.cell? ⟨W2.heap.size, 5, none⟩ = some (.string h.tx) ∧ W'.cell? ⟨W2.heap.size, 6, none⟩ = some (.slice ka h.ks.length kc) ∧ W'.cell? ⟨W2.heap.size, 7, none⟩ = some (.slice da l.length dc) ∧ W'.cell? ⟨W2.heap.size, 8, none⟩ = some (.int .i64 h.cd) ∧ W'.cell? ⟨W3.heap.size, 0, none⟩ = some (.int .i64 hd9.k) ∧ W'.cell? ⟨W3.heap.size, 1, none⟩ = some (.int .u64 (hd9.m : Int)) ∧ W'.cell? ⟨W3.heap.size, 2, none⟩ = some (.bool hd9.ng) ∧ W'.cell? ⟨W3.heap.size, 3, none⟩ = some (.string hd9.dg) ∧ W'.cell? ⟨W3.heap.size, 4, none⟩ = some (.int .i64 hd9.sc) ∧ W'.cell? ⟨W3.heap.size, 5, none⟩ = some (.string hd9.tx) ∧ W'.cell? ⟨W3.heap.size, 6, none⟩ = some (.slice ka9 kn9 kc9) ∧ W'.cell? ⟨W3.heap.size, 7, none⟩ = some (.slice da9 dn9 dc9) ∧ W'.cell? ⟨W3.heap.size, 8, none⟩ = some (.int .i64 hd9.cd)) (exact kunhide HSB _ hS) (first | (go_at_call_of 25 (Value.int IntKind.i64 hd9.k); refine (kunhide HD5 _ hS).mono ?_; rintro e Wn ⟨rfl, hdl, bn⟩; replace hS := hS.trans (bn.mono hS.size); clear bn hdl) | (go_at_call_of 25 (Value.int IntKind.i64 h.k); refine (kunhide HD4 _ hS).mono ?_; rintro e Wn ⟨rfl, hdl, bn⟩; replace hS := hS.trans (bn.mono hS.size); clear bn hdl) | (go_at_call 23; refine (kunhide HTB _ hS).mono ?_; rintro e Wn ⟨v6, rfl, hl6, bn⟩; replace hS := hS.trans (bn.mono hS.size); obtain ⟨hd6, ka6, kn6, kc6, da6, dn6, dc6, rfl⟩ := hl6.shape; have HC := khide (kunhide HDB _ _ _ hl6); clear hl6 bn) | (go_at_call_of 25 (Value.int IntKind.i64 hd6.k); refine (kunhide HC).mono ?_; rintro e Wn ⟨rfl, hdl, bn⟩; replace hS := hS.trans (bn.mono hS.size); clear bn hdl HC))
    all_goals
      go_wp2_with fail
      go_meet
      case rel => exact ⟨rfl, hS⟩
  case rest =>
    obtain ⟨rfl, hS⟩ := hcut
    clear hor hand
    obtain ⟨x0, x1, x2, x3, x4, x5, x6, x7, x8, y0, y1, y2, y3, y4, y5, y6, y7, y8⟩ := kunhide HSB _ hS
    by_cases hA : (h.k = 6 ∨ h.k = 7) ∧ 0 ≤ z ∧ z < (l.length : Int)
    · obtain ⟨hk67, hz0, hzl⟩ := hA
      obtain ⟨i, rfl⟩ : ∃ i : Nat, z = (i : Int) := ⟨z.toNat, by omega⟩
      have hi : i < l.length := by omega
      obtain ⟨x, hx⟩ : ∃ x, l[i]'hi = x := ⟨_, rfl⟩
      have hmem : x ∈ l := by rw [← hx]; exact List.getElem_mem hi
      have okx : okT 99 x := (kunhide HO).1.2.2 x hmem
      obtain ⟨b, o, hd2, ka2, kn2, kc2, da2, dn2, dc2, hda, hb, ⟨c0, c1, c2, c3, c4, c5, c6, c7, c8⟩, hlies⟩ := kid_at (kunhide HKID) (kunhide HO).2.2.2.2.2.2 i hi
      have hb4 : b < W4.heap.size := Nat.lt_of_lt_of_le hb (kunhide HO).2.2.2.2.2.2.size
      rw [hx] at hlies
      obtain ⟨m2, m2l⟩ := hlies.mask
      have HKM := khide (fun (W : World) (hW : Below W4.heap.size W4 W) => (hW.cell (p := ⟨b, o + i * 9 + 1, none⟩) hb4).trans c1)
      subst hda
      clear hz0 hlies c0 c1 c2 c3 c4 c5 c6 c7 c8
      rcases hk67 with k6 | k7
      · have e1 : (h.k == 6) = true := by rw [k6]; rfl
        have e2 : (h.k == 7) = false := by rw [k6]; rfl
        have hsub : wrap64 ((i : Int) - (l.length : Int)) = (i : Int) - (l.length : Int) := by unfold wrap64; omega
        have HA1 := khide (fun (W : World) (hW : Below W4.heap.size W4 W) (z : Int) (hz : z = (i : Int) ∨ z = (i : Int) - (l.length : Int)) => (show Calls Tryd.prog 17 #[(.agg #[.int .i64 h.k, .int .u64 (h.m : Int), .bool h.ng, .string h.dg, .int .i64 h.sc, .string h.tx, .slice ka h.ks.length kc, .slice (some ⟨b, o, none⟩) l.length dc, .int .i64 h.cd]), .int .i64 z] W fun e w' => ∃ v', e = .returned (.tuple #[v', .bool true]) ∧ Lies anyB w' 99 v' (withT h.m x) ∧ Below W.heap.size W w' from by
          have q := at_in anyB 99 i z _ (Tr.mk h l) W (kunhide HL4 W hW) k6 (by show l.length ≤ 1000000; omega) hi hz
          have e : (Tr.kd (Tr.mk h l))[i]'hi = x := hx
          rw [e] at q
          exact q))
        clear k6 hx hmem
        go_wp2_with fail
        refine (kunhide HA1 _ hS (i : Int) (.inl rfl)).mono ?_
        rintro e Wn ⟨v10, rfl, hl10, bn⟩
        obtain ⟨hdA, kaA, knA, kcA, daA, dnA, dcA, rfl⟩ := hl10.shape
        replace hS := hS.trans (bn.mono hS.size)
        clear bn x0 y0 x1 y1 x2 y2 x3 y3 x4 y4 x5 y5 x6 y6 x7 y7 x8 y8
        go_upto_region 8 with fail
        have hal := (Below.refl _ Wn).alloc (Nat.le_refl _) (.cells #[.int .i64 hdA.k, .int .u64 (hdA.m : Int), .bool hdA.ng, .string hdA.dg, .int .i64 hdA.sc, .string hdA.tx, .slice kaA knA kcA, .slice daA dnA dcA, .int .i64 hdA.cd] 33)
        have N10 := Nine.of (Box.new Wn #[.int .i64 hdA.k, .int .u64 (hdA.m : Int), .bool hdA.ng, .string hdA.dg, .int .i64 hdA.sc, .string hdA.tx, .slice kaA knA kcA, .slice daA dnA dcA, .int .i64 hdA.cd] 33)
        have L10 := hl10.below hal
        replace hS := hS.alloc hS.size (.cells #[.int .i64 hdA.k, .int .u64 (hdA.m : Int), .bool hdA.ng, .string hdA.dg, .int .i64 hdA.sc, .string hdA.tx, .slice kaA knA kcA, .slice daA dnA dcA, .int .i64 hdA.cd] 33)
        generalize Wn.alloc (.cells #[.int .i64 hdA.k, .int .u64 (hdA.m : Int), .bool hdA.ng, .string hdA.dg, .int .i64 hdA.sc, .string hdA.tx, .slice kaA knA kcA, .slice daA dnA dcA, .int .i64 hdA.cd] 33) = W5 at hS N10 L10  ⊢
        clear hal hl10
        obtain ⟨x0, x1, x2, x3, x4, x5, x6, x7, x8, y0, y1, y2, y3, y4, y5, y6, y7, y8⟩ := kunhide HSB _ hS
        go_wp2_with fail
        refine (kunhide HA1 _ hS ((i : Int) - (l.length : Int)) (.inr rfl)).mono ?_
        rintro e Wn ⟨v12, rfl, hl12, bn⟩
        obtain ⟨hdB, kaB, knB, kcB, daB, dnB, dcB, rfl⟩ := hl12.shape
        replace N10 := N10.below bn
        replace L10 := L10.below bn
        replace hS := hS.trans (bn.mono hS.size)
        clear bn x0 y0 x1 y1 x2 y2 x3 y3 x4 y4 x5 y5 x6 y6 x7 y7 x8 y8
        go_upto_region 9 with fail
        have hal := (Below.refl _ Wn).alloc (Nat.le_refl _) (.cells #[.int .i64 hdB.k, .int .u64 (hdB.m : Int), .bool hdB.ng, .string hdB.dg, .int .i64 hdB.sc, .string hdB.tx, .slice kaB knB kcB, .slice daB dnB dcB, .int .i64 hdB.cd] 33)
        have N12 := Nine.of (Box.new Wn #[.int .i64 hdB.k, .int .u64 (hdB.m : Int), .bool hdB.ng, .string hdB.dg, .int .i64 hdB.sc, .string hdB.tx, .slice kaB knB kcB, .slice daB dnB dcB, .int .i64 hdB.cd] 33)
        have L12 := hl12.below hal
        replace L10 := L10.below hal
        replace N10 := N10.below hal
        replace hS := hS.alloc hS.size (.cells #[.int .i64 hdB.k, .int .u64 (hdB.m : Int), .bool hdB.ng, .string hdB.dg, .int .i64 hdB.sc, .string hdB.tx, .slice kaB knB kcB, .slice daB dnB dcB, .int .i64 hdB.cd] 33)
        generalize Wn.alloc (.cells #[.int .i64 hdB.k, .int .u64 (hdB.m : Int), .bool hdB.ng, .string hdB.dg, .int .i64 hdB.sc, .string hdB.tx, .slice kaB knB kcB, .slice daB dnB dcB, .int .i64 hdB.cd] 33) = W6 at hS N12 L12 L10 N10 ⊢
        clear hal hl12
        obtain ⟨p0, p1, p2, p3, p4, p5, p6, p7, p8⟩ := N10.all
        obtain ⟨q0, q1, q2, q3, q4, q5, q6, q7, q8⟩ := N12.all
        go_wp2_with fail
        refine (rsame_eq anyB anyB 99 _ _ (withT h.m x) _ L10 L12 (ok_with 99 h.m x okx)).mono ?_
        rintro e Wn ⟨rfl, bn⟩
        replace N10 := N10.below bn
        obtain ⟨m10, m10l⟩ := L10.mask
        have hor2 : bits BinOp.or IntKind.u64 (hd2.m : Int) (h.m : Int) = (hdA.m : Int) := by
          rw [u64_or_nat _ _ m2l hm64, ← m10, ← m2]
          rfl
        replace hS := hS.trans (bn.mono hS.size)
        clear bn p0 p1 p2 p3 p4 p5 p6 p7 p8 q0 q1 q2 q3 q4 q5 q6 q7 q8 L10 L12 N12 m10 m10l m2 m2l
        obtain ⟨p0, p1, p2, p3, p4, p5, p6, p7, p8⟩ := N10.all
        obtain ⟨x0, x1, x2, x3, x4, x5, x6, x7, x8, y0, y1, y2, y3, y4, y5, y6, y7, y8⟩ := kunhide HSB _ hS
        have km := kunhide HKM _ hS
        clear N10
        go_upto_region 10 with fail
        go_cut [104] from 81 to 105 (fun c wx => c = .bool false ∧ Below W4.heap.size W4 wx)
        case first =>
          go_quiet (fail)
          go_wp2_with fail
          go_meet
          case rel => exact ⟨rfl, by first | exact hS | exact below_drewN' hS | exact hS.drew⟩
        case rest =>
        clear p0 p1 p2 p3 p4 p5 p6 p7 p8 km x0 y0 x1 y1 x2 y2 x3 y3 x4 y4 x5 y5 x6 y6 x7 y7 x8 y8
        obtain ⟨rfl, hS⟩ := hcut
        obtain ⟨x0, x1, x2, x3, x4, x5, x6, x7, x8, y0, y1, y2, y3, y4, y5, y6, y7, y8⟩ := kunhide HSB _ hS
        go_wp2_with fail
        refine (kunhide HZ4 _ hS).mono ?_
        rintro e Wn ⟨rfl, bn⟩
        replace hS := hS.trans (bn.mono hS.size)
        clear bn
        go_wp2_with fail
        go_ret
        exact ⟨rfl, (kunhide HO).2.2.1.trans (hS.mono (kunhide HO).2.2.1.size)⟩
      · have e1 : (h.k == 6) = false := by rw [k7]; rfl
        have e2 : (h.k == 7) = true := by rw [k7]; rfl
        have hgg := (kunhide HO).2.2.2.1.1.2.1 k7
        have hkl : h.ks.length = l.length := hgg.1
        have hik : i < h.ks.length := by omega
        have hik2 : (i : Int) < (h.ks.length : Int) := by omega
        obtain ⟨kb, ko, hka, hkb, kcell⟩ := str_at (kunhide HKS) (kunhide HO).2.2.2.2.2.2 i hik
        have hkb4 : kb < W4.heap.size := Nat.lt_of_lt_of_le hkb (kunhide HO).2.2.2.2.2.2.size
        obtain ⟨s, hs⟩ : ∃ s, h.ks[i]'hik = s := ⟨_, rfl⟩
        rw [hs] at kcell
        have HKC := khide (fun (W : World) (hW : Below W4.heap.size W4 W) => (hW.cell (p := ⟨kb, ko + i, none⟩) hkb4).trans kcell)
        subst hka
        have HG := khide (fun (W : World) (hW : Below W4.heap.size W4 W) => (show Calls Tryd.prog 15 #[(.agg #[.int .i64 h.k, .int .u64 (h.m : Int), .bool h.ng, .string h.dg, .int .i64 h.sc, .string h.tx, .slice (some ⟨kb, ko, none⟩) h.ks.length kc, .slice (some ⟨b, o, none⟩) l.length dc, .int .i64 h.cd]), .string s] W fun e w' => ∃ v', e = .returned (.tuple #[v', .bool true]) ∧ Lies (fun b => b < W4.heap.size) w' 99 v' (withT h.m x) ∧ Below W.heap.size W w' from by
          have q := get_in (fun b => b < W4.heap.size) 99 i s _ (Tr.mk h l) W (kunhide HL4b W hW) k7 hgg.2.1 hkl (by show l.length ≤ 1000000; omega) hi hs
          have e : (Tr.kd (Tr.mk h l))[i]'hi = x := hx
          rw [e] at q
          exact q))
        have hdk : deepT 99 x &&& D = deepT 99 x := by
          have q := deep_kid (n := 99) (t := Tr.mk h l) (k := x) hmem
          rw [(kunhide HO).2.2.2.2.2.1] at q
          exact q
        have hdh : h.m &&& D = h.m := by
          have q := deep_self 99 (Tr.mk h l)
          rw [(kunhide HO).2.2.2.2.2.1] at q
          exact q
        have hsx : sizeT 99 x ≤ 80 := by
          have h1 := at_le_sum (sizeT 99) l i hi
          have h2 : 1 + (l.map (sizeT 99)).sum ≤ 80 := (kunhide HO).2.1
          rw [hx] at h1
          omega
        have HM := khide (And.intro hdk (And.intro hdh (And.intro hsx (And.intro m2 m2l))))
        have kc1 := kunhide HKC _ hS
        clear k7 hgg hkl hik kcell hs hx hdk hdh hsx hmem m2 m2l
        go_upto_region 13 with fail
        have hw4 := hS.size
        go_cut [15, 16] from 119 to 129 (fun p c wx => ∃ (B : Nat) (hdA : Hd) (kaA : Option Addr) (knA kcA : Nat) (daA : Option Addr) (dnA dcA : Nat), p = .pointer (some ⟨B, 0, none⟩) ∧ c = .bool true ∧ Nine wx B #[.int .i64 hdA.k, .int .u64 (hdA.m : Int), .bool hdA.ng, .string hdA.dg, .int .i64 hdA.sc, .string hdA.tx, .slice kaA knA kcA, .slice daA dnA dcA, .int .i64 hdA.cd] ∧ Lies anyB wx 99 (.agg #[.int .i64 hdA.k, .int .u64 (hdA.m : Int), .bool hdA.ng, .string hdA.dg, .int .i64 hdA.sc, .string hdA.tx, .slice kaA knA kcA, .slice daA dnA dcA, .int .i64 hdA.cd]) (withT h.m x) ∧ Below W4.heap.size W4 wx)
        case first =>
          replace hS := hS.drew
          have HSK := khide (fun (W' : World) (hW : Below W4.heap.size W4 W') => (show W'.cell? ⟨W2.heap.size, 0, none⟩ = some (.int .i64 h.k) ∧ W'.cell? ⟨W2.heap.size, 1, none⟩ = some (.int .u64 (h.m : Int)) ∧ W'.cell? ⟨W2.heap.size, 2, none⟩ = some (.bool h.ng) ∧ W'.cell? ⟨W2.heap.size, 3, none⟩ = some (.string h.dg) ∧ W'.cell? ⟨W2.heap.size, 4, none⟩ = some (.int .i64 h.sc) ∧ W'.cell? ⟨W2.heap.size, 5, none⟩ = some (.string h.tx) ∧ W'.cell? ⟨W2.heap.size, 6, none⟩ = some (.slice (some ⟨kb, ko, none⟩) h.ks.length kc) ∧ W'.cell? ⟨W2.heap.size, 7, none⟩ = some (.slice (some ⟨b, o, none⟩) l.length dc) ∧ W'.cell? ⟨W2.heap.size, 8, none⟩ = some (.int .i64 h.cd) ∧ W'.cell? ⟨kb, ko + i, none⟩ = some (.string s) from by
            have p := kunhide HSB _ hW
            exact ⟨p.1, p.2.1, p.2.2.1, p.2.2.2.1, p.2.2.2.2.1, p.2.2.2.2.2.1, p.2.2.2.2.2.2.1, p.2.2.2.2.2.2.2.1, p.2.2.2.2.2.2.2.2.1, kunhide HKC _ hW⟩))
          refine wp_region_held_drew (S := fun W' => Below W4.heap.size W4 W') (by kernel_rfl) ?hS0 (fun hHeld => ?rest0)
          case hS0 => exact hS
          case rest0 =>
          clear hHeld
          refine wpAnyH_take (i := 0) (v := ?v0) rfl (by kernel_rfl) (by kernel_rfl) (by kernel_rfl) (fun _ _ _ h => h) (Or.inl ⟨by rfl, ?hy0⟩) (by first | assumption | exact hS) ?r0
          case hy0 => ((intro w hSw; (try dsimp only at hSw); have hcc := kunhide HSK _ hSw; obtain ⟨z0, z1, z2, z3, z4, z5, z6, z7, z8, z9⟩ := hcc; go_simp) <;> with_reducible rfl)
          case r0 =>
          try simp only [Act.put, List.getElem_toArray, List.getElem_cons_zero, List.getElem_cons_succ, List.setIfInBounds_toArray, List.set_cons_zero, List.set_cons_succ]
          refine wpAnyH_take (i := 1) (v := ?v1) rfl (by kernel_rfl) (by kernel_rfl) (by kernel_rfl) (fun _ _ _ h => h) (Or.inl ⟨by rfl, ?hy1⟩) (by first | assumption | exact hS) ?r1
          case hy1 => ((intro w hSw; (try dsimp only at hSw); have hcc := kunhide HSK _ hSw; obtain ⟨z0, z1, z2, z3, z4, z5, z6, z7, z8, z9⟩ := hcc; go_simp) <;> with_reducible rfl)
          case r1 =>
          try simp only [Act.put, List.getElem_toArray, List.getElem_cons_zero, List.getElem_cons_succ, List.setIfInBounds_toArray, List.set_cons_zero, List.set_cons_succ]
          refine wpAnyH_take (i := 2) (v := ?v2) rfl (by kernel_rfl) (by kernel_rfl) (by kernel_rfl) (fun _ _ _ h => h) (Or.inl ⟨by rfl, ?hy2⟩) (by first | assumption | exact hS) ?r2
          case hy2 => ((intro w hSw; (try dsimp only at hSw); have hcc := kunhide HSK _ hSw; obtain ⟨z0, z1, z2, z3, z4, z5, z6, z7, z8, z9⟩ := hcc; go_simp) <;> with_reducible rfl)
          case r2 =>
          try simp only [Act.put, List.getElem_toArray, List.getElem_cons_zero, List.getElem_cons_succ, List.setIfInBounds_toArray, List.set_cons_zero, List.set_cons_succ]
          refine wpAnyH_take (i := 3) (v := ?v3) rfl (by kernel_rfl) (by kernel_rfl) (by kernel_rfl) (fun _ _ _ h => h) (Or.inl ⟨by rfl, ?hy3⟩) (by first | assumption | exact hS) ?r3
          case hy3 => ((intro w hSw; (try dsimp only at hSw); have hcc := kunhide HSK _ hSw; obtain ⟨z0, z1, z2, z3, z4, z5, z6, z7, z8, z9⟩ := hcc; go_simp) <;> with_reducible rfl)
          case r3 =>
          try simp only [Act.put, List.getElem_toArray, List.getElem_cons_zero, List.getElem_cons_succ, List.setIfInBounds_toArray, List.set_cons_zero, List.set_cons_succ]
          refine wpAnyH_take (i := 4) (v := ?v4) rfl (by kernel_rfl) (by kernel_rfl) (by kernel_rfl) (fun _ _ _ h => h) (Or.inl ⟨by rfl, ?hy4⟩) (by first | assumption | exact hS) ?r4
          case hy4 => ((intro w hSw; (try dsimp only at hSw); have hcc := kunhide HSK _ hSw; obtain ⟨z0, z1, z2, z3, z4, z5, z6, z7, z8, z9⟩ := hcc; go_simp) <;> with_reducible rfl)
          case r4 =>
          try simp only [Act.put, List.getElem_toArray, List.getElem_cons_zero, List.getElem_cons_succ, List.setIfInBounds_toArray, List.set_cons_zero, List.set_cons_succ]
          refine wpAnyH_take (i := 5) (v := ?v5) rfl (by kernel_rfl) (by kernel_rfl) (by kernel_rfl) (fun _ _ _ h => h) (Or.inl ⟨by rfl, ?hy5⟩) (by first | assumption | exact hS) ?r5
          case hy5 => ((intro w hSw; (try dsimp only at hSw); have hcc := kunhide HSK _ hSw; obtain ⟨z0, z1, z2, z3, z4, z5, z6, z7, z8, z9⟩ := hcc; go_simp) <;> with_reducible rfl)
          case r5 =>
          try simp only [Act.put, List.getElem_toArray, List.getElem_cons_zero, List.getElem_cons_succ, List.setIfInBounds_toArray, List.set_cons_zero, List.set_cons_succ]
          refine wpAnyH_ready (rs := [6, 10]) (by kernel_rfl) (by simp) ?_
          refine AllReadyH.cons rfl (fun K hK => ?g6) (AllReadyH.cons rfl (fun K hK => ?g10) (AllReadyH.nil))
          case g6 =>
            go_simp
            go_at_call 15
            refine (kunhide HG _ hS).mono ?_
            rintro e Wn ⟨v10, rfl, hl10, bn⟩
            obtain ⟨hdA, kaA, knA, kcA, daA, dnA, dcA, rfl⟩ := hl10.shape
            have HL10 := khide hl10
            replace hS := hS.trans (bn.mono hS.size)
            clear hl10 bn
            refine hK.out _ _ hS (fun hHeld2 => ?ra)
            case ra =>
            clear hK K hHeld2
            try simp only [Act.put, List.getElem_toArray, List.getElem_cons_zero, List.getElem_cons_succ, List.setIfInBounds_toArray, List.set_cons_zero, List.set_cons_succ]
            refine wpAnyH_take (i := 7) (v := ?v7a) rfl (by kernel_rfl) (by kernel_rfl) (by kernel_rfl) (fun _ _ _ h => h) (Or.inl ⟨by rfl, ?hy7a⟩) (by first | assumption | exact hS) ?r7a
            case hy7a => ((intro w hSw; (try dsimp only at hSw); have hcc := kunhide HSK _ hSw; obtain ⟨z0, z1, z2, z3, z4, z5, z6, z7, z8, z9⟩ := hcc; go_simp) <;> with_reducible rfl)
            case r7a =>
            try simp only [Act.put, List.getElem_toArray, List.getElem_cons_zero, List.getElem_cons_succ, List.setIfInBounds_toArray, List.set_cons_zero, List.set_cons_succ]
            refine wpAnyH_take (i := 8) (v := ?v8a) rfl (by kernel_rfl) (by kernel_rfl) (by kernel_rfl) (fun _ _ _ h => h) (Or.inl ⟨by rfl, ?hy8a⟩) (by first | assumption | exact hS) ?r8a
            case hy8a => ((intro w hSw; (try dsimp only at hSw); have hcc := kunhide HSK _ hSw; obtain ⟨z0, z1, z2, z3, z4, z5, z6, z7, z8, z9⟩ := hcc; go_simp) <;> with_reducible rfl)
            case r8a =>
            try simp only [Act.put, List.getElem_toArray, List.getElem_cons_zero, List.getElem_cons_succ, List.setIfInBounds_toArray, List.set_cons_zero, List.set_cons_succ]
            refine wpAnyH_take (i := 9) (v := ?v9a) rfl (by kernel_rfl) (by kernel_rfl) (by kernel_rfl) (fun _ _ _ h => h) (Or.inl ⟨by rfl, ?hy9a⟩) (by first | assumption | exact hS) ?r9a
            case hy9a => ((intro w hSw; (try dsimp only at hSw); have hcc := kunhide HSK _ hSw; obtain ⟨z0, z1, z2, z3, z4, z5, z6, z7, z8, z9⟩ := hcc; go_simp) <;> with_reducible rfl)
            case r9a =>
            try simp only [Act.put, List.getElem_toArray, List.getElem_cons_zero, List.getElem_cons_succ, List.setIfInBounds_toArray, List.set_cons_zero, List.set_cons_succ]
            refine wpAnyH_ready (rs := [10]) (by kernel_rfl) (by simp) ?_
            refine AllReadyH.cons rfl (fun K hK => ?g10a) (AllReadyH.nil)
            case g10a =>
            go_simp
            have hwn := hS.size
            refine hK.out _ _ (hS.alloc hwn _) (fun hHeld2 => ?rb)
            case rb =>
            clear hK K
            try simp only [Act.put, List.getElem_toArray, List.getElem_cons_zero, List.getElem_cons_succ, List.setIfInBounds_toArray, List.set_cons_zero, List.set_cons_succ]
            refine wpAnyH_ready (rs := [11]) (by kernel_rfl) (by simp) ?_
            refine AllReadyH.cons rfl (fun K hK => ?g11a) (AllReadyH.nil)
            case g11a =>
            go_simp
            refine hK.out _ _ ?hq (fun hHeld3 => ?rc)
            case hq => first | with_reducible exact hS.alloc hwn _ | with_reducible exact ((((((((((hS.alloc hwn _).setCell (p := ⟨Wn.heap.size, 0, none⟩) hwn _).setCell (p := ⟨Wn.heap.size, 1, none⟩) hwn _).setCell (p := ⟨Wn.heap.size, 2, none⟩) hwn _).setCell (p := ⟨Wn.heap.size, 3, none⟩) hwn _).setCell (p := ⟨Wn.heap.size, 4, none⟩) hwn _).setCell (p := ⟨Wn.heap.size, 5, none⟩) hwn _).setCell (p := ⟨Wn.heap.size, 6, none⟩) hwn _).setCell (p := ⟨Wn.heap.size, 7, none⟩) hwn _).setCell (p := ⟨Wn.heap.size, 8, none⟩) hwn _)
            case rc =>
            clear hK K hHeld2
            try simp only [Act.put, List.getElem_toArray, List.getElem_cons_zero, List.getElem_cons_succ, List.setIfInBounds_toArray, List.set_cons_zero, List.set_cons_succ]
            refine wpAnyH_take (i := 12) (v := ?v12a) rfl (by kernel_rfl) (by kernel_rfl) (by kernel_rfl) (fun _ _ _ h => h) (Or.inl ⟨by rfl, ?hy12a⟩) (by assumption) ?r12a
            case hy12a => ((intro w hSw; go_simp) <;> with_reducible rfl)
            case r12a =>
            try simp only [Act.put, List.getElem_toArray, List.getElem_cons_zero, List.getElem_cons_succ, List.setIfInBounds_toArray, List.set_cons_zero, List.set_cons_succ]
            refine wpAnyH_done (by kernel_rfl) ?_ _
            clear hHeld3
            go_wp2_with fail
            go_meet
            case rel => exact ⟨Wn.heap.size, hdA, kaA, knA, kcA, daA, dnA, dcA, rfl, rfl, Nine.of (Box.new _ _ _), ((kunhide HL10).any).below ((Below.refl _ _).alloc (Nat.le_refl _) _), hS.alloc hS.size _⟩
          case g10 =>
            go_simp
            refine hK.out _ _ (hS.alloc hS.size _) (fun hHeld2 => ?rbb)
            case rbb =>
            clear hK K
            try simp only [Act.put, List.getElem_toArray, List.getElem_cons_zero, List.getElem_cons_succ, List.setIfInBounds_toArray, List.set_cons_zero, List.set_cons_succ]
            refine wpAnyH_ready (rs := [6]) (by kernel_rfl) (by simp) ?_
            refine AllReadyH.cons rfl (fun K hK => ?g6b) (AllReadyH.nil)
            case g6b =>
            go_simp
            go_at_call 15
            refine (kunhide HG _ hHeld2).mono ?_
            rintro e Wn ⟨v10, rfl, hl10, bn⟩
            obtain ⟨hdA, kaA, knA, kcA, daA, dnA, dcA, rfl⟩ := hl10.shape
            have HL10 := khide hl10
            obtain ⟨bx, bf, bz⟩ := (show Box Wn wc.heap.size #[.int .i64 0, .int .u64 0, .bool false, .string ⟨#[]⟩, .int .i64 0, .string ⟨#[]⟩, .slice none 0 0, .slice none 0 0, .int .i64 0] from (Box.new wc.drew #[.int .i64 0, .int .u64 0, .bool false, .string ⟨#[]⟩, .int .i64 0, .string ⟨#[]⟩, .slice none 0 0, .slice none 0 0, .int .i64 0] 33).kept (ok := anyB) (Kept.of_below bn) trivial)
            have HBX := khide bx
            replace hS : Below W4.heap.size W4 Wn := hHeld2.trans (bn.mono hHeld2.size)
            clear hl10 bn hHeld2
            refine hK.out _ _ hS (fun hHeld2 => ?rab)
            case rab =>
            clear hK K hHeld2
            try simp only [Act.put, List.getElem_toArray, List.getElem_cons_zero, List.getElem_cons_succ, List.setIfInBounds_toArray, List.set_cons_zero, List.set_cons_succ]
            refine wpAnyH_take (i := 7) (v := ?v7b) rfl (by kernel_rfl) (by kernel_rfl) (by kernel_rfl) (fun _ _ _ h => h) (Or.inl ⟨by rfl, ?hy7b⟩) (by first | assumption | exact hS) ?r7b
            case hy7b => ((intro w hSw; (try dsimp only at hSw); have hcc := kunhide HSK _ hSw; obtain ⟨z0, z1, z2, z3, z4, z5, z6, z7, z8, z9⟩ := hcc; go_simp) <;> with_reducible rfl)
            case r7b =>
            try simp only [Act.put, List.getElem_toArray, List.getElem_cons_zero, List.getElem_cons_succ, List.setIfInBounds_toArray, List.set_cons_zero, List.set_cons_succ]
            refine wpAnyH_take (i := 8) (v := ?v8b) rfl (by kernel_rfl) (by kernel_rfl) (by kernel_rfl) (fun _ _ _ h => h) (Or.inl ⟨by rfl, ?hy8b⟩) (by first | assumption | exact hS) ?r8b
            case hy8b => ((intro w hSw; (try dsimp only at hSw); have hcc := kunhide HSK _ hSw; obtain ⟨z0, z1, z2, z3, z4, z5, z6, z7, z8, z9⟩ := hcc; go_simp) <;> with_reducible rfl)
            case r8b =>
            try simp only [Act.put, List.getElem_toArray, List.getElem_cons_zero, List.getElem_cons_succ, List.setIfInBounds_toArray, List.set_cons_zero, List.set_cons_succ]
            refine wpAnyH_take (i := 9) (v := ?v9b) rfl (by kernel_rfl) (by kernel_rfl) (by kernel_rfl) (fun _ _ _ h => h) (Or.inl ⟨by rfl, ?hy9b⟩) (by first | assumption | exact hS) ?r9b
            case hy9b => ((intro w hSw; (try dsimp only at hSw); have hcc := kunhide HSK _ hSw; obtain ⟨z0, z1, z2, z3, z4, z5, z6, z7, z8, z9⟩ := hcc; go_simp) <;> with_reducible rfl)
            case r9b =>
            try simp only [Act.put, List.getElem_toArray, List.getElem_cons_zero, List.getElem_cons_succ, List.setIfInBounds_toArray, List.set_cons_zero, List.set_cons_succ]
            refine wpAnyH_ready (rs := [11]) (by kernel_rfl) (by simp) ?_
            refine AllReadyH.cons rfl (fun K hK => ?g11b) (AllReadyH.nil)
            case g11b =>
            go_simp
            refine hK.out _ _ ?hq (fun hHeld3 => ?rcb)
            case hq => with_reducible exact (((((((((hS.setCell (p := ⟨wc.heap.size, 0, none⟩) hw4 _).setCell (p := ⟨wc.heap.size, 1, none⟩) hw4 _).setCell (p := ⟨wc.heap.size, 2, none⟩) hw4 _).setCell (p := ⟨wc.heap.size, 3, none⟩) hw4 _).setCell (p := ⟨wc.heap.size, 4, none⟩) hw4 _).setCell (p := ⟨wc.heap.size, 5, none⟩) hw4 _).setCell (p := ⟨wc.heap.size, 6, none⟩) hw4 _).setCell (p := ⟨wc.heap.size, 7, none⟩) hw4 _).setCell (p := ⟨wc.heap.size, 8, none⟩) hw4 _)
            case rcb =>
            clear hK K
            try simp only [Act.put, List.getElem_toArray, List.getElem_cons_zero, List.getElem_cons_succ, List.setIfInBounds_toArray, List.set_cons_zero, List.set_cons_succ]
            refine wpAnyH_take (i := 12) (v := ?v12b) rfl (by kernel_rfl) (by kernel_rfl) (by kernel_rfl) (fun _ _ _ h => h) (Or.inl ⟨by rfl, ?hy12b⟩) (by assumption) ?r12b
            case hy12b => ((intro w hSw; go_simp) <;> with_reducible rfl)
            case r12b =>
            try simp only [Act.put, List.getElem_toArray, List.getElem_cons_zero, List.getElem_cons_succ, List.setIfInBounds_toArray, List.set_cons_zero, List.set_cons_succ]
            refine wpAnyH_done (by kernel_rfl) ?_ _
            clear hHeld3
            go_wp2_with fail
            go_meet
            case rel => exact ⟨wc.heap.size, hdA, kaA, knA, kcA, daA, dnA, dcA, rfl, rfl, nine_store _ _ _ _ _ _ _ _ _ (fun r hr => by rw [kunhide HBX r, Array.getElem?_eq_getElem (by simpa using hr)]; rfl) bz, (((kunhide HL10).keep (setCells_kept (ok := fun b => b < W4.heap.size) Wn wc.heap.size 0 [.int .i64 hdA.k, .int .u64 (hdA.m : Int), .bool hdA.ng, .string hdA.dg, .int .i64 hdA.sc, .string hdA.tx, .slice kaA knA kcA, .slice daA dnA dcA, .int .i64 hdA.cd] (fun b hb e => by omega)) (fun _ _ q => q)).any), setCells_below hS hw4 0 [.int .i64 hdA.k, .int .u64 (hdA.m : Int), .bool hdA.ng, .string hdA.dg, .int .i64 hdA.sc, .string hdA.tx, .slice kaA knA kcA, .slice daA dnA dcA, .int .i64 hdA.cd]⟩
        case rest =>
          obtain ⟨B, hdA, kaA, knA, kcA, daA, dnA, dcA, rfl, rfl, N15, L15, hS⟩ := hcut
          obtain ⟨m15, m15l⟩ := L15.mask
          obtain ⟨hdk, hdh, hsx, m2, m2l⟩ := kunhide HM
          have hor2 : bits BinOp.or IntKind.u64 (hd2.m : Int) (h.m : Int) = (hdA.m : Int) := by
            rw [u64_or_nat _ _ m2l hm64, ← m15, ← m2]
            rfl
          have hDK64 : deepT 99 (withT h.m x) < 18446744073709551616 := deep_lt64 L15
          have hsub2 : deepT 99 (withT h.m x) &&& D = deepT 99 (withT h.m x) := by rw [deep_with 98]; exact sub_both hdk hdh
          obtain ⟨DK, hDK⟩ : ∃ DK, deepT 99 (withT h.m x) = DK := ⟨_, rfl⟩
          rw [hDK] at hDK64 hsub2
          have han : bits BinOp.andNot IntKind.u64 (DK : Int) (D : Int) = 0 := andNot_none hDK64 (kunhide HO).2.2.2.2.1 hsub2
          have HDK := khide (fun (W : World) (hW : Below wc.heap.size wc W) => (show Calls Tryd.prog 25 #[(.agg #[.int .i64 hdA.k, .int .u64 (hdA.m : Int), .bool hdA.ng, .string hdA.dg, .int .i64 hdA.sc, .string hdA.tx, .slice kaA knA kcA, .slice daA dnA dcA, .int .i64 hdA.cd])] W fun e w' => e = .returned (.int .u64 (DK : Int)) ∧ DK < 18446744073709551616 ∧ Below W.heap.size W w' from by
            have q := deep_any _ 99 _ _ W (L15.below hW) (by rw [size_with]; omega) (by omega)
            rw [hDK] at q
            exact q))
          have HSC := khide (fun (W' : World) (hW : Below wc.heap.size wc W') => (show W'.cell? ⟨W2.heap.size, 0, none⟩ = some (.int .i64 h.k) ∧ W'.cell? ⟨W2.heap.size, 1, none⟩ = some (.int .u64 (h.m : Int)) ∧ W'.cell? ⟨W2.heap.size, 2, none⟩ = some (.bool h.ng) ∧ W'.cell? ⟨W2.heap.size, 3, none⟩ = some (.string h.dg) ∧ W'.cell? ⟨W2.heap.size, 4, none⟩ = some (.int .i64 h.sc) ∧ W'.cell? ⟨W2.heap.size, 5, none⟩ = some (.string h.tx) ∧ W'.cell? ⟨W2.heap.size, 6, none⟩ = some (.slice (some ⟨kb, ko, none⟩) h.ks.length kc) ∧ W'.cell? ⟨W2.heap.size, 7, none⟩ = some (.slice (some ⟨b, o, none⟩) l.length dc) ∧ W'.cell? ⟨W2.heap.size, 8, none⟩ = some (.int .i64 h.cd) ∧ W'.cell? ⟨B, 0, none⟩ = some (.int .i64 hdA.k) ∧ W'.cell? ⟨B, 1, none⟩ = some (.int .u64 (hdA.m : Int)) ∧ W'.cell? ⟨B, 2, none⟩ = some (.bool hdA.ng) ∧ W'.cell? ⟨B, 3, none⟩ = some (.string hdA.dg) ∧ W'.cell? ⟨B, 4, none⟩ = some (.int .i64 hdA.sc) ∧ W'.cell? ⟨B, 5, none⟩ = some (.string hdA.tx) ∧ W'.cell? ⟨B, 6, none⟩ = some (.slice kaA knA kcA) ∧ W'.cell? ⟨B, 7, none⟩ = some (.slice daA dnA dcA) ∧ W'.cell? ⟨B, 8, none⟩ = some (.int .i64 hdA.cd) ∧ W'.cell? ⟨b, o + i * 9 + 1, none⟩ = some (.int .u64 (hd2.m : Int)) from by
            have p := kunhide HSB _ (hS.trans (hW.mono hS.size))
            have q := (N15.below hW).all
            exact ⟨p.1, p.2.1, p.2.2.1, p.2.2.2.1, p.2.2.2.2.1, p.2.2.2.2.2.1, p.2.2.2.2.2.2.1, p.2.2.2.2.2.2.2.1, p.2.2.2.2.2.2.2.2.1, q.1, q.2.1, q.2.2.1, q.2.2.2.1, q.2.2.2.2.1, q.2.2.2.2.2.1, q.2.2.2.2.2.2.1, q.2.2.2.2.2.2.2.1, q.2.2.2.2.2.2.2.2, kunhide HKM _ (hS.trans (hW.mono hS.size))⟩))
          have hT : Below wc.heap.size wc wc := Below.refl _ _
          clear N15 L15 m15 m15l hdk hdh hsx m2 m2l hDK64 hsub2 hDK HG HM HKC
          go_upto_region 14 with fail
          replace hT := hT.drew
          go_region_held3 (fun W' => W'.cell? ⟨W2.heap.size, 0, none⟩ = some (.int .i64 h.k) ∧ W'.cell? ⟨W2.heap.size, 1, none⟩ = some (.int .u64 (h.m : Int)) ∧ W'.cell? ⟨W2.heap.size, 2, none⟩ = some (.bool h.ng) ∧ W'.cell? ⟨W2.heap.size, 3, none⟩ = some (.string h.dg) ∧ W'.cell? ⟨W2.heap.size, 4, none⟩ = some (.int .i64 h.sc) ∧ W'.cell? ⟨W2.heap.size, 5, none⟩ = some (.string h.tx) ∧ W'.cell? ⟨W2.heap.size, 6, none⟩ = some (.slice (some ⟨kb, ko, none⟩) h.ks.length kc) ∧ W'.cell? ⟨W2.heap.size, 7, none⟩ = some (.slice (some ⟨b, o, none⟩) l.length dc) ∧ W'.cell? ⟨W2.heap.size, 8, none⟩ = some (.int .i64 h.cd) ∧ W'.cell? ⟨B, 0, none⟩ = some (.int .i64 hdA.k) ∧ W'.cell? ⟨B, 1, none⟩ = some (.int .u64 (hdA.m : Int)) ∧ W'.cell? ⟨B, 2, none⟩ = some (.bool hdA.ng) ∧ W'.cell? ⟨B, 3, none⟩ = some (.string hdA.dg) ∧ W'.cell? ⟨B, 4, none⟩ = some (.int .i64 hdA.sc) ∧ W'.cell? ⟨B, 5, none⟩ = some (.string hdA.tx) ∧ W'.cell? ⟨B, 6, none⟩ = some (.slice kaA knA kcA) ∧ W'.cell? ⟨B, 7, none⟩ = some (.slice daA dnA dcA) ∧ W'.cell? ⟨B, 8, none⟩ = some (.int .i64 hdA.cd) ∧ W'.cell? ⟨b, o + i * 9 + 1, none⟩ = some (.int .u64 (hd2.m : Int))) (exact kunhide HSC _ hT) (first | (go_at_call_of 25 (Value.int IntKind.i64 hdA.k); refine (kunhide HDK _ hT).mono ?_; rintro e Wn ⟨rfl, hdl, bn⟩; replace hT := hT.trans (bn.mono hT.size); clear bn hdl) | (go_at_call_of 25 (Value.int IntKind.i64 h.k); refine (kunhide HD4 _ (hS.trans (hT.mono hS.size))).mono ?_; rintro e Wn ⟨rfl, hdl, bn⟩; replace hT := hT.trans (bn.mono hT.size); clear bn hdl))
          all_goals
            replace hS := hS.trans (hT.mono hS.size)
            clear hT
            obtain ⟨x0, x1, x2, x3, x4, x5, x6, x7, x8, y0, y1, y2, y3, y4, y5, y6, y7, y8⟩ := kunhide HSB _ hS
            go_wp2_with fail
            refine (kunhide HZ4 _ hS).mono ?_
            rintro e Wn ⟨rfl, bn⟩
            replace hS := hS.trans (bn.mono hS.size)
            clear bn
            go_wp2_with fail
            go_ret
            exact ⟨rfl, (kunhide HO).2.2.1.trans (hS.mono (kunhide HO).2.2.1.size)⟩
    · --NONE
      by_cases k6 : h.k = 6
      · have e1 : (h.k == 6) = true := by rw [k6]; rfl
        have e2 : (h.k == 7) = false := by rw [k6]; rfl
        by_cases z0 : 0 ≤ z
        · have z1 : ¬ z < (l.length : Int) := fun q => hA ⟨.inl k6, z0, q⟩
          clear hA k6
          go_wp2_with fail
          refine (kunhide HZ4 _ hS).mono ?_
          rintro e Wn ⟨rfl, bn⟩
          replace hS := hS.trans (bn.mono hS.size)
          clear bn x0 y0 x1 y1 x2 y2 x3 y3 x4 y4 x5 y5 x6 y6 x7 y7 x8 y8
          go_wp2_with fail
          go_ret
          exact ⟨rfl, (kunhide HO).2.2.1.trans (hS.mono (kunhide HO).2.2.1.size)⟩
        · clear hA k6
          go_wp2_with fail
          refine (kunhide HZ4 _ hS).mono ?_
          rintro e Wn ⟨rfl, bn⟩
          replace hS := hS.trans (bn.mono hS.size)
          clear bn x0 y0 x1 y1 x2 y2 x3 y3 x4 y4 x5 y5 x6 y6 x7 y7 x8 y8
          go_wp2_with fail
          go_ret
          exact ⟨rfl, (kunhide HO).2.2.1.trans (hS.mono (kunhide HO).2.2.1.size)⟩
      · have e1 : (h.k == 6) = false := beq_eq_false_iff_ne.2 k6
        by_cases k7 : h.k = 7
        · have e2 : (h.k == 7) = true := by rw [k7]; rfl
          by_cases z0 : 0 ≤ z
          · have z1 : ¬ z < (l.length : Int) := fun q => hA ⟨.inr k7, z0, q⟩
            clear hA k6 k7
            go_wp2_with fail
            refine (kunhide HZ4 _ hS).mono ?_
            rintro e Wn ⟨rfl, bn⟩
            replace hS := hS.trans (bn.mono hS.size)
            clear bn x0 y0 x1 y1 x2 y2 x3 y3 x4 y4 x5 y5 x6 y6 x7 y7 x8 y8
            go_wp2_with fail
            go_ret
            exact ⟨rfl, (kunhide HO).2.2.1.trans (hS.mono (kunhide HO).2.2.1.size)⟩
          · clear hA k6 k7
            go_wp2_with fail
            refine (kunhide HZ4 _ hS).mono ?_
            rintro e Wn ⟨rfl, bn⟩
            replace hS := hS.trans (bn.mono hS.size)
            clear bn x0 y0 x1 y1 x2 y2 x3 y3 x4 y4 x5 y5 x6 y6 x7 y7 x8 y8
            go_wp2_with fail
            go_ret
            exact ⟨rfl, (kunhide HO).2.2.1.trans (hS.mono (kunhide HO).2.2.1.size)⟩
        · have e2 : (h.k == 7) = false := beq_eq_false_iff_ne.2 k7
          clear hA k6 k7
          go_wp2_with fail
          refine (kunhide HZ4 _ hS).mono ?_
          rintro e Wn ⟨rfl, bn⟩
          replace hS := hS.trans (bn.mono hS.size)
          clear bn x0 y0 x1 y1 x2 y2 x3 y3 x4 y4 x5 y5 x6 y6 x7 y7 x8 y8
          go_wp2_with fail
          go_ret
          exact ⟨rfl, (kunhide HO).2.2.1.trans (hS.mono (kunhide HO).2.2.1.size)⟩
end Go.Proofs.YtigpfbfkdccdaaaDoor
