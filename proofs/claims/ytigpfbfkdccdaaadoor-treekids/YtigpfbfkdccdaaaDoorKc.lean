/- What is proved here: what package tree's Deep answers, walked; condition: at most a million nodes and levels. -/
import Derived.Test.YtigpfbfkdccdaaaDoorRows
import Derived.Test.YtigpfbfkdccdaaaDoorKa
import Derived.Test.YtigpfbfkdccdaaaDoorProg
import Derived.Laws.BitsAllLaws
namespace Go.Proofs.YtigpfbfkdccdaaaDoor
open Go.RowKit
set_option linter.unusedVariables false
set_option linter.unusedSimpArgs false

/-- Only bad blocks, and new ones, are written. -/
structure Moved (bad : Nat → Prop) (w w' : World) : Prop where
  os : w'.os = w.os
  tape : w'.tape = w.tape
  output : w'.output = w.output
  size : w.heap.size ≤ w'.heap.size
  block : ∀ k, k < w.heap.size → ¬ bad k → w'.heap[k]? = w.heap[k]?
theorem Moved.refl (bad : Nat → Prop) (w : World) : Moved bad w w := ⟨rfl, rfl, rfl, Nat.le_refl _, fun _ _ _ => rfl⟩
theorem Moved.trans {bad : Nat → Prop} {a b c : World} (h : Moved bad a b) (k : Moved bad b c) : Moved bad a c :=
  ⟨k.os.trans h.os, k.tape.trans h.tape, k.output.trans h.output, Nat.le_trans h.size k.size, fun i hi hb => (k.block i (Nat.lt_of_lt_of_le hi h.size) hb).trans (h.block i hi hb)⟩
theorem Moved.alloc {bad : Nat → Prop} {a w : World} (h : Moved bad a w) (o : Obj) : Moved bad a (w.alloc o) :=
  h.trans ⟨rfl, rfl, rfl, by simp, fun k hk _ => Below.heap_alloc _ _ _ hk⟩
theorem Moved.drew {bad : Nat → Prop} {a w : World} (h : Moved bad a w) : Moved bad a w.drew := ⟨h.os, h.tape, h.output, h.size, h.block⟩
theorem Moved.setCell {bad : Nat → Prop} {a w : World} (h : Moved bad a w) {p : Addr} (hp : bad p.block) (u : Value) : Moved bad a (w.setCell p u) :=
  h.trans ⟨rfl, rfl, rfl, by simp [World.setCell], fun k hk hb => Below.heap_setCell _ _ _ _ (fun e => hb (by rw [e]; exact hp))⟩
theorem Moved.below {bad : Nat → Prop} {a w w' : World} (h : Moved bad a w) (hb : Below w.heap.size w w') : Moved bad a w' :=
  h.trans ⟨hb.os, hb.tape, hb.output, hb.size, fun k hk _ => hb.block k hk⟩
theorem Moved.kept {bad ok : Nat → Prop} {w w' : World} (h : Moved bad w w') (hi : ∀ b, ok b → ¬ bad b) : Kept ok w w' := ⟨h.size, fun b ho hl => h.block b hl (hi b ho)⟩
theorem Moved.to_below {bad : Nat → Prop} {B : Nat} {a w w' : World} (ha : Below B a w) (hB : B ≤ w.heap.size) (h : Moved bad w w') (hi : ∀ b, b < B → ¬ bad b) : Below B a w' :=
  ha.trans ⟨h.os, h.tape, h.output, h.size, fun k hk => h.block k (by omega) (hi k hk)⟩
theorem Moved.cell {bad : Nat → Prop} {w w' : World} (h : Moved bad w w') {p : Addr} (hp : p.block < w.heap.size) (hb : ¬ bad p.block) : w'.cell? p = w.cell? p := World.cell?_of_block (w := w) (h.block p.block hp hb)

theorem or_lt {a b : Nat} (ha : a < 18446744073709551616) (hb : b < 18446744073709551616) : a ||| b < 18446744073709551616 := by
  have := @Nat.or_lt_two_pow a b 64 (by simpa using ha) (by simpa using hb)
  simpa using this
theorem or_u64 {a b : Nat} (ha : a < 18446744073709551616) (hb : b < 18446744073709551616) : bits BinOp.or IntKind.u64 (a : Int) (b : Int) = ((a ||| b : Nat) : Int) := u64_or_nat a b ha hb

set_option maxHeartbeats 1000000 in
set_option maxRecDepth 1000000 in
theorem deep1_any (h : Hd) (ka : Option Addr) (kn kc : Nat) (da : Option Addr) (dn dc : Nat) (lev : Int) (pb acc : Nat) (w : World) (hm : h.m < 18446744073709551616) (ha : acc < 18446744073709551616)
    (hc : w.cell? ⟨pb, 0, none⟩ = some (.int .u64 (acc : Int))) (hf : w.frozen? ⟨pb, 0, none⟩ = false) (hl : pb < w.heap.size) :
    Calls Tryd.prog 65 #[.agg #[.int .i64 h.k, .int .u64 (h.m : Int), .bool h.ng, .string h.dg, .int .i64 h.sc, .string h.tx, .slice ka kn kc, .slice da dn dc, .int .i64 h.cd], .int .i64 lev, .pointer (some ⟨pb, 0, none⟩)] w
      fun e w' => e = .returned (.tuple #[]) ∧ w'.cell? ⟨pb, 0, none⟩ = some (.int .u64 ((acc ||| h.m : Nat) : Int)) ∧ w'.frozen? ⟨pb, 0, none⟩ = false ∧ Moved (fun b => b = pb) w w' := by
  have ho := or_u64 ha hm
  go_enter Tryd.func65, Tryd.ntmps65
  go_wp2_with fail
  go_end0
  refine ⟨rfl, ?_, ?_, ((Moved.refl (fun b => b = pb) w).setCell (p := ⟨pb, 0, none⟩) rfl _).alloc _⟩
  · rw [World.cell?_alloc_lt _ _ _ (by simp [World.setCell]; exact hl), World.cell?_setCell_same _ _ _ hc]
  · rw [World.frozen?_alloc_past _ _ _ (by simp [World.setCell]; exact hl), World.frozen?_setCell]
    exact hf

/-- What walk makes of the masks that are told. -/
def dAcc : Nat → Tr → Nat → Nat
  | 0, _, a => a
  | n + 1, t, a => (Tr.kd t).foldl (fun a k => dAcc n k a) (a ||| (Tr.hd t).m)

set_option maxHeartbeats 1000000 in
set_option maxRecDepth 1000000 in
theorem walkdeep_any (ok : Nat → Prop) (pb : Nat) (hok : ∀ b, ok b → b ≠ pb) : ∀ (n : Nat) (v : Value) (t : Tr) (w : World) (lev acc : Nat), Lies ok w n v t → sizeT n t ≤ 1000000 → lev + n ≤ 1000000 → acc < 18446744073709551616 →
    w.cell? ⟨pb, 0, none⟩ = some (.int .u64 (acc : Int)) → w.frozen? ⟨pb, 0, none⟩ = false → pb < w.heap.size →
    Calls Tryd.prog 64 #[v, .int .i64 (lev : Int), .func (Fn.func 65) #[] #[.pointer (some ⟨pb, 0, none⟩)]] w
      fun e w' => e = .returned (.tuple #[]) ∧ w'.cell? ⟨pb, 0, none⟩ = some (.int .u64 (dAcc n t acc : Int)) ∧ w'.frozen? ⟨pb, 0, none⟩ = false ∧ dAcc n t acc < 18446744073709551616 ∧ Moved (fun b => b = pb) w w'
  | 0, _, _, _, _, _, h, _, _, _, _, _, _ => h.elim
  | n + 1, v, t, w, lev, acc, hl, hsz, hlev, hacc, hc, hf, hpb => by
    obtain ⟨h, l, ka, kc, a, cap, rfl, rfl, hm64, hkc, hdc, hks, hkid⟩ := hl.node
    have IH := khide (walkdeep_any ok pb hok n)
    have hsum : (l.map (sizeT n)).sum ≤ 1000000 := by
      have : 1 + (l.map (sizeT n)).sum ≤ 1000000 := hsz
      omega
    have hlen9 : l.length ≤ 1000000 := Nat.le_trans (len_le_sum _ (sizeT_pos n) l) hsum
    have HSUM := khide hsum
    clear hsz hsum
    obtain ⟨A, hA⟩ : ∃ A, dAcc (n + 1) (Tr.mk h l) acc = A := ⟨_, rfl⟩
    rw [hA]
    have HA : Hid (l.foldl (fun a k => dAcc n k a) (acc ||| h.m) = A) := khide hA
    have hol := or_lt hacc hm64
    have w1 : IntKind.i64.wrap ((lev : Int) + 1) = ((lev + 1 : Nat) : Int) := by rw [IntKind.wrap_i64]; omega
    obtain ⟨O, hO⟩ : ∃ O, Obj.cells #[.int .i64 h.k, .int .u64 (h.m : Int), .bool h.ng, .string h.dg, .int .i64 h.sc, .string h.tx, .slice ka h.ks.length kc, .slice a l.length cap, .int .i64 h.cd] 33 = O := ⟨_, rfl⟩
    have hbox : ∀ W, Moved (fun b => b = pb) (w.alloc O) W → W.cell? ⟨w.heap.size, 7, none⟩ = some (.slice a l.length cap) := by
      intro W hW
      rw [hW.cell (p := ⟨w.heap.size, 7, none⟩) (by simp) (by show ¬ w.heap.size = pb; omega), ← hO]
      exact World.cell?_alloc_at _ _ _ _ rfl
    have D := fun hc hf hl => deep1_any h ka h.ks.length kc a l.length cap lev pb acc (w.alloc O) hm64 hacc hc hf hl
    have hlev2 : lev + 1 + n ≤ 1000000 := by omega
    have hlen : ∀ W, Moved (fun b => b = pb) (w.alloc O) W → pb < W.heap.size := fun W hW => Nat.lt_of_lt_of_le hpb (Nat.le_trans (by simp) hW.size)
    have HBOX := khide hbox
    have HO := khide hO
    have HL := khide hlev2
    clear hbox hlev hacc hlev2 hO hA
    go_enter Tryd.func64, Tryd.ntmps64
    go_wp2_with fail
    rw [kunhide HO]
    refine (D (by rw [World.cell?_alloc_lt _ _ _ hpb]; exact hc) (by rw [World.frozen?_alloc_past _ _ _ hpb]; exact hf) (by simp; omega)).mono ?_
    rintro e W ⟨rfl, hc2, hf2, hM⟩
    have hb := kunhide HBOX W hM
    have hM0 : Moved (fun b => b = pb) w W := Moved.trans ((Moved.refl _ w).alloc O) hM
    clear hc hf D
    go_wp2_with fail
    go_loopw [15] (fun i wr => ∃ k A : Nat, i = .int .i64 (k : Int) ∧ k ≤ l.length ∧ (l.take k).foldl (fun a k => dAcc n k a) (acc ||| h.m) = A ∧ A < 18446744073709551616 ∧ wr.cell? ⟨pb, 0, none⟩ = some (.int .u64 (A : Int)) ∧ wr.frozen? ⟨pb, 0, none⟩ = false ∧ Moved (fun b => b = pb) w wr ∧ pb < wr.heap.size) (fun i _ => l.length - (intOf i).toNat)
    case atStart => exact ⟨0, _, rfl, by omega, rfl, hol, hc2, hf2, hM0, hlen W hM⟩
    case round =>
      obtain ⟨k, B, rfl, hk9, hfo, hB9, hcB, hfB, hMr, hpr⟩ := hrel
      clear hM0 hM hc2 hf2 hb hol
      by_cases hlt : k < l.length
      · obtain ⟨b, o, hd2, ka2, kn2, kc2, da2, dn2, dc2, rfl, hb, ⟨c0, c1, c2, c3, c4, c5, c6, c7, c8⟩, hlies⟩ := kid_kept hkid (hMr.kept hok) k hlt
        have hst := take_fold (fun a k => dAcc n k a) (acc ||| h.m) l k hlt
        rw [hfo] at hst
        obtain ⟨O2, hO2⟩ : ∃ O2, Obj.cells #[.int .i64 hd2.k, .int .u64 (hd2.m : Int), .bool hd2.ng, .string hd2.dg, .int .i64 hd2.sc, .string hd2.tx, .slice ka2 kn2 kc2, .slice da2 dn2 dc2, .int .i64 hd2.cd] 33 = O2 := ⟨_, rfl⟩
        have C := fun v W hW hc hf hp => kunhide IH v (l[k]'hlt) W (lev + 1) B hW (Nat.le_trans (at_le_sum _ l k hlt) (kunhide HSUM)) (kunhide HL) hB9 hc hf hp
        have HST := khide hst
        have HO2 := khide hO2
        clear hst hfo hO2
        go_wp2_with fail
        rw [kunhide HO2]
        refine (C _ _ (Lies.below ((Below.refl _ _).alloc (Nat.le_refl _) _) hlies) (by rw [World.cell?_alloc_lt _ _ _ hpr]; exact hcB) (by rw [World.frozen?_alloc_past _ _ _ hpr]; exact hfB) (by simp; omega)).mono ?_
        rintro e W2 ⟨rfl, hc3, hf3, hB3, hM3⟩
        have hM4 : Moved (fun b => b = pb) w W2 := hMr.trans (Moved.trans ((Moved.refl _ wr).alloc O2) hM3)
        have hp4 : pb < W2.heap.size := Nat.lt_of_lt_of_le hpr (Nat.le_trans (by simp) hM3.size)
        clear hM3 C
        go_wp2_with fail
        go_roundw
        case rel => exact ⟨k + 1, _, by go_num, hlt, kunhide HST, hB3, hc3, hf3, hM4, hp4⟩
        case measure => simp [intOf]; omega
      · have hAB : B = A := by
          rw [← hfo, List.take_of_length_le (by omega)]
          exact kunhide HA
        subst hAB
        clear hfo HA
        go_wp2_with fail
        go_end0
        exact ⟨rfl, hcB, hfB, hB9, hMr⟩

/-! ### the masks of all -/
theorem dAcc_or : ∀ (n : Nat) (t : Tr) (a : Nat), dAcc n t a = a ||| deepT n t
  | 0, _, a => by simp [dAcc, deepT]
  | n + 1, t, a => by
    show (Tr.kd t).foldl (fun a k => dAcc n k a) (a ||| (Tr.hd t).m) = a ||| (Tr.kd t).foldl (fun a k => a ||| deepT n k) (Tr.hd t).m
    have e : (fun a k => dAcc n k a) = fun a k => a ||| deepT n k := by
      funext a k
      exact dAcc_or n k a
    rw [e]
    exact fold_or _ _ _ _
where
  fold_or (n : Nat) : ∀ (l : List Tr) (a b : Nat), l.foldl (fun a k => a ||| deepT n k) (a ||| b) = a ||| l.foldl (fun a k => a ||| deepT n k) b
    | [], _, _ => rfl
    | t :: r, a, b => by
      rw [List.foldl_cons, List.foldl_cons, Nat.or_assoc]
      exact fold_or n r a _

set_option maxHeartbeats 1000000 in
set_option maxRecDepth 1000000 in
theorem deep_any (ok : Nat → Prop) (n : Nat) (v : Value) (t : Tr) (w : World) (hl : Lies ok w n v t) (hs : sizeT n t ≤ 1000000) (hn : n ≤ 999999) :
    Calls Tryd.prog 25 #[v] w fun e w' => e = .returned (.int .u64 (deepT n t : Int)) ∧ deepT n t < 18446744073709551616 ∧ Below w.heap.size w w' := by
  cases n with
  | zero => exact hl.elim
  | succ m =>
    have hl' : Lies (fun b => b < w.heap.size) w (m + 1) v t := hl.weak (fun b hb _ => hb)
    obtain ⟨h, l, ka, kc, a, cap, rfl, rfl, hm64, hkc, hdc, hks, hkid⟩ := hl.node
    have HL := khide hl'
    have HS := khide hs
    have hdo := dAcc_or (m + 1) (Tr.mk h l) 0
    rw [Nat.zero_or] at hdo
    have HDO := khide hdo
    clear hl' hs hks hkid hl hdo
    go_enter Tryd.func25, Tryd.ntmps25
    have C : ∀ W, Lies (fun b => b < w.heap.size) W (m + 1) (.agg #[.int .i64 h.k, .int .u64 (h.m : Int), .bool h.ng, .string h.dg, .int .i64 h.sc, .string h.tx, .slice ka h.ks.length kc, .slice a l.length cap, .int .i64 h.cd]) (Tr.mk h l) →
        W.cell? ⟨w.heap.size + 1, 0, none⟩ = some (.int .u64 0) → W.frozen? ⟨w.heap.size + 1, 0, none⟩ = false → w.heap.size + 1 < W.heap.size →
        Calls Tryd.prog 64 #[.agg #[.int .i64 h.k, .int .u64 (h.m : Int), .bool h.ng, .string h.dg, .int .i64 h.sc, .string h.tx, .slice ka h.ks.length kc, .slice a l.length cap, .int .i64 h.cd], .int .i64 1, .func (Fn.func 65) #[] #[.pointer (some ⟨w.heap.size + 1, 0, none⟩)]] W
          fun e w' => e = .returned (.tuple #[]) ∧ w'.cell? ⟨w.heap.size + 1, 0, none⟩ = some (.int .u64 (dAcc (m + 1) (Tr.mk h l) 0 : Int)) ∧ w'.frozen? ⟨w.heap.size + 1, 0, none⟩ = false ∧ dAcc (m + 1) (Tr.mk h l) 0 < 18446744073709551616 ∧ Moved (fun b => b = w.heap.size + 1) W w' :=
      fun W hW hc hf hp => walkdeep_any (fun b => b < w.heap.size) (w.heap.size + 1) (fun b hb e => by omega) (m + 1) _ _ W 1 0 hW (kunhide HS) (by omega) (by decide) hc hf hp
    have HC := khide C
    have hB2 : ∀ o1 o2, Below w.heap.size w ((w.alloc o1).alloc o2) := fun o1 o2 => ((Below.refl _ w).alloc (Nat.le_refl _) o1).alloc (by simp) o2
    have HB2 := khide hB2
    clear C hB2
    go_wp2_with fail
    refine (kunhide HC _ (Lies.below (kunhide HB2 _ _) (kunhide HL)) ?_ ?_ (by simp)).mono ?_
    · exact World.cell?_alloc_at _ _ _ _ (by simp)
    · exact World.frozen?_alloc_at _ _ _ _ (by simp)
    rintro e W ⟨rfl, hc, hf, hd9, hM⟩
    have hBW : Below w.heap.size w W := Moved.to_below (kunhide HB2 _ _) (by simp; omega) hM (fun b hb e => by omega)
    rw [kunhide HDO] at hc hd9
    clear hM hf
    go_wp2_with fail
    go_ret
    exact ⟨rfl, hd9, hBW⟩
end Go.Proofs.YtigpfbfkdccdaaaDoor
