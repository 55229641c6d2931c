/- What is proved here: what package tree's With answers, walked. -/
import Derived.Test.YtigpfbfkdccdaaaDoorKc
import Derived.BigRegion
import Derived.Deep.RegionHeld3
namespace Go.Proofs.YtigpfbfkdccdaaaDoor
open Go.RowKit
set_option linter.unusedVariables false
set_option linter.unusedSimpArgs false

theorem CapOk.clip {a : Option Addr} {n c : Nat} (h : CapOk a n c) : CapOk a n n := ⟨Nat.le_refl _, fun e => by have := h.2 e; have := h.1; omega⟩
set_option maxHeartbeats 1000000 in
theorem clips_any (a : Option Addr) (n c : Nat) (hc : CapOk a n c) (w : World) : Calls Tryd.prog 62 #[.slice a n c] w fun e w' => e = .returned (.slice a n n) ∧ w' = w := by
  obtain ⟨h1, h2⟩ := hc
  cases a with
  | none =>
    have := h2 rfl
    obtain rfl : c = 0 := this
    obtain rfl : n = 0 := by omega
    go_enter Tryd.func62, Tryd.ntmps62
    go_wp2_with fail
    go_ret
    exact ⟨rfl, rfl⟩
  | some a =>
    go_enter Tryd.func62, Tryd.ntmps62
    go_wp2_with fail
    go_ret
    exact ⟨rfl, rfl⟩
set_option maxHeartbeats 1000000 in
theorem clipv_any (a : Option Addr) (n c : Nat) (hc : CapOk a n c) (w : World) : Calls Tryd.prog 63 #[.slice a n c] w fun e w' => e = .returned (.slice a n n) ∧ w' = w := by
  obtain ⟨h1, h2⟩ := hc
  cases a with
  | none =>
    have := h2 rfl
    obtain rfl : c = 0 := this
    obtain rfl : n = 0 := by omega
    go_enter Tryd.func63, Tryd.ntmps63
    go_wp2_with fail
    go_ret
    exact ⟨rfl, rfl⟩
  | some a =>
    go_enter Tryd.func63, Tryd.ntmps63
    go_wp2_with fail
    go_ret
    exact ⟨rfl, rfl⟩

set_option maxHeartbeats 1000000 in
set_option maxRecDepth 1000000 in
theorem with_c (h : Hd) (ka : Option Addr) (kn kc : Nat) (da : Option Addr) (dn dc : Nat) (m : Nat) (w : World) (hk : CapOk ka kn kc) (hd : CapOk da dn dc) (hm : h.m < 18446744073709551616) (hm2 : m < 18446744073709551616) :
    Calls Tryd.prog 24 #[.agg #[.int .i64 h.k, .int .u64 (h.m : Int), .bool h.ng, .string h.dg, .int .i64 h.sc, .string h.tx, .slice ka kn kc, .slice da dn dc, .int .i64 h.cd], .int .u64 (m : Int)] w
      fun e w' => e = .returned (.agg #[.int .i64 h.k, .int .u64 ((h.m ||| m : Nat) : Int), .bool h.ng, .string h.dg, .int .i64 h.sc, .string h.tx, .slice ka kn kn, .slice da dn dn, .int .i64 h.cd]) ∧ Below w.heap.size w w' := by
  have ho := or_u64 hm hm2
  obtain ⟨M, hM⟩ : ∃ M, h.m ||| m = M := ⟨_, rfl⟩
  rw [hM] at ho ⊢
  have C1 := clips_any ka kn kc hk
  have C2 := clipv_any da dn dc hd
  have HC1 := khide C1
  have HC2 := khide C2
  clear hM C1 C2 hk hd
  go_enter Tryd.func24, Tryd.ntmps24
  go_wp2_with fail
  go_region_with (first | (go_at_call 62; refine (kunhide HC1 _).mono ?_; rintro e w' ⟨rfl, rfl⟩) | (go_at_call 63; refine (kunhide HC2 _).mono ?_; rintro e w' ⟨rfl, rfl⟩))
  all_goals
    go_wp2_with fail
    exact bodyPost_ret (v := .agg #[.int .i64 h.k, .int .u64 (M : Int), .bool h.ng, .string h.dg, .int .i64 h.sc, .string h.tx, .slice ka kn kn, .slice da dn dn, .int .i64 h.cd]) (by simp [results, Tryd.results24, go_sem]) rfl
      ⟨rfl, by first | exact (((Below.refl _ w).alloc (Nat.le_refl _) _).alloc (by simp) _).drew | exact (((Below.refl _ w).alloc (Nat.le_refl _) _).alloc (by simp) _)⟩
theorem with_lies {ok : Nat → Prop} {w : World} {n : Nat} {hd : Hd} {l : List Tr} {ka : Option Addr} {kc : Nat} {da : Option Addr} {dc : Nat} (m : Nat) (hm : m < 18446744073709551616)
    (hl : Lies ok w (n + 1) (.agg #[.int .i64 hd.k, .int .u64 (hd.m : Int), .bool hd.ng, .string hd.dg, .int .i64 hd.sc, .string hd.tx, .slice ka hd.ks.length kc, .slice da l.length dc, .int .i64 hd.cd]) (Tr.mk hd l)) (kc' dc' : Nat) (hk : CapOk ka hd.ks.length kc') (hd' : CapOk da l.length dc') :
    Lies ok w (n + 1) (.agg #[.int .i64 hd.k, .int .u64 ((hd.m ||| m : Nat) : Int), .bool hd.ng, .string hd.dg, .int .i64 hd.sc, .string hd.tx, .slice ka hd.ks.length kc', .slice da l.length dc', .int .i64 hd.cd]) (withT m (Tr.mk hd l)) := by
  obtain ⟨h, l2, ka2, kc2, da2, dc2, e1, e2, e0, h1, h3, h2, h4⟩ := hl.node
  obtain ⟨rfl, rfl⟩ := Tr.mk_inj e1
  have e3 := Value.agg.inj e2
  simp only [Array.mk.injEq, List.cons.injEq, Value.slice.injEq, and_true, true_and] at e3
  obtain ⟨⟨rfl, rfl⟩, ⟨rfl, rfl⟩⟩ := e3
  exact Lies.mk (hd := { hd with m := hd.m ||| m }) (or_lt e0 hm) hk hd' h2 h4
theorem with_any (ok : Nat → Prop) (n : Nat) (v : Value) (t : Tr) (m : Nat) (w : World) (hl : Lies ok w n v t) (hm : m < 18446744073709551616) :
    Calls Tryd.prog 24 #[v, .int .u64 (m : Int)] w fun e w' => ∃ v', e = .returned v' ∧ Lies ok w' n v' (withT m t) ∧ Below w.heap.size w w' := by
  cases n with
  | zero => exact hl.elim
  | succ n =>
    have hl' := hl
    obtain ⟨h, l, ka, kc, da, dc, rfl, rfl, e0, h1, h3, h2, h4⟩ := hl.node
    refine (with_c h ka _ kc da _ dc m w h1 h3 e0 hm).mono ?_
    rintro e w' ⟨rfl, hB⟩
    exact ⟨_, rfl, (with_lies m hm hl' _ _ h1.clip h3.clip).below hB, hB⟩
end Go.Proofs.YtigpfbfkdccdaaaDoor
