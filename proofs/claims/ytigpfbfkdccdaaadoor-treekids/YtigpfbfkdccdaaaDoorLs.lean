/- What is proved here: package tree's Same is true of one tree, walked; what the document's own With makes of a value. -/
import Derived.Test.YtigpfbfkdccdaaaDoorKl
import Derived.Test.YtigpfbfkdccdaaaDoorKi
import Derived.Deep.LoopGhost
namespace Go.Proofs.YtigpfbfkdccdaaaDoor
open Go.RowKit
set_option linter.unusedVariables false
set_option linter.unusedSimpArgs false

set_option maxHeartbeats 1000000 in
set_option maxRecDepth 1000000 in
theorem sequal_eq (ok ok' : Nat → Prop) (v v' : Value) (ks : List ByteArray) (w : World) (h1 : StrsIn ok w v ks) (h2 : StrsIn ok' w v' ks) (hn : ks.length ≤ 1000000) :
    Calls Tryd.prog 59 #[v, v'] w fun e w' => e = .returned (.bool true) ∧ Below w.heap.size w w' := by
  obtain ⟨a, c, rfl, _, hk⟩ := h1
  obtain ⟨a', c', rfl, _, hk'⟩ := h2
  have HK := khide hk
  have HK' := khide hk'
  clear hk hk'
  go_enter Tryd.func59, Tryd.ntmps59
  go_wp2_with fail
  go_loopw [13] (fun i wr => ∃ k : Nat, i = .int .i64 (k : Int) ∧ k ≤ ks.length ∧ Below w.heap.size w wr) (fun i _ => ks.length - (intOf i).toNat)
  case atStart => exact ⟨0, rfl, by omega, Below.refl _ _⟩
  case round =>
    obtain ⟨k, rfl, hk9, hB⟩ := hrel
    by_cases hlt : k < ks.length
    · obtain ⟨b, o, hao, hb, hc⟩ := str_at (kunhide HK) hB k hlt
      obtain ⟨b', o', hao', hb', hc'⟩ := str_at (kunhide HK') hB k hlt
      subst hao
      subst hao'
      obtain ⟨s, hs⟩ : ∃ s, ks[k]'hlt = s := ⟨_, rfl⟩
      rw [hs] at hc hc'
      have hsf := bne_selfB s
      have HB := khide hB
      have hi : (k : Int) < (ks.length : Int) := by omega
      clear hs hB
      go_wp2_with fail
      go_quiet (fail)
      go_wp2_with fail
      go_roundw
      case rel => exact ⟨k + 1, by go_num, hlt, by first | exact kunhide HB | exact below_drewN' (kunhide HB)⟩
      case measure => simp [intOf]; omega
    · have HB := khide hB
      have hi : ¬ (k : Int) < (ks.length : Int) := by omega
      clear hB
      go_wp2_with fail
      go_ret
      exact ⟨rfl, kunhide HB⟩

set_option maxHeartbeats 2000000 in
set_option maxRecDepth 1000000 in
theorem equalfunc_eq (ok ok' : Nat → Prop) (n : Nat) (v v' : Value) (l : List Tr) (w : World) (h1 : KidsIn ok (Lies ok w n) w v l) (h2 : KidsIn ok' (Lies ok' w n) w v' l) (hl : l.length ≤ 1000000)
    (C : ∀ a b t W, t ∈ l → Lies ok W n a t → Lies ok' W n b t → Calls Tryd.prog 22 #[a, b] W fun e W' => e = .returned (.bool true) ∧ Below W.heap.size W W') :
    Calls Tryd.prog 60 #[v, v', .func (Fn.func 22) #[] #[]] w fun e w' => e = .returned (.bool true) ∧ Below w.heap.size w w' := by
  obtain ⟨a, ac, rfl, _, hka⟩ := h1
  obtain ⟨b, bc, rfl, _, hkb⟩ := h2
  have HC := khide C
  have HKA := khide hka
  have HKB := khide hkb
  clear C hka hkb
  go_enter Tryd.func60, Tryd.ntmps60
  go_wp2_with fail
  go_loopg [17] l.length (fun g i wr => ∃ k : Nat, i = .int .i64 (k : Int) ∧ k + g = l.length ∧ Below w.heap.size w wr)
  case atStart => exact ⟨0, rfl, by omega, Below.refl _ _⟩
  case round =>
    obtain ⟨k, rfl, hkg, hB⟩ := hrel
    by_cases hlt : k < l.length
    · obtain ⟨b1, o1, hd1, ka1, kn1, kc1, da1, dn1, dc1, hao, hb1, ⟨c0, c1, c2, c3, c4, c5, c6, c7, c8⟩, hl1⟩ := kid_at (kunhide HKA) hB k hlt
      subst hao
      have e1 : (k : Int) < (l.length : Int) := by omega
      obtain ⟨b2, o2, hd2, ka2, kn2, kc2, da2, dn2, dc2, hao, hb2, ⟨x0, x1, x2, x3, x4, x5, x6, x7, x8⟩, hl2⟩ := kid_at (kunhide HKB) hB k hlt
      subst hao
      have hb2' : b2 < wr.heap.size := Nat.lt_of_lt_of_le hb2 hB.size
      have CC := fun W (hW : Below wr.heap.size wr W) => kunhide HC _ _ _ W (List.getElem_mem hlt) (hl1.below hW) (hl2.below hW)
      have HCC := khide CC
      have HB := khide hB
      clear CC hl1 hl2 hB
      go_wp2_with fail
      refine (kunhide HCC _ (((Below.refl _ wr).alloc (Nat.le_refl _) _).alloc (by simp) _)).mono ?_
      rintro e W ⟨rfl, hbw⟩
      have HB2 := khide (below_next (((kunhide HB).alloc (kunhide HB).size _).alloc (by have := (kunhide HB).size; simp; omega) _) hbw)
      clear hbw
      go_wp2_with fail
      go_roundg (gk - 1)
      case measure => omega
      case rel => exact ⟨k + 1, by go_num, by omega, kunhide HB2⟩
    · have e1 : ¬ (k : Int) < (l.length : Int) := by omega
      go_wp2_with fail
      go_ret
      exact ⟨rfl, hB⟩

set_option maxHeartbeats 2000000 in
set_option maxRecDepth 1000000 in
theorem tsame_eq (ok ok' : Nat → Prop) : ∀ (n : Nat) (v v' : Value) (t : Tr) (w : World), Lies ok w n v t → Lies ok' w n v' t → okT n t →
    Calls Tryd.prog 22 #[v, v'] w fun e w' => e = .returned (.bool true) ∧ Below w.heap.size w w'
  | 0, _, _, _, _, h, _, _ => h.elim
  | n + 1, v, v', t, w, h1, h2, ho => by
    obtain ⟨h, l, ka, kc, da, dc, rfl, rfl, hm64, hkc, hdc, hks, hkid⟩ := h1.node
    obtain ⟨h', l', ka', kc', da', dc', e1, rfl, hm64', hkc', hdc', hks', hkid'⟩ := h2.node
    obtain ⟨rfl, rfl⟩ := Tr.mk_inj e1
    have IH := tsame_eq ok ok' n
    have CT : ∀ W, Below w.heap.size w W → Calls Tryd.prog 59 #[.slice ka h.ks.length kc, .slice ka' h.ks.length kc'] W fun e w' => e = .returned (.bool true) ∧ Below W.heap.size W w' := fun W hW =>
      sequal_eq ok ok' _ _ h.ks W (StrsIn.keep ⟨ka, kc, rfl, hkc, hks⟩ (Kept.of_below hW) (fun _ _ h => h)) (StrsIn.keep ⟨ka', kc', rfl, hkc', hks'⟩ (Kept.of_below hW) (fun _ _ h => h)) ho.1
    have hlen : l.length ≤ 1000000 := ho.2.1
    have CE : ∀ W, Below w.heap.size w W → Calls Tryd.prog 60 #[.slice da l.length dc, .slice da' l.length dc', .func (Fn.func 22) #[] #[]] W fun e w' => e = .returned (.bool true) ∧ Below W.heap.size W w' := fun W hW =>
      equalfunc_eq ok ok' n _ _ l W (KidsIn.keep (fun _ _ p => p.below hW) ⟨da, dc, rfl, hdc, hkid⟩ (Kept.of_below hW) (fun _ _ h => h)) (KidsIn.keep (fun _ _ p => p.below hW) ⟨da', dc', rfl, hdc', hkid'⟩ (Kept.of_below hW) (fun _ _ h => h)) hlen (fun a b t W' ht ha hb => IH a b t W' ha hb (ho.2.2 t ht))
    have HCT := khide CT
    have HCE := khide CE
    have e2 := bne_selfB h.tx
    have e3 := bne_selfB h.dg
    have e4 := beq_selfB h.dg
    have e5 := beq_selfB h.tx
    clear CT CE h1 h2 ho hks hks' hkid hkid' e1 IH
    go_enter Tryd.func22, Tryd.ntmps22
    go_wp2_with fail
    refine (kunhide HCT _ (((Below.refl _ w).alloc (Nat.le_refl _) _).alloc (by simp) _)).mono ?_
    rintro e W1 ⟨rfl, hB1⟩
    obtain ⟨b1, b2, hB⟩ := two_box w _ _ _ _ W1 hB1
    have HB := khide hB
    clear hB hB1
    go_wp2_with fail
    refine (kunhide HCE _ (kunhide HB)).mono ?_
    rintro e W2 ⟨rfl, hB2⟩
    have HB2 := khide ((kunhide HB).trans (hB2.mono (kunhide HB).size))
    clear b1 b2 hB2
    go_wp2_with fail
    go_ret
    exact ⟨rfl, kunhide HB2⟩

set_option maxHeartbeats 2000000 in
set_option maxRecDepth 1000000 in
/-- The document's own With. -/
theorem rwith_any (ok : Nat → Prop) (n : Nat) (v : Value) (t : Tr) (m : Nat) (w : World) (hl : Lies ok w n v t) (hm : m < 18446744073709551616) :
    Calls Tryd.prog 32 #[v, .int .u64 (m : Int)] w fun e w' => ∃ v', e = .returned v' ∧ Lies ok w' n v' (withT m t) ∧ Below w.heap.size w w' := by
  cases n with
  | zero => exact hl.elim
  | succ n =>
    have hl' := hl
    obtain ⟨h, l, ka, kc, da, dc, rfl, rfl, e0, h1, h3, h2, h4⟩ := hl.node
    have hor : bits BinOp.or IntKind.u64 (h.m : Int) (m : Int) = ((h.m ||| m : Nat) : Int) := u64_or_nat _ _ e0 hm
    obtain ⟨M, hM⟩ : ∃ M, h.m ||| m = M := ⟨_, rfl⟩
    have hW := with_lies m hm hl' kc dc h1 h3
    rw [hM] at hor hW
    have HW := khide hW
    clear hW hl hl' h2 h4 hM
    go_enter Tryd.func32, Tryd.ntmps32
    go_wp2_with fail
    exact bodyPost_ret (v := .agg #[.int .i64 h.k, .int .u64 (M : Int), .bool h.ng, .string h.dg, .int .i64 h.sc, .string h.tx, .slice ka h.ks.length kc, .slice da l.length dc, .int .i64 h.cd]) (by simp [results, Tryd.results32, go_sem]) rfl ⟨_, rfl, (kunhide HW).below (((Below.refl _ w).alloc (Nat.le_refl _) _).alloc (by simp) _), ((Below.refl _ w).alloc (Nat.le_refl _) _).alloc (by simp) _⟩
end Go.Proofs.YtigpfbfkdccdaaaDoor
