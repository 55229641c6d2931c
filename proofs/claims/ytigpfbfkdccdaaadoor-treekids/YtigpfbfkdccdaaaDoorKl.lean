/- What is proved here: what the document's own Texts and Same answer of what is the same, walked. -/
import Derived.Test.YtigpfbfkdccdaaaDoorKc
import Derived.BigQuiet
import Derived.Deep.QuietTactic
import Derived.Deep.RegionWith
namespace Go.Proofs.YtigpfbfkdccdaaaDoor
open Go.RowKit
set_option linter.unusedVariables false
set_option linter.unusedSimpArgs false

theorem below_drewN' {B : Nat} {a w : World} (h : Below B a w) : ∀ {n : Nat}, Below B a (w.drewN n) := fun {n} => ⟨h.os, h.tape, h.output, h.size, h.block⟩
theorem beq_selfB (u : ByteArray) : (u.toList == u.toList) = true := beq_self_eq_true _
theorem bne_selfB (u : ByteArray) : (u.toList != u.toList) = false := bne_self_eq_false _
set_option maxHeartbeats 1000000 in
set_option maxRecDepth 1000000 in
theorem texts_eq (ok ok' : Nat → Prop) (v v' : Value) (ks : List ByteArray) (w : World) (h1 : StrsIn ok w v ks) (h2 : StrsIn ok' w v' ks) (hn : ks.length ≤ 1000000) :
    Calls Tryd.prog 48 #[v, v'] w fun e w' => e = .returned (.bool true) ∧ Below w.heap.size w w' := by
  obtain ⟨a, c, rfl, _, hk⟩ := h1
  obtain ⟨a', c', rfl, _, hk'⟩ := h2
  have HK := khide hk
  have HK' := khide hk'
  clear hk hk'
  go_enter Tryd.func48, Tryd.ntmps48
  go_wp2_with fail
  go_loopw [5] (fun i wr => ∃ k : Nat, i = .int .i64 (k : Int) ∧ k ≤ ks.length ∧ Below w.heap.size w wr) (fun i _ => ks.length - (intOf i).toNat)
  case atStart => exact ⟨0, rfl, by omega, Below.refl _ _⟩
  case round =>
    obtain ⟨k, rfl, hk9, hB⟩ := hrel
    by_cases hlt : k < ks.length
    · obtain ⟨b, o, hao, hb, hc⟩ := str_at (kunhide HK) hB k hlt
      obtain ⟨b', o', hao', hb', hc'⟩ := str_at (kunhide HK') hB k hlt
      subst hao
      subst hao'
      obtain ⟨s, hs⟩ : ∃ s, ks[k]'hlt = s := ⟨_, rfl⟩
      rw [hs] at hc hc'
      have hsf := bne_selfB s
      have HB := khide hB
      have hi : (k : Int) < (ks.length : Int) := by omega
      clear hs hB
      go_wp2_with fail
      go_quiet (fail)
      go_wp2_with fail
      go_roundw
      case rel => exact ⟨k + 1, by go_num, hlt, by first | exact kunhide HB | exact below_drewN' (kunhide HB)⟩
      case measure => simp [intOf]; omega
    · have HB := khide hB
      clear hB
      go_wp2_with fail
      go_ret
      exact ⟨rfl, kunhide HB⟩

/-- Two boxes, in a later world. -/
theorem two_box (w : World) (c1 c2 : Array Value) (t1 t2 : TypeId) (W : World) (hB : Below ((w.alloc (.cells c1 t1)).alloc (.cells c2 t2)).heap.size ((w.alloc (.cells c1 t1)).alloc (.cells c2 t2)) W) :
    (∀ r, W.cell? ⟨w.heap.size, r, none⟩ = c1[r]?) ∧ (∀ r, W.cell? ⟨w.heap.size + 1, r, none⟩ = c2[r]?) ∧ Below w.heap.size w W := by
  have hz := hB.size
  refine ⟨fun r => ?_, fun r => ?_, ?_⟩
  · rw [hB.cell (p := ⟨w.heap.size, r, none⟩) (by simp; omega), World.cell?_alloc_past _ _ _ (by simp)]
    exact World.cell?_alloc_at _ _ _ _ rfl
  · rw [hB.cell (p := ⟨w.heap.size + 1, r, none⟩) (by simp)]
    exact World.cell?_alloc_at _ _ _ _ (by simp)
  · exact (((Below.refl _ w).alloc (Nat.le_refl _) _).alloc (by simp) _).trans (hB.mono (by simp; omega))

set_option maxHeartbeats 2000000 in
set_option maxRecDepth 1000000 in
theorem rsame_eq (ok ok' : Nat → Prop) : ∀ (n : Nat) (v v' : Value) (t : Tr) (w : World), Lies ok w n v t → Lies ok' w n v' t → okT n t →
    Calls Tryd.prog 19 #[v, v'] w fun e w' => e = .returned (.bool true) ∧ Below w.heap.size w w'
  | 0, _, _, _, _, h, _, _ => h.elim
  | n + 1, v, v', t, w, h1, h2, ho => by
    obtain ⟨h, l, ka, kc, da, dc, rfl, rfl, hm64, hkc, hdc, hks, hkid⟩ := h1.node
    obtain ⟨h', l', ka', kc', da', dc', e1, rfl, hm64', hkc', hdc', hks', hkid'⟩ := h2.node
    obtain ⟨rfl, rfl⟩ := Tr.mk_inj e1
    have IH := khide (rsame_eq ok ok' n)
    have CT : ∀ W, Below w.heap.size w W → Calls Tryd.prog 48 #[.slice ka h.ks.length kc, .slice ka' h.ks.length kc'] W fun e w' => e = .returned (.bool true) ∧ Below W.heap.size W w' := fun W hW =>
      texts_eq ok ok' _ _ h.ks W (StrsIn.keep ⟨ka, kc, rfl, hkc, hks⟩ (Kept.of_below hW) (fun _ _ h => h)) (StrsIn.keep ⟨ka', kc', rfl, hkc', hks'⟩ (Kept.of_below hW) (fun _ _ h => h)) ho.1
    have hlen : l.length ≤ 1000000 := ho.2.1
    have HO := khide ho.2.2
    have HCT := khide CT
    have HK := khide hkid
    have HK' := khide hkid'
    have e2 := bne_selfB h.tx
    have e3 := bne_selfB h.dg
    have e4 := beq_selfB h.dg
    have e5 := beq_selfB h.tx
    clear CT h1 h2 ho hks hks' hkid hkid' e1
    go_enter Tryd.func19, Tryd.ntmps19
    go_wp2_with fail
    refine (kunhide HCT _ (((Below.refl _ w).alloc (Nat.le_refl _) _).alloc (by simp) _)).mono ?_
    rintro e W1 ⟨rfl, hB1⟩
    obtain ⟨b1, b2, hB⟩ := two_box w _ _ _ _ W1 hB1
    have HB1 := khide hB1
    clear hB1
    go_wp2_with fail
    go_loopw [6] (fun i wr => ∃ k : Nat, i = .int .i64 (k : Int) ∧ k ≤ l.length ∧ Below W1.heap.size W1 wr) (fun i _ => l.length - (intOf i).toNat)
    case atStart => exact ⟨0, rfl, by omega, Below.refl _ _⟩
    case round =>
      obtain ⟨k, rfl, hk9, hBr⟩ := hrel
      clear b1 b2
      have hB1r := (kunhide HB1).trans (hBr.mono (kunhide HB1).size)
      obtain ⟨b1, b2, hBw⟩ := two_box w _ _ _ _ wr hB1r
      by_cases hlt : k < l.length
      · obtain ⟨b, o, hd2, ka2, kn2, kc2, da2, dn2, dc2, hao, hb, ⟨c0, c1, c2, c3, c4, c5, c6, c7, c8⟩, hlies⟩ := kid_at (kunhide HK) hBw k hlt
        obtain ⟨b', o', hd2', ka2', kn2', kc2', da2', dn2', dc2', hao', hb', ⟨c0', c1', c2', c3', c4', c5', c6', c7', c8'⟩, hlies'⟩ := kid_at (kunhide HK') hBw k hlt
        subst hao
        subst hao'
        have C := fun W hW => kunhide IH _ _ (l[k]'hlt) W (Lies.below hW hlies) (Lies.below hW hlies') (kunhide HO _ (List.getElem_mem hlt))
        have HC := khide C
        have HBR := khide hBr
        have hi : (k : Int) < (l.length : Int) := by omega
        clear C hBr hB1r hBw hlies hlies'
        go_wp2_with fail
        go_region_with (go_at_call 19; refine (kunhide HC _ ((Below.refl _ _).drew)).mono ?_; rintro e W2 ⟨rfl, hb2⟩)
        all_goals
          have hBR2 : Below W1.heap.size W1 W2 := (kunhide HBR).trans ((Below.drew (Below.refl W1.heap.size wr)).trans (hb2.mono (kunhide HBR).size))
          clear hb2 b1 b2
          go_wp2_with fail
          go_roundw
          case rel => exact ⟨k + 1, by go_num, hlt, hBR2⟩
          case measure => simp [intOf]; omega
      · have HBW := khide hBw
        clear hBw hB1r hBr
        go_wp2_with fail
        go_ret
        exact ⟨rfl, kunhide HBW⟩
end Go.Proofs.YtigpfbfkdccdaaaDoor
