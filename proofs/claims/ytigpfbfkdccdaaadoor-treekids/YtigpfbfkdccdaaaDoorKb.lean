/- What is proved here: what package tree's Held answers, walked; condition: at most a million nodes. -/
import Derived.Test.YtigpfbfkdccdaaaDoorRows
import Derived.Test.YtigpfbfkdccdaaaDoorKa
import Derived.Test.YtigpfbfkdccdaaaDoorProg
namespace Go.Proofs.YtigpfbfkdccdaaaDoor
open Go.RowKit
set_option linter.unusedVariables false
set_option linter.unusedSimpArgs false

set_option maxHeartbeats 1000000 in
set_option maxRecDepth 1000000 in
theorem held_any (ok : Nat → Prop) : ∀ (n : Nat) (v : Value) (t : Tr) (w : World), Lies ok w n v t → sizeT n t ≤ 1000000 →
    Calls Tryd.prog 29 #[v] w fun e w' => e = .returned (.int .i64 (heldT n t : Int)) ∧ Below w.heap.size w w'
  | 0, _, _, _, h, _ => h.elim
  | n + 1, v, t, w, hl, hs => by
    obtain ⟨h, l, ka, kc, a, cap, rfl, rfl, hm64, hkc, hdc, hks, hkid⟩ := hl.node
    have IH := khide (held_any ok n)
    by_cases hm : h.m = 0
    · have hmf : ((h.m : Int) != 0) = false := by rw [hm]; rfl
      have hsum : (l.map (sizeT n)).sum ≤ 1000000 := by
        have : 1 + (l.map (sizeT n)).sum ≤ 1000000 := hs
        omega
      have hlen : l.length ≤ 1000000 := Nat.le_trans (len_le_sum _ (sizeT_pos n) l) hsum
      have heq : heldT (n + 1) (Tr.mk h l) = 1 + (l.map (heldT n)).sum := if_pos hm
      obtain ⟨S, hS⟩ : ∃ S, 1 + (l.map (heldT n)).sum = S := ⟨_, rfl⟩
      rw [heq, hS]
      have HS := khide hsum
      have HE := khide hS
      clear hm hs heq hsum hS
      go_enter Tryd.func29, Tryd.ntmps29
      go_wp2_with fail
      go_loopw [3, 13] (fun c i wr => ∃ k s : Nat, i = .int .i64 (k : Int) ∧ k ≤ l.length ∧ c = .int .i64 (s : Int) ∧ s = 1 + ((l.take k).map (heldT n)).sum ∧ Below w.heap.size w wr) (fun _ i _ => l.length - (intOf i).toNat)
      case atStart => exact ⟨0, 1, rfl, by omega, rfl, rfl, (Below.refl _ _).alloc (Nat.le_refl _) _⟩
      case round =>
        obtain ⟨k, s, rfl, hk9, rfl, hsv, hB⟩ := hrel
        by_cases hlt : k < l.length
        · obtain ⟨b, o, hd2, ka2, kn2, kc2, da2, dn2, dc2, rfl, hb, ⟨c0, c1, c2, c3, c4, c5, c6, c7, c8⟩, hlies⟩ := kid_at hkid hB k hlt
          have h1 := take_sum (heldT n) l k hlt
          have h2 : ((l.take (k + 1)).map (heldT n)).sum ≤ 1000000 := Nat.le_trans (take_sum_le _ l _) (Nat.le_trans (map_sum_le _ _ (held_le n) l) (kunhide HS))
          obtain ⟨x, hx⟩ : ∃ x, heldT n (l[k]'hlt) = x := ⟨_, rfl⟩
          have h3 : s + x = 1 + ((l.take (k + 1)).map (heldT n)).sum := by omega
          have h4 : s + x ≤ 1000001 := by omega
          have C := fun v W hW => kunhide IH v (l[k]'hlt) W hW (Nat.le_trans (at_le_sum _ l k hlt) (kunhide HS))
          rw [hx] at C
          have H3 := khide h3
          clear h1 h2 h3 hx hsv
          go_wp2_with fail
          refine (C _ _ (Lies.below ((Below.refl _ _).alloc (Nat.le_refl _) _) hlies)).mono ?_
          rintro e W ⟨rfl, b2⟩
          go_wp2_with fail
          go_roundw
          case rel => exact ⟨k + 1, s + x, rfl, hlt, by go_num, kunhide H3, below_next (hB.alloc hB.size _) b2⟩
          case measure => simp [intOf]; omega
        · have hke : S = s := by rw [hsv, List.take_of_length_le (by omega)]; exact (kunhide HE).symm
          subst hke
          clear hsv
          go_wp2_with fail
          go_ret
          exact ⟨rfl, hB⟩
    · have hmf : ((h.m : Int) != 0) = true := bne_iff_ne.2 (by omega)
      have heq : heldT (n + 1) (Tr.mk h l) = 1 := if_neg hm
      rw [heq]
      clear hm hs heq
      go_enter Tryd.func29, Tryd.ntmps29
      go_wp2_with fail
      go_ret
      exact ⟨rfl, (Below.refl _ _).alloc (Nat.le_refl _) _⟩
end Go.Proofs.YtigpfbfkdccdaaaDoor
