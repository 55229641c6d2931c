/- What is proved here: what Valid, Runes, byteAt, Cut and escape of package quote do, walked; conditions: as each theorem states. What is proved here: what the document's own Rune answers, walked; conditions: the place is within the text, the text has at most 2^40 bytes. What is proved here: what the document's own Valid and Parts answer, walked; condition: the text has at most 2^40 bytes. -/
import Derived.Test.YtppkknmgdahniaaDoorRows
import Derived.Test.YtppkknmgdahniaaDoorZAb
import Derived.Test.YtppkknmgdahniaaDoorZAc
import Derived.WalkKit
import Derived.WalkSpells
import Derived.WalkLawsBesides
import Derived.BigCall
import Derived.Test.YtppkknmgdahniaaDoorProg
import Derived.Below
import Derived.OwnWalk
namespace Go.Proofs.YtppkknmgdahniaaDoor
set_option maxRecDepth 100000
open Go.RowKit
set_option linter.unusedVariables false
set_option linter.unusedSimpArgs false

theorem at_step (s : ByteArray) (pos : Nat) (hp : pos < s.size) : s.data.toList.drop pos ≠ [] ∧ Lib.decodeL (s.data.toList.drop pos) = Utf8.decode s pos ∧
    (s.data.toList.drop pos).drop (Utf8.decode s pos).2 = s.data.toList.drop (pos + (Utf8.decode s pos).2) ∧ 1 ≤ (Utf8.decode s pos).2 ∧ pos + (Utf8.decode s pos).2 ≤ s.size := by
  have hne : s.data.toList.drop pos ≠ [] := by
    intro h0
    have := congrArg List.length h0
    rw [List.length_drop, ← Lib.size_eq] at this
    simp at this
    omega
  have hd := Lib.decodeL_drop s pos
  have h1 := Lib.decodeL_width (s.data.toList.drop pos)
  have h2 := Lib.decodeL_le (s.data.toList.drop pos) hne
  rw [hd, List.length_drop, ← Lib.size_eq] at h2
  rw [hd] at h1
  exact ⟨hne, hd, by rw [List.drop_drop], h1, by omega⟩
theorem at_end (s : ByteArray) (pos : Nat) (hp : ¬ pos < s.size) : s.data.toList.drop pos = [] := List.drop_eq_nil_of_le (by rw [← Lib.size_eq]; omega)

end Go.Proofs.YtppkknmgdahniaaDoor

namespace Go.Proofs.YtppkknmgdahniaaDoor
set_option maxRecDepth 100000
open Go.RowKit
set_option linter.unusedVariables false
set_option linter.unusedSimpArgs false

theorem rhide {p : Prop} (h : p) : Hid p := h
theorem runhide {p : Prop} (h : Hid p) : p := h
theorem at_get (s : ByteArray) (p k : Nat) (h : p + k < s.size) : (s.data.toList.drop p).getD k 0 = s[p + k]'h := by
  have h2 : p + k < s.data.toList.length := by rw [← Lib.size_eq]; exact h
  rw [List.getD_eq_getElem?_getD, List.getElem?_drop, List.getElem?_eq_getElem h2, Option.getD_some, Array.getElem_toList]
  rfl

set_option maxHeartbeats 4000000 in
set_option maxRecDepth 1000000 in
theorem ref_rune (s : ByteArray) (p : Nat) (hp : p < s.size) (hs : s.size ≤ 1099511627776) (rx rn : Nat) (hr : Qm.runeV (s.data.toList.drop p) = (rx, rn)) (w : World) :
    Calls Tryd.prog 66 #[.string s, .int .i64 (p : Int)] w fun e w' => e = .returned (.tuple #[.int .i64 (rx : Int), .int .i64 (rn : Int)]) ∧ w' = w := by
  have h0 : ((s.data.toList.drop p).getD 0 0) = s[p]'hp := at_get s p 0 hp
  have w0 : IntKind.i64.wrap ((s[p]'hp).toNat : Int) = ((s[p]'hp).toNat : Int) := by have := (s[p]'hp).toNat_lt; rw [IntKind.wrap_i64]; omega
  have hlen : (s.data.toList.drop p).length = s.size - p := by rw [List.length_drop, ← Lib.size_eq]
  by_cases c1 : (s[p]'hp).toNat < 128
  · have e := Qm.runeV_ascii (s.data.toList.drop p) (by rw [h0]; exact c1)
    rw [hr, h0] at e
    obtain ⟨e1, e2⟩ := Prod.mk.inj e
    subst e1; subst e2
    have t1 : decide (((s[p]'hp).toNat : Int) < 128) = true := decide_eq_true (by omega)
    clear c1 e hr h0 hlen hs
    go_enter Tryd.func66, Tryd.ntmps66
    go_wp2
    go_ret2
    exact ⟨rfl, rfl⟩
  have t1 : decide (((s[p]'hp).toNat : Int) < 128) = false := decide_eq_false (by omega)
  by_cases c2 : 194 ≤ (s[p]'hp).toNat ∧ (s[p]'hp).toNat < 245
  · obtain ⟨n, least, x, hl⟩ : ∃ n least x, Qm.lead (s[p]'hp).toNat n least x := by
      unfold Qm.lead
      by_cases a : (s[p]'hp).toNat < 224
      · exact ⟨_, _, _, .inl ⟨c2.1, a, rfl, rfl, rfl⟩⟩
      by_cases b : (s[p]'hp).toNat < 240
      · exact ⟨_, _, _, .inr (.inl ⟨by omega, b, rfl, rfl, rfl⟩)⟩
      · exact ⟨_, _, _, .inr (.inr ⟨by omega, c2.2, rfl, rfl, rfl⟩)⟩
    have hL := hl
    rw [← h0] at hL
    have hvx := Qm.valX_lt _ hL
    have hlen2 : ∀ k, k < s.size - p → p + k < s.size := by intro k hk; omega
    by_cases c3 : s.size < p + n
    · have e := Qm.runeV_short _ hL (by rw [hlen]; omega)
      rw [hr] at e
      obtain ⟨e1, e2⟩ := Prod.mk.inj e
      subst e1; subst e2
      unfold Qm.lead at hl
      rcases hl with ⟨a1, a2, rfl, rfl, rfl⟩ | ⟨a1, a2, rfl, rfl, rfl⟩ | ⟨a1, a2, rfl, rfl, rfl⟩
      · have t2 : decide ((194 : Int) ≤ ((s[p]'hp).toNat : Int)) = true := decide_eq_true (by omega)
        have t3 : decide (((s[p]'hp).toNat : Int) < 224) = true := decide_eq_true (by omega)
        have w1 : IntKind.i64.wrap ((p : Int) + 2) = ((p + 2 : Nat) : Int) := by rw [IntKind.wrap_i64]; omega
        have w2 : IntKind.i64.wrap (((s[p]'hp).toNat : Int) - 192) = (((s[p]'hp).toNat - 192 : Nat) : Int) := by rw [IntKind.wrap_i64]; omega
        have t9 : decide ((s.size : Int) < (p : Int) + 2) = true := decide_eq_true (by omega)
        clear c1 c2 c3 e hr h0 hlen hs hL hvx hlen2 a1 a2
        go_enter Tryd.func66, Tryd.ntmps66
        go_wp2
        go_ret2
        exact ⟨rfl, rfl⟩
      · have t2 : decide ((194 : Int) ≤ ((s[p]'hp).toNat : Int)) = true := decide_eq_true (by omega)
        have t3 : decide (((s[p]'hp).toNat : Int) < 224) = false := decide_eq_false (by omega)
        have t4 : decide ((224 : Int) ≤ ((s[p]'hp).toNat : Int)) = true := decide_eq_true (by omega)
        have t5 : decide (((s[p]'hp).toNat : Int) < 240) = true := decide_eq_true (by omega)
        have w1 : IntKind.i64.wrap ((p : Int) + 3) = ((p + 3 : Nat) : Int) := by rw [IntKind.wrap_i64]; omega
        have w2 : IntKind.i64.wrap (((s[p]'hp).toNat : Int) - 224) = (((s[p]'hp).toNat - 224 : Nat) : Int) := by rw [IntKind.wrap_i64]; omega
        have t9 : decide ((s.size : Int) < (p : Int) + 3) = true := decide_eq_true (by omega)
        clear c1 c2 c3 e hr h0 hlen hs hL hvx hlen2 a1 a2
        go_enter Tryd.func66, Tryd.ntmps66
        go_wp2
        go_ret2
        exact ⟨rfl, rfl⟩
      · have t2 : decide ((194 : Int) ≤ ((s[p]'hp).toNat : Int)) = true := decide_eq_true (by omega)
        have t3 : decide (((s[p]'hp).toNat : Int) < 224) = false := decide_eq_false (by omega)
        have t4 : decide ((224 : Int) ≤ ((s[p]'hp).toNat : Int)) = true := decide_eq_true (by omega)
        have t5 : decide (((s[p]'hp).toNat : Int) < 240) = false := decide_eq_false (by omega)
        have t6 : decide ((240 : Int) ≤ ((s[p]'hp).toNat : Int)) = true := decide_eq_true (by omega)
        have t7 : decide (((s[p]'hp).toNat : Int) < 245) = true := decide_eq_true (by omega)
        have w1 : IntKind.i64.wrap ((p : Int) + 4) = ((p + 4 : Nat) : Int) := by rw [IntKind.wrap_i64]; omega
        have w2 : IntKind.i64.wrap (((s[p]'hp).toNat : Int) - 240) = (((s[p]'hp).toNat - 240 : Nat) : Int) := by rw [IntKind.wrap_i64]; omega
        have t9 : decide ((s.size : Int) < (p : Int) + 4) = true := decide_eq_true (by omega)
        clear c1 c2 c3 e hr h0 hlen hs hL hvx hlen2 a1 a2
        go_enter Tryd.func66, Tryd.ntmps66
        go_wp2
        go_ret2
        exact ⟨rfl, rfl⟩
    · have hend := Qm.runeV_end _ hL (by rw [hlen]; omega)
      have hcont := Qm.runeV_cont _ hL
      rw [hr] at hend hcont
      have hp9 : p + 9 ≤ 9223372036854775807 := by omega
      have c3' : p + n ≤ s.size := by omega
      have hl' := hl
      unfold Qm.lead at hl
      obtain ⟨l, hl9⟩ : ∃ l, s.data.toList.drop p = l := ⟨_, rfl⟩
      have hget : ∀ i, p + i < s.size → ∀ q, p + i = q → ∀ h : q < s.size, l.getD i 0 = s[q]'h := by
        intro i hi q hq h
        subst hq
        rw [← hl9]
        exact at_get s p i hi
      rw [hl9] at hend hcont hvx
      rcases hl with ⟨a1, a2, rfl, rfl, rfl⟩ | ⟨a1, a2, rfl, rfl, rfl⟩ | ⟨a1, a2, rfl, rfl, rfl⟩
      · have t2 : decide ((194 : Int) ≤ ((s[p]'hp).toNat : Int)) = true := decide_eq_true (by omega)
        have t3 : decide (((s[p]'hp).toNat : Int) < 224) = true := decide_eq_true (by omega)
        have w1 : IntKind.i64.wrap ((p : Int) + 2) = ((p + 2 : Nat) : Int) := by rw [IntKind.wrap_i64]; omega
        have w2 : IntKind.i64.wrap (((s[p]'hp).toNat : Int) - 192) = (((s[p]'hp).toNat - 192 : Nat) : Int) := by rw [IntKind.wrap_i64]; omega
        have t9 : decide ((s.size : Int) < (p : Int) + 2) = false := decide_eq_false (by omega)
        obtain ⟨x0, hx0⟩ : ∃ x0, (s[p]'hp).toNat - 192 = x0 := ⟨_, rfl⟩
        rw [hx0] at w2 hend hvx
        have hvx0 : Qm.valX l x0 0 = x0 := rfl
        have HP := rhide hp9
        have HC := rhide c3'
        clear c1 c2 c3 c3' hr h0 hlen hs hL hl' hlen2 a1 a2 hp9 hl9 hx0
        go_enter Tryd.func66, Tryd.ntmps66
        go_wp2
        go_loop [9, 10] (fun x i => ∃ (k v : Nat), i = .int .i64 (k : Int) ∧ x = .int .i64 (v : Int) ∧ 1 ≤ k ∧ k ≤ 2 ∧ v = Qm.valX l x0 (k - 1) ∧ ∀ j, 1 ≤ j → j < k → 128 ≤ (l.getD j 0).toNat ∧ (l.getD j 0).toNat < 192) (fun _ i => 2 - (intOf i).toNat)
        case atStart => exact ⟨1, x0, rfl, rfl, by omega, by omega, hvx0.symm, fun j h1 h2 => by omega⟩
        case round =>
          obtain ⟨k, v, rfl, rfl, hk1, hkn, hv, hc⟩ := hrel
          by_cases hk : k < 2
          · obtain ⟨q, hq⟩ : ∃ q, p + k = q := ⟨_, rfl⟩
            have hqs : q < s.size := by have := runhide HC; omega
            have hg := hget k (by omega) q hq hqs
            have hv1 := hvx (k - 1) (by omega)
            rw [← hv] at hv1
            have hk2 : k + 1 - 1 = (k - 1) + 1 := by omega
            have hstep : Qm.valX l x0 (k + 1 - 1) = 64 * v + (s[q]'hqs).toNat - 128 := by rw [hk2, hv]; show 64 * Qm.valX l x0 (k - 1) + (l.getD (k - 1 + 1) 0).toNat - 128 = _; rw [Nat.sub_add_cancel hk1, hg]
            have hd8 := (s[q]'hqs).toNat_lt
            have v0 : IntKind.i64.wrap ((s[q]'hqs).toNat : Int) = ((s[q]'hqs).toNat : Int) := by rw [IntKind.wrap_i64]; omega
            have v1 : IntKind.i64.wrap ((p : Int) + (k : Int)) = (q : Int) := by have := runhide HP; rw [IntKind.wrap_i64]; omega
            have v2 : IntKind.i64.wrap (64 * (v : Int)) = 64 * (v : Int) := by rw [IntKind.wrap_i64]; omega
            have v3 : IntKind.i64.wrap (64 * (v : Int) + ((s[q]'hqs).toNat : Int)) = 64 * (v : Int) + ((s[q]'hqs).toNat : Int) := by rw [IntKind.wrap_i64]; omega
            have v5 : IntKind.i64.wrap ((k : Int) + 1) = ((k + 1 : Nat) : Int) := by rw [IntKind.wrap_i64]; omega
            have t10 : decide ((k : Int) < 2) = true := decide_eq_true (by omega)
            by_cases d1 : 128 ≤ (s[q]'hqs).toNat ∧ (s[q]'hqs).toNat < 192
            · obtain ⟨v9, hv9⟩ : ∃ v9, 64 * v + (s[q]'hqs).toNat - 128 = v9 := ⟨_, rfl⟩
              rw [hv9] at hstep
              have v4 : IntKind.i64.wrap (64 * (v : Int) + ((s[q]'hqs).toNat : Int) - 128) = (v9 : Int) := by rw [IntKind.wrap_i64]; omega
              have t11 : decide (((s[q]'hqs).toNat : Int) < 128) = false := decide_eq_false (by omega)
              have t12 : decide ((192 : Int) ≤ ((s[q]'hqs).toNat : Int)) = false := decide_eq_false (by omega)
              have hc2 : ∀ j, 1 ≤ j → j < k + 1 → 128 ≤ (l.getD j 0).toNat ∧ (l.getD j 0).toNat < 192 := by
                intro j j1 j2
                by_cases g : j < k
                · exact hc j j1 g
                · obtain rfl : j = k := by omega
                  rw [hg]; exact d1
              have HD := rhide d1
              have HK := rhide hk
              have HKN := rhide hkn
              have HK1 := rhide hk1
              clear d1 hd8 hv9 hv1 hk hkn hk1 hk2 hq hv hc hend hcont
              go_wp2
              go_round
              case rel => exact ⟨k + 1, v9, rfl, rfl, by omega, by have := runhide HK; omega, hstep.symm, hc2⟩
              case measure => have := runhide HK; simp [intOf]; omega
            · have e := hcont k hk1 hk (by rw [hg]; exact d1)
              obtain ⟨e1, e2⟩ := Prod.mk.inj e
              subst e1; subst e2
              by_cases d2 : (s[q]'hqs).toNat < 128
              · have t11 : decide (((s[q]'hqs).toNat : Int) < 128) = true := decide_eq_true (by omega)
                clear d1 d2 hd8 hv1 hk hkn hk1 hk2 hq hv hc hend hcont e hvx hget
                go_wp2
                go_ret2
                exact ⟨rfl, rfl⟩
              · have t11 : decide (((s[q]'hqs).toNat : Int) < 128) = false := decide_eq_false (by omega)
                have t12 : decide ((192 : Int) ≤ ((s[q]'hqs).toNat : Int)) = true := decide_eq_true (by omega)
                clear d1 d2 hd8 hv1 hk hkn hk1 hk2 hq hv hc hend hcont e hvx hget
                go_wp2
                go_ret2
                exact ⟨rfl, rfl⟩
          · obtain rfl : k = 2 := by omega
            obtain ⟨e1, e2⟩ := hend hc
            rw [← hv] at e1 e2
            have hv1 := hvx (2 - 1) (by omega)
            rw [← hv] at hv1
            by_cases f1 : v < 128
            · obtain ⟨g1, g2⟩ := Prod.mk.inj (e1 (.inl f1))
              subst g1; subst g2
              have u1 : decide ((v : Int) < 128) = true := decide_eq_true (by omega)
              clear f1 hv1 hv hc e1 e2 hend hcont hvx hget hk hkn hk1
              go_wp2
              go_ret2
              exact ⟨rfl, rfl⟩
            have u1 : decide ((v : Int) < 128) = false := decide_eq_false (by omega)
            by_cases f2 : 1114111 < v
            · obtain ⟨g1, g2⟩ := Prod.mk.inj (e1 (.inr (.inl f2)))
              subst g1; subst g2
              have u2 : decide ((1114111 : Int) < (v : Int)) = true := decide_eq_true (by omega)
              clear f1 f2 hv1 hv hc e1 e2 hend hcont hvx hget hk hkn hk1
              go_wp2
              go_ret2
              exact ⟨rfl, rfl⟩
            have u2 : decide ((1114111 : Int) < (v : Int)) = false := decide_eq_false (by omega)
            by_cases f3 : 55296 ≤ v
            · have u3 : decide ((55296 : Int) ≤ (v : Int)) = true := decide_eq_true (by omega)
              by_cases f4 : v < 57344
              · obtain ⟨g1, g2⟩ := Prod.mk.inj (e1 (.inr (.inr ⟨f3, f4⟩)))
                subst g1; subst g2
                have u4 : decide ((v : Int) < 57344) = true := decide_eq_true (by omega)
                clear f1 f2 f3 f4 hv1 hv hc e1 e2 hend hcont hvx hget hk hkn hk1
                go_wp2
                go_ret2
                exact ⟨rfl, rfl⟩
              · obtain ⟨g1, g2⟩ := Prod.mk.inj (e2 (by omega))
                subst g1; subst g2
                have u4 : decide ((rx : Int) < 57344) = false := decide_eq_false (by omega)
                clear f1 f2 f3 f4 hv1 hv hc e1 e2 hend hcont hvx hget hk hkn hk1
                go_wp2
                go_ret2
                exact ⟨rfl, rfl⟩
            · obtain ⟨g1, g2⟩ := Prod.mk.inj (e2 (by omega))
              subst g1; subst g2
              have u3 : decide ((55296 : Int) ≤ (rx : Int)) = false := decide_eq_false (by omega)
              clear f1 f2 f3 hv1 hv hc e1 e2 hend hcont hvx hget hk hkn hk1
              go_wp2
              go_ret2
              exact ⟨rfl, rfl⟩
      · have t2 : decide ((194 : Int) ≤ ((s[p]'hp).toNat : Int)) = true := decide_eq_true (by omega)
        have t3 : decide (((s[p]'hp).toNat : Int) < 224) = false := decide_eq_false (by omega)
        have t4 : decide ((224 : Int) ≤ ((s[p]'hp).toNat : Int)) = true := decide_eq_true (by omega)
        have t5 : decide (((s[p]'hp).toNat : Int) < 240) = true := decide_eq_true (by omega)
        have w1 : IntKind.i64.wrap ((p : Int) + 3) = ((p + 3 : Nat) : Int) := by rw [IntKind.wrap_i64]; omega
        have w2 : IntKind.i64.wrap (((s[p]'hp).toNat : Int) - 224) = (((s[p]'hp).toNat - 224 : Nat) : Int) := by rw [IntKind.wrap_i64]; omega
        have t9 : decide ((s.size : Int) < (p : Int) + 3) = false := decide_eq_false (by omega)
        obtain ⟨x0, hx0⟩ : ∃ x0, (s[p]'hp).toNat - 224 = x0 := ⟨_, rfl⟩
        rw [hx0] at w2 hend hvx
        have hvx0 : Qm.valX l x0 0 = x0 := rfl
        have HP := rhide hp9
        have HC := rhide c3'
        clear c1 c2 c3 c3' hr h0 hlen hs hL hl' hlen2 a1 a2 hp9 hl9 hx0
        go_enter Tryd.func66, Tryd.ntmps66
        go_wp2
        go_loop [9, 10] (fun x i => ∃ (k v : Nat), i = .int .i64 (k : Int) ∧ x = .int .i64 (v : Int) ∧ 1 ≤ k ∧ k ≤ 3 ∧ v = Qm.valX l x0 (k - 1) ∧ ∀ j, 1 ≤ j → j < k → 128 ≤ (l.getD j 0).toNat ∧ (l.getD j 0).toNat < 192) (fun _ i => 3 - (intOf i).toNat)
        case atStart => exact ⟨1, x0, rfl, rfl, by omega, by omega, hvx0.symm, fun j h1 h2 => by omega⟩
        case round =>
          obtain ⟨k, v, rfl, rfl, hk1, hkn, hv, hc⟩ := hrel
          by_cases hk : k < 3
          · obtain ⟨q, hq⟩ : ∃ q, p + k = q := ⟨_, rfl⟩
            have hqs : q < s.size := by have := runhide HC; omega
            have hg := hget k (by omega) q hq hqs
            have hv1 := hvx (k - 1) (by omega)
            rw [← hv] at hv1
            have hk2 : k + 1 - 1 = (k - 1) + 1 := by omega
            have hstep : Qm.valX l x0 (k + 1 - 1) = 64 * v + (s[q]'hqs).toNat - 128 := by rw [hk2, hv]; show 64 * Qm.valX l x0 (k - 1) + (l.getD (k - 1 + 1) 0).toNat - 128 = _; rw [Nat.sub_add_cancel hk1, hg]
            have hd8 := (s[q]'hqs).toNat_lt
            have v0 : IntKind.i64.wrap ((s[q]'hqs).toNat : Int) = ((s[q]'hqs).toNat : Int) := by rw [IntKind.wrap_i64]; omega
            have v1 : IntKind.i64.wrap ((p : Int) + (k : Int)) = (q : Int) := by have := runhide HP; rw [IntKind.wrap_i64]; omega
            have v2 : IntKind.i64.wrap (64 * (v : Int)) = 64 * (v : Int) := by rw [IntKind.wrap_i64]; omega
            have v3 : IntKind.i64.wrap (64 * (v : Int) + ((s[q]'hqs).toNat : Int)) = 64 * (v : Int) + ((s[q]'hqs).toNat : Int) := by rw [IntKind.wrap_i64]; omega
            have v5 : IntKind.i64.wrap ((k : Int) + 1) = ((k + 1 : Nat) : Int) := by rw [IntKind.wrap_i64]; omega
            have t10 : decide ((k : Int) < 3) = true := decide_eq_true (by omega)
            by_cases d1 : 128 ≤ (s[q]'hqs).toNat ∧ (s[q]'hqs).toNat < 192
            · obtain ⟨v9, hv9⟩ : ∃ v9, 64 * v + (s[q]'hqs).toNat - 128 = v9 := ⟨_, rfl⟩
              rw [hv9] at hstep
              have v4 : IntKind.i64.wrap (64 * (v : Int) + ((s[q]'hqs).toNat : Int) - 128) = (v9 : Int) := by rw [IntKind.wrap_i64]; omega
              have t11 : decide (((s[q]'hqs).toNat : Int) < 128) = false := decide_eq_false (by omega)
              have t12 : decide ((192 : Int) ≤ ((s[q]'hqs).toNat : Int)) = false := decide_eq_false (by omega)
              have hc2 : ∀ j, 1 ≤ j → j < k + 1 → 128 ≤ (l.getD j 0).toNat ∧ (l.getD j 0).toNat < 192 := by
                intro j j1 j2
                by_cases g : j < k
                · exact hc j j1 g
                · obtain rfl : j = k := by omega
                  rw [hg]; exact d1
              have HD := rhide d1
              have HK := rhide hk
              have HKN := rhide hkn
              have HK1 := rhide hk1
              clear d1 hd8 hv9 hv1 hk hkn hk1 hk2 hq hv hc hend hcont
              go_wp2
              go_round
              case rel => exact ⟨k + 1, v9, rfl, rfl, by omega, by have := runhide HK; omega, hstep.symm, hc2⟩
              case measure => have := runhide HK; simp [intOf]; omega
            · have e := hcont k hk1 hk (by rw [hg]; exact d1)
              obtain ⟨e1, e2⟩ := Prod.mk.inj e
              subst e1; subst e2
              by_cases d2 : (s[q]'hqs).toNat < 128
              · have t11 : decide (((s[q]'hqs).toNat : Int) < 128) = true := decide_eq_true (by omega)
                clear d1 d2 hd8 hv1 hk hkn hk1 hk2 hq hv hc hend hcont e hvx hget
                go_wp2
                go_ret2
                exact ⟨rfl, rfl⟩
              · have t11 : decide (((s[q]'hqs).toNat : Int) < 128) = false := decide_eq_false (by omega)
                have t12 : decide ((192 : Int) ≤ ((s[q]'hqs).toNat : Int)) = true := decide_eq_true (by omega)
                clear d1 d2 hd8 hv1 hk hkn hk1 hk2 hq hv hc hend hcont e hvx hget
                go_wp2
                go_ret2
                exact ⟨rfl, rfl⟩
          · obtain rfl : k = 3 := by omega
            obtain ⟨e1, e2⟩ := hend hc
            rw [← hv] at e1 e2
            have hv1 := hvx (3 - 1) (by omega)
            rw [← hv] at hv1
            by_cases f1 : v < 2048
            · obtain ⟨g1, g2⟩ := Prod.mk.inj (e1 (.inl f1))
              subst g1; subst g2
              have u1 : decide ((v : Int) < 2048) = true := decide_eq_true (by omega)
              clear f1 hv1 hv hc e1 e2 hend hcont hvx hget hk hkn hk1
              go_wp2
              go_ret2
              exact ⟨rfl, rfl⟩
            have u1 : decide ((v : Int) < 2048) = false := decide_eq_false (by omega)
            by_cases f2 : 1114111 < v
            · obtain ⟨g1, g2⟩ := Prod.mk.inj (e1 (.inr (.inl f2)))
              subst g1; subst g2
              have u2 : decide ((1114111 : Int) < (v : Int)) = true := decide_eq_true (by omega)
              clear f1 f2 hv1 hv hc e1 e2 hend hcont hvx hget hk hkn hk1
              go_wp2
              go_ret2
              exact ⟨rfl, rfl⟩
            have u2 : decide ((1114111 : Int) < (v : Int)) = false := decide_eq_false (by omega)
            by_cases f3 : 55296 ≤ v
            · have u3 : decide ((55296 : Int) ≤ (v : Int)) = true := decide_eq_true (by omega)
              by_cases f4 : v < 57344
              · obtain ⟨g1, g2⟩ := Prod.mk.inj (e1 (.inr (.inr ⟨f3, f4⟩)))
                subst g1; subst g2
                have u4 : decide ((v : Int) < 57344) = true := decide_eq_true (by omega)
                clear f1 f2 f3 f4 hv1 hv hc e1 e2 hend hcont hvx hget hk hkn hk1
                go_wp2
                go_ret2
                exact ⟨rfl, rfl⟩
              · obtain ⟨g1, g2⟩ := Prod.mk.inj (e2 (by omega))
                subst g1; subst g2
                have u4 : decide ((rx : Int) < 57344) = false := decide_eq_false (by omega)
                clear f1 f2 f3 f4 hv1 hv hc e1 e2 hend hcont hvx hget hk hkn hk1
                go_wp2
                go_ret2
                exact ⟨rfl, rfl⟩
            · obtain ⟨g1, g2⟩ := Prod.mk.inj (e2 (by omega))
              subst g1; subst g2
              have u3 : decide ((55296 : Int) ≤ (rx : Int)) = false := decide_eq_false (by omega)
              clear f1 f2 f3 hv1 hv hc e1 e2 hend hcont hvx hget hk hkn hk1
              go_wp2
              go_ret2
              exact ⟨rfl, rfl⟩
      · have t2 : decide ((194 : Int) ≤ ((s[p]'hp).toNat : Int)) = true := decide_eq_true (by omega)
        have t3 : decide (((s[p]'hp).toNat : Int) < 224) = false := decide_eq_false (by omega)
        have t4 : decide ((224 : Int) ≤ ((s[p]'hp).toNat : Int)) = true := decide_eq_true (by omega)
        have t5 : decide (((s[p]'hp).toNat : Int) < 240) = false := decide_eq_false (by omega)
        have t6 : decide ((240 : Int) ≤ ((s[p]'hp).toNat : Int)) = true := decide_eq_true (by omega)
        have t7 : decide (((s[p]'hp).toNat : Int) < 245) = true := decide_eq_true (by omega)
        have w1 : IntKind.i64.wrap ((p : Int) + 4) = ((p + 4 : Nat) : Int) := by rw [IntKind.wrap_i64]; omega
        have w2 : IntKind.i64.wrap (((s[p]'hp).toNat : Int) - 240) = (((s[p]'hp).toNat - 240 : Nat) : Int) := by rw [IntKind.wrap_i64]; omega
        have t9 : decide ((s.size : Int) < (p : Int) + 4) = false := decide_eq_false (by omega)
        obtain ⟨x0, hx0⟩ : ∃ x0, (s[p]'hp).toNat - 240 = x0 := ⟨_, rfl⟩
        rw [hx0] at w2 hend hvx
        have hvx0 : Qm.valX l x0 0 = x0 := rfl
        have HP := rhide hp9
        have HC := rhide c3'
        clear c1 c2 c3 c3' hr h0 hlen hs hL hl' hlen2 a1 a2 hp9 hl9 hx0
        go_enter Tryd.func66, Tryd.ntmps66
        go_wp2
        go_loop [9, 10] (fun x i => ∃ (k v : Nat), i = .int .i64 (k : Int) ∧ x = .int .i64 (v : Int) ∧ 1 ≤ k ∧ k ≤ 4 ∧ v = Qm.valX l x0 (k - 1) ∧ ∀ j, 1 ≤ j → j < k → 128 ≤ (l.getD j 0).toNat ∧ (l.getD j 0).toNat < 192) (fun _ i => 4 - (intOf i).toNat)
        case atStart => exact ⟨1, x0, rfl, rfl, by omega, by omega, hvx0.symm, fun j h1 h2 => by omega⟩
        case round =>
          obtain ⟨k, v, rfl, rfl, hk1, hkn, hv, hc⟩ := hrel
          by_cases hk : k < 4
          · obtain ⟨q, hq⟩ : ∃ q, p + k = q := ⟨_, rfl⟩
            have hqs : q < s.size := by have := runhide HC; omega
            have hg := hget k (by omega) q hq hqs
            have hv1 := hvx (k - 1) (by omega)
            rw [← hv] at hv1
            have hk2 : k + 1 - 1 = (k - 1) + 1 := by omega
            have hstep : Qm.valX l x0 (k + 1 - 1) = 64 * v + (s[q]'hqs).toNat - 128 := by rw [hk2, hv]; show 64 * Qm.valX l x0 (k - 1) + (l.getD (k - 1 + 1) 0).toNat - 128 = _; rw [Nat.sub_add_cancel hk1, hg]
            have hd8 := (s[q]'hqs).toNat_lt
            have v0 : IntKind.i64.wrap ((s[q]'hqs).toNat : Int) = ((s[q]'hqs).toNat : Int) := by rw [IntKind.wrap_i64]; omega
            have v1 : IntKind.i64.wrap ((p : Int) + (k : Int)) = (q : Int) := by have := runhide HP; rw [IntKind.wrap_i64]; omega
            have v2 : IntKind.i64.wrap (64 * (v : Int)) = 64 * (v : Int) := by rw [IntKind.wrap_i64]; omega
            have v3 : IntKind.i64.wrap (64 * (v : Int) + ((s[q]'hqs).toNat : Int)) = 64 * (v : Int) + ((s[q]'hqs).toNat : Int) := by rw [IntKind.wrap_i64]; omega
            have v5 : IntKind.i64.wrap ((k : Int) + 1) = ((k + 1 : Nat) : Int) := by rw [IntKind.wrap_i64]; omega
            have t10 : decide ((k : Int) < 4) = true := decide_eq_true (by omega)
            by_cases d1 : 128 ≤ (s[q]'hqs).toNat ∧ (s[q]'hqs).toNat < 192
            · obtain ⟨v9, hv9⟩ : ∃ v9, 64 * v + (s[q]'hqs).toNat - 128 = v9 := ⟨_, rfl⟩
              rw [hv9] at hstep
              have v4 : IntKind.i64.wrap (64 * (v : Int) + ((s[q]'hqs).toNat : Int) - 128) = (v9 : Int) := by rw [IntKind.wrap_i64]; omega
              have t11 : decide (((s[q]'hqs).toNat : Int) < 128) = false := decide_eq_false (by omega)
              have t12 : decide ((192 : Int) ≤ ((s[q]'hqs).toNat : Int)) = false := decide_eq_false (by omega)
              have hc2 : ∀ j, 1 ≤ j → j < k + 1 → 128 ≤ (l.getD j 0).toNat ∧ (l.getD j 0).toNat < 192 := by
                intro j j1 j2
                by_cases g : j < k
                · exact hc j j1 g
                · obtain rfl : j = k := by omega
                  rw [hg]; exact d1
              have HD := rhide d1
              have HK := rhide hk
              have HKN := rhide hkn
              have HK1 := rhide hk1
              clear d1 hd8 hv9 hv1 hk hkn hk1 hk2 hq hv hc hend hcont
              go_wp2
              go_round
              case rel => exact ⟨k + 1, v9, rfl, rfl, by omega, by have := runhide HK; omega, hstep.symm, hc2⟩
              case measure => have := runhide HK; simp [intOf]; omega
            · have e := hcont k hk1 hk (by rw [hg]; exact d1)
              obtain ⟨e1, e2⟩ := Prod.mk.inj e
              subst e1; subst e2
              by_cases d2 : (s[q]'hqs).toNat < 128
              · have t11 : decide (((s[q]'hqs).toNat : Int) < 128) = true := decide_eq_true (by omega)
                clear d1 d2 hd8 hv1 hk hkn hk1 hk2 hq hv hc hend hcont e hvx hget
                go_wp2
                go_ret2
                exact ⟨rfl, rfl⟩
              · have t11 : decide (((s[q]'hqs).toNat : Int) < 128) = false := decide_eq_false (by omega)
                have t12 : decide ((192 : Int) ≤ ((s[q]'hqs).toNat : Int)) = true := decide_eq_true (by omega)
                clear d1 d2 hd8 hv1 hk hkn hk1 hk2 hq hv hc hend hcont e hvx hget
                go_wp2
                go_ret2
                exact ⟨rfl, rfl⟩
          · obtain rfl : k = 4 := by omega
            obtain ⟨e1, e2⟩ := hend hc
            rw [← hv] at e1 e2
            have hv1 := hvx (4 - 1) (by omega)
            rw [← hv] at hv1
            by_cases f1 : v < 65536
            · obtain ⟨g1, g2⟩ := Prod.mk.inj (e1 (.inl f1))
              subst g1; subst g2
              have u1 : decide ((v : Int) < 65536) = true := decide_eq_true (by omega)
              clear f1 hv1 hv hc e1 e2 hend hcont hvx hget hk hkn hk1
              go_wp2
              go_ret2
              exact ⟨rfl, rfl⟩
            have u1 : decide ((v : Int) < 65536) = false := decide_eq_false (by omega)
            by_cases f2 : 1114111 < v
            · obtain ⟨g1, g2⟩ := Prod.mk.inj (e1 (.inr (.inl f2)))
              subst g1; subst g2
              have u2 : decide ((1114111 : Int) < (v : Int)) = true := decide_eq_true (by omega)
              clear f1 f2 hv1 hv hc e1 e2 hend hcont hvx hget hk hkn hk1
              go_wp2
              go_ret2
              exact ⟨rfl, rfl⟩
            have u2 : decide ((1114111 : Int) < (v : Int)) = false := decide_eq_false (by omega)
            by_cases f3 : 55296 ≤ v
            · have u3 : decide ((55296 : Int) ≤ (v : Int)) = true := decide_eq_true (by omega)
              by_cases f4 : v < 57344
              · obtain ⟨g1, g2⟩ := Prod.mk.inj (e1 (.inr (.inr ⟨f3, f4⟩)))
                subst g1; subst g2
                have u4 : decide ((v : Int) < 57344) = true := decide_eq_true (by omega)
                clear f1 f2 f3 f4 hv1 hv hc e1 e2 hend hcont hvx hget hk hkn hk1
                go_wp2
                go_ret2
                exact ⟨rfl, rfl⟩
              · obtain ⟨g1, g2⟩ := Prod.mk.inj (e2 (by omega))
                subst g1; subst g2
                have u4 : decide ((rx : Int) < 57344) = false := decide_eq_false (by omega)
                clear f1 f2 f3 f4 hv1 hv hc e1 e2 hend hcont hvx hget hk hkn hk1
                go_wp2
                go_ret2
                exact ⟨rfl, rfl⟩
            · obtain ⟨g1, g2⟩ := Prod.mk.inj (e2 (by omega))
              subst g1; subst g2
              have u3 : decide ((55296 : Int) ≤ (rx : Int)) = false := decide_eq_false (by omega)
              clear f1 f2 f3 hv1 hv hc e1 e2 hend hcont hvx hget hk hkn hk1
              go_wp2
              go_ret2
              exact ⟨rfl, rfl⟩
  · have e := Qm.runeV_none _ (by rw [h0]; exact c1) (by rw [h0]; exact c2)
    rw [hr] at e
    obtain ⟨e1, e2⟩ := Prod.mk.inj e
    subst e1; subst e2
    by_cases c3 : (s[p]'hp).toNat < 194
    · have t2 : decide ((194 : Int) ≤ ((s[p]'hp).toNat : Int)) = false := decide_eq_false (by omega)
      have t4 : decide ((224 : Int) ≤ ((s[p]'hp).toNat : Int)) = false := decide_eq_false (by omega)
      have t6 : decide ((240 : Int) ≤ ((s[p]'hp).toNat : Int)) = false := decide_eq_false (by omega)
      clear c1 c2 c3 e hr h0 hlen hs
      go_enter Tryd.func66, Tryd.ntmps66
      go_wp2
      go_ret2
      exact ⟨rfl, rfl⟩
    · have t2 : decide ((194 : Int) ≤ ((s[p]'hp).toNat : Int)) = true := decide_eq_true (by omega)
      have t3 : decide (((s[p]'hp).toNat : Int) < 224) = false := decide_eq_false (by omega)
      have t4 : decide ((224 : Int) ≤ ((s[p]'hp).toNat : Int)) = true := decide_eq_true (by omega)
      have t5 : decide (((s[p]'hp).toNat : Int) < 240) = false := decide_eq_false (by omega)
      have t6 : decide ((240 : Int) ≤ ((s[p]'hp).toNat : Int)) = true := decide_eq_true (by omega)
      have t7 : decide (((s[p]'hp).toNat : Int) < 245) = false := decide_eq_false (by omega)
      clear c1 c2 c3 e hr h0 hlen hs
      go_enter Tryd.func66, Tryd.ntmps66
      go_wp2
      go_ret2
      exact ⟨rfl, rfl⟩
end Go.Proofs.YtppkknmgdahniaaDoor

namespace Go.Proofs.YtppkknmgdahniaaDoor
set_option maxRecDepth 100000
open Go.RowKit
set_option linter.unusedVariables false
set_option linter.unusedSimpArgs false

/-- The rune at a place of the text. -/
theorem rune_at (s : ByteArray) (p : Nat) (hp : p < s.size) : ∃ rx rn, Qm.runeV (s.data.toList.drop p) = (rx, rn) ∧ s.data.toList.drop p ≠ [] ∧ (Lib.decodeL (s.data.toList.drop p)).2 = max rn 1 ∧ p + max rn 1 ≤ s.size ∧
    Lib.validD (s.data.toList.drop p) = (if rn = 0 then false else Lib.validD (s.data.toList.drop (p + max rn 1))) := by
  have hne : s.data.toList.drop p ≠ [] := by
    intro h0
    have := congrArg List.length h0
    rw [List.length_drop, ← Lib.size_eq] at this
    simp at this
    omega
  have hm := Qm.runeV_max (s.data.toList.drop p)
  have hle := Lib.decodeL_le _ hne
  rw [List.length_drop, ← Lib.size_eq] at hle
  obtain ⟨rx, rn, hr⟩ : ∃ rx rn, Qm.runeV (s.data.toList.drop p) = (rx, rn) := ⟨_, _, rfl⟩
  have hm2 : (Lib.decodeL (s.data.toList.drop p)).2 = max rn 1 := by rw [← hm, hr]
  refine ⟨rx, rn, hr, hne, hm2, by omega, ?_⟩
  rcases Qm.runeV_width (s.data.toList.drop p) with ⟨h1, h2, _, _⟩ | ⟨h1, h2, _⟩
  · rw [hr] at h1
    rw [Lib.validD_step _ hne, if_pos (show rn = 0 from h1), if_pos (Classical.not_not.1 h2)]
  · rw [hr] at h1
    dsimp only at h1
    rw [Lib.validD_step _ hne, if_neg (show ¬ rn = 0 by omega), if_neg h2, List.drop_drop, hm2]

set_option maxHeartbeats 4000000 in
set_option maxRecDepth 1000000 in
theorem ref_valid (s : ByteArray) (hs : s.size ≤ 1099511627776) (b : Bool) (hb : Lib.validD s.data.toList = b) (w : World) :
    Calls Tryd.prog 30 #[.string s] w fun e w' => e = .returned (.bool b) ∧ w' = w := by
  have HS := rhide hs
  clear hs
  go_enter Tryd.func30, Tryd.ntmps30
  go_wp2
  go_loop [3] (fun a => ∃ p : Nat, a = .int .i64 (p : Int) ∧ p ≤ s.size ∧ Lib.validD (s.data.toList.drop p) = b) (fun a => s.size - (intOf a).toNat)
  case atStart => exact ⟨0, rfl, by omega, by rw [List.drop_zero]; exact hb⟩
  case round =>
    obtain ⟨p, rfl, hp, hv⟩ := hrel
    by_cases hlt : p < s.size
    · obtain ⟨rx, rn, hr, hne, hd, hle, hvv⟩ := rune_at s p hlt
      rw [hv] at hvv
      clear hb hv hp hd
      by_cases h0 : rn = 0
      · subst h0
        rw [if_pos rfl] at hvv
        subst hvv
        go_wp2_with fail
        refine (ref_rune s p hlt (runhide HS) rx 0 hr _).mono ?_
        rintro e W ⟨rfl, rfl⟩
        go_wp2
        go_ret
        exact ⟨rfl, rfl⟩
      · rw [if_neg h0] at hvv
        have hm : max rn 1 = rn := by omega
        rw [hm] at hvv hle
        have w1 : IntKind.i64.wrap ((p : Int) + (rn : Int)) = ((p + rn : Nat) : Int) := by have := runhide HS; rw [IntKind.wrap_i64]; omega
        have t1 : ¬ (rn : Int) = 0 := by omega
        have HLE := rhide hle
        clear hm hle
        go_wp2_with fail
        refine (ref_rune s p hlt (runhide HS) rx rn hr _).mono ?_
        rintro e W ⟨rfl, rfl⟩
        go_wp2
        go_round
        case rel => exact ⟨p + rn, rfl, runhide HLE, hvv.symm⟩
        case measure => simp [intOf]; omega
    · have hv2 : b = true := by
        rw [← hv, List.drop_eq_nil_of_le (by rw [← Lib.size_eq]; omega)]
        rfl
      subst hv2
      clear hv hb hp
      go_wp2
      go_ret
      exact ⟨rfl, rfl⟩

theorem bytes_eqR {a b : ByteArray} (h : a.data.toList = b.data.toList) : a = b := by
  cases a; cases b
  congr 1
  exact Array.toList_inj.1 h
theorem one_cell (W : World) (v : Value) (t : TypeId) : ∀ j u, [v][j]? = some u → (W.alloc (.cells #[v] t)).cell? ((⟨W.heap.size, 0, none⟩ : Addr).add j) = some u := by
  intro j u hj
  match j, hj with
  | 0, hj => simp at hj; subst hj; simp [Addr.add]
theorem one_one (v : Value) (h : v.oneCell' = true) : ∀ u ∈ [v], u.oneCell' = true := by
  intro u hu
  simp at hu
  subst hu
  exact h
theorem info_str : (Tryd.prog.info? 9).map (fun i => (i.zero, i.size, i.bytes)) = some (some (.string ⟨#[]⟩), 1, 16) := by kernel_rfl

end Go.Proofs.YtppkknmgdahniaaDoor
