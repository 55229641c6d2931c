/- What is proved here: what package tree's kidOf, At and Get, and slices.Index of texts, answer, walked. -/
import Derived.Test.YtigpfbfkdccdaaaDoorKj
import Derived.Deep.DeepCutAuto
namespace Go.Proofs.YtigpfbfkdccdaaaDoor
open Go.RowKit
set_option linter.unusedVariables false
set_option linter.unusedSimpArgs false

/-- The zero value. -/
def zeroV : Value := .agg #[.int .i64 0, .int .u64 0, .bool false, .string ⟨#[]⟩, .int .i64 0, .string ⟨#[]⟩, .slice none 0 0, .slice none 0 0, .int .i64 0]
theorem zero_lies (ok : Nat → Prop) (n : Nat) (w : World) : Lies ok w (n + 1) zeroV (Tr.mk Hd.none []) :=
  Lies.mk (hd := Hd.none) (l := []) (ka := none) (kc := 0) (da := none) (dc := 0) (by decide) ⟨Nat.le_refl _, fun _ => rfl⟩ ⟨Nat.le_refl _, fun _ => rfl⟩ (fun i hi => absurd hi (by simp [Hd.none])) (fun i hi => absurd hi (by simp))

/-- Where a text stands first, or -1. -/
def FirstAt (ks : List ByteArray) (s : ByteArray) (r : Int) : Prop := (r = -1 ∧ ∀ i, ∀ h : i < ks.length, ks[i]'h ≠ s) ∨ (∃ i, ∃ h : i < ks.length, r = (i : Int) ∧ ks[i]'h = s ∧ ∀ j, ∀ h2 : j < i, ks[j]'(by omega) ≠ s)
set_option maxHeartbeats 2000000 in
set_option maxRecDepth 1000000 in
/-- Where a text stands first. -/
theorem index_any (ok : Nat → Prop) (v : Value) (ks : List ByteArray) (s : ByteArray) (w : World) (hk : StrsIn ok w v ks) (hn : ks.length ≤ 1000000) :
    Calls Tryd.prog 46 #[v, .string s] w fun e w' => ∃ r : Int, e = .returned (.int .i64 r) ∧ w' = w ∧ FirstAt ks s r := by
  obtain ⟨a, c, rfl, hc, hks⟩ := hk
  have HK := khide hks
  clear hks
  go_enter Tryd.func46, Tryd.ntmps46
  go_wp2_with fail
  go_loop [8] (fun i => ∃ k : Nat, i = .int .i64 (k : Int) ∧ k ≤ ks.length ∧ Hid (∀ j, ∀ h : j < ks.length, j < k → ks[j]'h ≠ s)) (fun i => ks.length - (intOf i).toNat)
  case atStart => exact ⟨0, rfl, Nat.zero_le _, fun j _ h => absurd h (by omega)⟩
  case round =>
    obtain ⟨k, rfl, hk9, hno⟩ := hrel
    by_cases hlt : k < ks.length
    · obtain ⟨b, o, rfl, ho, hb, hcell⟩ := kunhide HK k hlt
      obtain ⟨x, hx⟩ : ∃ x, ks[k]'hlt = x := ⟨_, rfl⟩
      rw [hx] at hcell
      have HX := khide hx
      have e1 : (k : Int) < (ks.length : Int) := by omega
      clear hx
      by_cases hs : s = x
      · subst hs
        have hq : (s.toList == s.toList) = true := beq_self_eq_true _
        go_wp2_with fail
        go_ret
        exact ⟨_, rfl, rfl, .inr ⟨k, hlt, rfl, kunhide HX, fun j hj => hno j (by omega) hj⟩⟩
      · have hq : (s.toList == x.toList) = false := by
          cases hq : (s.toList == x.toList) with
          | false => rfl
          | true =>
            exfalso
            apply hs
            have h1 := beq_iff_eq.1 hq
            rw [ByteArray.toList_eq, ByteArray.toList_eq] at h1
            cases s
            cases x
            congr 1
            exact Array.toList_inj.1 h1
        have HS := khide hs
        clear hs
        go_wp2_with fail
        go_round
        case rel => exact ⟨k + 1, by go_num, hlt, fun j h hj => by
          by_cases e : j = k
          · subst e
            rw [kunhide HX]
            exact fun e => kunhide HS e.symm
          · exact hno j h (by omega)⟩
        case measure => simp [intOf]; omega
    · have e1 : ¬ (k : Int) < (ks.length : Int) := by omega
      go_wp2_with fail
      go_ret
      exact ⟨_, rfl, rfl, .inl ⟨rfl, fun i h => hno i h (by omega)⟩⟩

set_option maxHeartbeats 4000000 in
set_option maxRecDepth 1000000 in
/-- The kid at a place, marked as the value is. -/
theorem kidof_in (ok : Nat → Prop) (n i : Nat) (v : Value) (t : Tr) (w : World) (hl : Lies ok w (n + 1) v t) (hlen : (Tr.kd t).length ≤ 1000000) (hi : i < (Tr.kd t).length) :
    Calls Tryd.prog 45 #[v, .int .i64 (i : Int)] w fun e w' => ∃ v', e = .returned (.tuple #[v', .bool true]) ∧ Lies ok w' n v' (withT (Tr.hd t).m ((Tr.kd t)[i]'hi)) ∧ Below w.heap.size w w' := by
  obtain ⟨h, l, ka, kc, da, dc, rfl, rfl, hm64, hkc, hdc, hks, hkid⟩ := hl.node
  change i < l.length at hi
  change l.length ≤ 1000000 at hlen
  obtain ⟨x, hx⟩ : ∃ x, (Tr.kd (Tr.mk h l))[i] = x := ⟨_, rfl⟩
  rw [hx]
  replace hx : l[i]'hi = x := hx
  have hB0 := ((Below.refl w.heap.size w).alloc (Nat.le_refl _) (.cells #[.int .i64 h.k, .int .u64 (h.m : Int), .bool h.ng, .string h.dg, .int .i64 h.sc, .string h.tx, .slice ka h.ks.length kc, .slice da l.length dc, .int .i64 h.cd] 33)).alloc (by simp) (.cells #[.int .i64 0, .int .u64 0, .bool false, .string ⟨#[]⟩, .int .i64 0, .string ⟨#[]⟩, .slice none 0 0, .slice none 0 0, .int .i64 0] 33)
  obtain ⟨b, o, hd2, ka2, kn2, kc2, da2, dn2, dc2, rfl, hb, ⟨c0, c1, c2, c3, c4, c5, c6, c7, c8⟩, hlies⟩ := kid_at (ok := fun b => b < w.heap.size ∧ ok b) (fun i hi => by
    obtain ⟨b, o, cs, e, hob, hb, hr, hlk⟩ := hkid i hi
    exact ⟨b, o, cs, e, ⟨hb, hob⟩, hb, hr, hlk.weak (fun b hb q => ⟨hb, q⟩)⟩) hB0 i hi
  rw [hx] at hlies
  have HC := khide (fun W hW => with_any (fun b => b < w.heap.size ∧ ok b) n _ x h.m W (hlies.below hW) hm64)
  have hi1 : ¬ (i : Int) < 0 := by omega
  have hi2 : ¬ (l.length : Int) ≤ (i : Int) := by omega
  have hi3 : (i : Int) < (l.length : Int) := by omega
  clear hlies hkid hks hl hB0 hx hm64
  show Calls Tryd.prog 45 _ w fun e w' => ∃ v', e = .returned (.tuple #[v', .bool true]) ∧ Lies ok w' n v' (withT h.m x) ∧ Below w.heap.size w w'
  go_enter Tryd.func45, Tryd.ntmps45
  go_wp2_with fail
  go_region_with (go_at_call 24; refine (kunhide HC _ ((Below.refl _ _).drew)).mono ?_; rintro e W ⟨v', rfl, hlv, hB1⟩; obtain ⟨hd4, ka4, kn4, kc4, da4, dn4, dc4, rfl⟩ := hlv.shape; obtain ⟨rs, rf, hB, hz⟩ := res_ready w _ _ _ _ W ((Below.refl _ _).drew.trans hB1) rfl; have HRS := khide rs; obtain ⟨g0, y0⟩ := isSome_some (rs 0 (by omega)); obtain ⟨g1, y1⟩ := isSome_some (rs 1 (by omega)); obtain ⟨g2, y2⟩ := isSome_some (rs 2 (by omega)); obtain ⟨g3, y3⟩ := isSome_some (rs 3 (by omega)); obtain ⟨g4, y4⟩ := isSome_some (rs 4 (by omega)); obtain ⟨g5, y5⟩ := isSome_some (rs 5 (by omega)); obtain ⟨g6, y6⟩ := isSome_some (rs 6 (by omega)); obtain ⟨g7, y7⟩ := isSome_some (rs 7 (by omega)); obtain ⟨g8, y8⟩ := isSome_some (rs 8 (by omega)); have HLV := khide hlv; have HB := khide hB; clear rs hlv hB hB1)
  all_goals
    go_wp2_with fail
    change bodyPost _ _ _ _ _ (W.setCells (w.heap.size + 1) 0 [.int .i64 hd4.k, .int .u64 (hd4.m : Int), .bool hd4.ng, .string hd4.dg, .int .i64 hd4.sc, .string hd4.tx, .slice ka4 kn4 kc4, .slice da4 dn4 dc4, .int .i64 hd4.cd])
    have hres := res9 W (w.heap.size + 1) (.int .i64 hd4.k) (.int .u64 (hd4.m : Int)) (.bool hd4.ng) (.string hd4.dg) (.int .i64 hd4.sc) (.string hd4.tx) (.slice ka4 kn4 kc4) (.slice da4 dn4 dc4) (.int .i64 hd4.cd) (kunhide HRS)
    have hBV := setCells_below (kunhide HB) (G := w.heap.size + 1) (by omega) 0 [.int .i64 hd4.k, .int .u64 (hd4.m : Int), .bool hd4.ng, .string hd4.dg, .int .i64 hd4.sc, .string hd4.tx, .slice ka4 kn4 kc4, .slice da4 dn4 dc4, .int .i64 hd4.cd]
    have hKV := setCells_kept (ok := fun b => b < w.heap.size ∧ ok b) W (w.heap.size + 1) 0 [.int .i64 hd4.k, .int .u64 (hd4.m : Int), .bool hd4.ng, .string hd4.dg, .int .i64 hd4.sc, .string hd4.tx, .slice ka4 kn4 kc4, .slice da4 dn4 dc4, .int .i64 hd4.cd] (fun b hb e => by omega)
    generalize W.setCells (w.heap.size + 1) 0 [.int .i64 hd4.k, .int .u64 (hd4.m : Int), .bool hd4.ng, .string hd4.dg, .int .i64 hd4.sc, .string hd4.tx, .slice ka4 kn4 kc4, .slice da4 dn4 dc4, .int .i64 hd4.cd] = V at hres hBV hKV ⊢
    obtain ⟨r0, r1, r2, r3, r4, r5, r6, r7, r8⟩ := hres
    refine bodyPost_ret (v := .tuple #[.agg #[.int .i64 hd4.k, .int .u64 (hd4.m : Int), .bool hd4.ng, .string hd4.dg, .int .i64 hd4.sc, .string hd4.tx, .slice ka4 kn4 kc4, .slice da4 dn4 dc4, .int .i64 hd4.cd], .bool true]) (by simp [results, Tryd.results45, go_sem, r0, r1, r2, r3, r4, r5, r6, r7, r8]) rfl ⟨_, rfl, ?_, hBV⟩
    exact (kunhide HLV).keep hKV (fun b _ hb => hb.2)

set_option maxHeartbeats 4000000 in
set_option maxRecDepth 1000000 in
/-- No kid there. -/
theorem kidof_out (ok : Nat → Prop) (n : Nat) (p : Int) (v : Value) (t : Tr) (w : World) (hl : Lies ok w (n + 1) v t) (hp : p < 0 ∨ ((Tr.kd t).length : Int) ≤ p) :
    Calls Tryd.prog 45 #[v, .int .i64 p] w fun e w' => e = .returned (.tuple #[zeroV, .bool false]) ∧ Below w.heap.size w w' := by
  obtain ⟨h, l, ka, kc, da, dc, rfl, rfl, hm64, hkc, hdc, hks, hkid⟩ := hl.node
  change p < 0 ∨ (l.length : Int) ≤ p at hp
  clear hkid hks hl
  by_cases h0 : p < 0
  · clear hp
    go_enter Tryd.func45, Tryd.ntmps45
    go_wp2_with fail
    exact bodyPost_ret (v := .tuple #[zeroV, .bool false]) (by simp [zeroV, results, Tryd.results45, go_sem]) rfl ⟨rfl, ((Below.refl _ w).alloc (Nat.le_refl _) _).alloc (by simp) _⟩
  · have h1 : (l.length : Int) ≤ p := by omega
    clear hp
    go_enter Tryd.func45, Tryd.ntmps45
    go_wp2_with fail
    exact bodyPost_ret (v := .tuple #[zeroV, .bool false]) (by simp [zeroV, results, Tryd.results45, go_sem]) rfl ⟨rfl, ((Below.refl _ w).alloc (Nat.le_refl _) _).alloc (by simp) _⟩
set_option maxHeartbeats 4000000 in
set_option maxRecDepth 1000000 in
/-- A list's kid at a place, from the beginning or from the end. -/
theorem at_in (ok : Nat → Prop) (n i : Nat) (z : Int) (v : Value) (t : Tr) (w : World) (hl : Lies ok w (n + 1) v t) (hk6 : (Tr.hd t).k = 6) (hlen : (Tr.kd t).length ≤ 1000000) (hi : i < (Tr.kd t).length) (hz : z = (i : Int) ∨ z = (i : Int) - ((Tr.kd t).length : Int)) :
    Calls Tryd.prog 17 #[v, .int .i64 z] w fun e w' => ∃ v', e = .returned (.tuple #[v', .bool true]) ∧ Lies ok w' n v' (withT (Tr.hd t).m ((Tr.kd t)[i]'hi)) ∧ Below w.heap.size w w' := by
  obtain ⟨x, hx⟩ : ∃ x, (Tr.kd t)[i]'hi = x := ⟨_, rfl⟩
  obtain ⟨M, hM⟩ : ∃ M, (Tr.hd t).m = M := ⟨_, rfl⟩
  have C := fun W (hW : Below w.heap.size w W) => kidof_in (fun b => b < w.heap.size ∧ ok b) n i v t W ((hl.weak (fun b hb q => ⟨hb, q⟩)).below hW) hlen hi
  rw [hx, hM] at *
  have HC := khide C
  obtain ⟨h, l, ka, kc, da, dc, rfl, rfl, hm64, hkc, hdc, hks, hkid⟩ := hl.node
  change i < l.length at hi
  change l.length ≤ 1000000 at hlen
  change h.k = 6 at hk6
  change z = (i : Int) ∨ z = (i : Int) - (l.length : Int) at hz
  have hk : (h.k != 6) = false := by rw [hk6]; rfl
  clear hkid hks hl C hx hM hk6
  rcases hz with rfl | hz
  · have hi1 : ¬ (i : Int) < 0 := by omega
    go_enter Tryd.func17, Tryd.ntmps17
    go_wp2_with fail
    refine (kunhide HC _ (((Below.refl _ w).alloc (Nat.le_refl _) _).alloc (by simp) _)).mono ?_
    rintro e W ⟨v', rfl, hlv, hB1⟩
    obtain ⟨hd4, ka4, kn4, kc4, da4, dn4, dc4, rfl⟩ := hlv.shape
    obtain ⟨rs, rf, hB, hz⟩ := res_ready w _ _ _ _ W (hB1) rfl
    have HRS := khide rs
    obtain ⟨g0, y0⟩ := isSome_some (rs 0 (by omega))
    obtain ⟨g1, y1⟩ := isSome_some (rs 1 (by omega))
    obtain ⟨g2, y2⟩ := isSome_some (rs 2 (by omega))
    obtain ⟨g3, y3⟩ := isSome_some (rs 3 (by omega))
    obtain ⟨g4, y4⟩ := isSome_some (rs 4 (by omega))
    obtain ⟨g5, y5⟩ := isSome_some (rs 5 (by omega))
    obtain ⟨g6, y6⟩ := isSome_some (rs 6 (by omega))
    obtain ⟨g7, y7⟩ := isSome_some (rs 7 (by omega))
    obtain ⟨g8, y8⟩ := isSome_some (rs 8 (by omega))
    have HLV := khide hlv
    have HB := khide hB
    clear rs hlv hB hB1
    go_wp2_with fail
    change bodyPost _ _ _ _ _ (W.setCells (w.heap.size + 1) 0 [.int .i64 hd4.k, .int .u64 (hd4.m : Int), .bool hd4.ng, .string hd4.dg, .int .i64 hd4.sc, .string hd4.tx, .slice ka4 kn4 kc4, .slice da4 dn4 dc4, .int .i64 hd4.cd])
    have hres := res9 W (w.heap.size + 1) (.int .i64 hd4.k) (.int .u64 (hd4.m : Int)) (.bool hd4.ng) (.string hd4.dg) (.int .i64 hd4.sc) (.string hd4.tx) (.slice ka4 kn4 kc4) (.slice da4 dn4 dc4) (.int .i64 hd4.cd) (kunhide HRS)
    have hBV := setCells_below (kunhide HB) (G := w.heap.size + 1) (by omega) 0 [.int .i64 hd4.k, .int .u64 (hd4.m : Int), .bool hd4.ng, .string hd4.dg, .int .i64 hd4.sc, .string hd4.tx, .slice ka4 kn4 kc4, .slice da4 dn4 dc4, .int .i64 hd4.cd]
    have hKV := setCells_kept (ok := fun b => b < w.heap.size ∧ ok b) W (w.heap.size + 1) 0 [.int .i64 hd4.k, .int .u64 (hd4.m : Int), .bool hd4.ng, .string hd4.dg, .int .i64 hd4.sc, .string hd4.tx, .slice ka4 kn4 kc4, .slice da4 dn4 dc4, .int .i64 hd4.cd] (fun b hb e => by omega)
    generalize W.setCells (w.heap.size + 1) 0 [.int .i64 hd4.k, .int .u64 (hd4.m : Int), .bool hd4.ng, .string hd4.dg, .int .i64 hd4.sc, .string hd4.tx, .slice ka4 kn4 kc4, .slice da4 dn4 dc4, .int .i64 hd4.cd] = V at hres hBV hKV ⊢
    obtain ⟨r0, r1, r2, r3, r4, r5, r6, r7, r8⟩ := hres
    refine bodyPost_ret (v := .tuple #[.agg #[.int .i64 hd4.k, .int .u64 (hd4.m : Int), .bool hd4.ng, .string hd4.dg, .int .i64 hd4.sc, .string hd4.tx, .slice ka4 kn4 kc4, .slice da4 dn4 dc4, .int .i64 hd4.cd], .bool true]) (by simp [results, Tryd.results17, go_sem, r0, r1, r2, r3, r4, r5, r6, r7, r8]) rfl ⟨_, rfl, ?_, hBV⟩
    exact (kunhide HLV).keep hKV (fun b _ hb => hb.2)
  · have hi1 : z < 0 := by omega
    have hi2 : IntKind.i64.wrap (z + (l.length : Int)) = (i : Int) := by rw [IntKind.wrap_i64]; omega
    have hi3 : wrap64 (z + (l.length : Int)) = (i : Int) := by unfold wrap64; omega
    clear hz
    go_enter Tryd.func17, Tryd.ntmps17
    go_wp2_with fail
    refine (kunhide HC _ (((Below.refl _ w).alloc (Nat.le_refl _) _).alloc (by simp) _)).mono ?_
    rintro e W ⟨v', rfl, hlv, hB1⟩
    obtain ⟨hd4, ka4, kn4, kc4, da4, dn4, dc4, rfl⟩ := hlv.shape
    obtain ⟨rs, rf, hB, hz⟩ := res_ready w _ _ _ _ W (hB1) rfl
    have HRS := khide rs
    obtain ⟨g0, y0⟩ := isSome_some (rs 0 (by omega))
    obtain ⟨g1, y1⟩ := isSome_some (rs 1 (by omega))
    obtain ⟨g2, y2⟩ := isSome_some (rs 2 (by omega))
    obtain ⟨g3, y3⟩ := isSome_some (rs 3 (by omega))
    obtain ⟨g4, y4⟩ := isSome_some (rs 4 (by omega))
    obtain ⟨g5, y5⟩ := isSome_some (rs 5 (by omega))
    obtain ⟨g6, y6⟩ := isSome_some (rs 6 (by omega))
    obtain ⟨g7, y7⟩ := isSome_some (rs 7 (by omega))
    obtain ⟨g8, y8⟩ := isSome_some (rs 8 (by omega))
    have HLV := khide hlv
    have HB := khide hB
    clear rs hlv hB hB1
    go_wp2_with fail
    change bodyPost _ _ _ _ _ (W.setCells (w.heap.size + 1) 0 [.int .i64 hd4.k, .int .u64 (hd4.m : Int), .bool hd4.ng, .string hd4.dg, .int .i64 hd4.sc, .string hd4.tx, .slice ka4 kn4 kc4, .slice da4 dn4 dc4, .int .i64 hd4.cd])
    have hres := res9 W (w.heap.size + 1) (.int .i64 hd4.k) (.int .u64 (hd4.m : Int)) (.bool hd4.ng) (.string hd4.dg) (.int .i64 hd4.sc) (.string hd4.tx) (.slice ka4 kn4 kc4) (.slice da4 dn4 dc4) (.int .i64 hd4.cd) (kunhide HRS)
    have hBV := setCells_below (kunhide HB) (G := w.heap.size + 1) (by omega) 0 [.int .i64 hd4.k, .int .u64 (hd4.m : Int), .bool hd4.ng, .string hd4.dg, .int .i64 hd4.sc, .string hd4.tx, .slice ka4 kn4 kc4, .slice da4 dn4 dc4, .int .i64 hd4.cd]
    have hKV := setCells_kept (ok := fun b => b < w.heap.size ∧ ok b) W (w.heap.size + 1) 0 [.int .i64 hd4.k, .int .u64 (hd4.m : Int), .bool hd4.ng, .string hd4.dg, .int .i64 hd4.sc, .string hd4.tx, .slice ka4 kn4 kc4, .slice da4 dn4 dc4, .int .i64 hd4.cd] (fun b hb e => by omega)
    generalize W.setCells (w.heap.size + 1) 0 [.int .i64 hd4.k, .int .u64 (hd4.m : Int), .bool hd4.ng, .string hd4.dg, .int .i64 hd4.sc, .string hd4.tx, .slice ka4 kn4 kc4, .slice da4 dn4 dc4, .int .i64 hd4.cd] = V at hres hBV hKV ⊢
    obtain ⟨r0, r1, r2, r3, r4, r5, r6, r7, r8⟩ := hres
    refine bodyPost_ret (v := .tuple #[.agg #[.int .i64 hd4.k, .int .u64 (hd4.m : Int), .bool hd4.ng, .string hd4.dg, .int .i64 hd4.sc, .string hd4.tx, .slice ka4 kn4 kc4, .slice da4 dn4 dc4, .int .i64 hd4.cd], .bool true]) (by simp [results, Tryd.results17, go_sem, r0, r1, r2, r3, r4, r5, r6, r7, r8]) rfl ⟨_, rfl, ?_, hBV⟩
    exact (kunhide HLV).keep hKV (fun b _ hb => hb.2)
end Go.Proofs.YtigpfbfkdccdaaaDoor
