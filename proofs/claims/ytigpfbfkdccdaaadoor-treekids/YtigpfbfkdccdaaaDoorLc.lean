/- What is proved here: what package tree's At and Get answer where there is no such kid, and Get of a key, walked. -/
import Derived.Test.YtigpfbfkdccdaaaDoorLb
namespace Go.Proofs.YtigpfbfkdccdaaaDoor
open Go.RowKit
set_option linter.unusedVariables false
set_option linter.unusedSimpArgs false

set_option maxHeartbeats 4000000 in
set_option maxRecDepth 1000000 in
/-- What is no list has none. -/
theorem at_no (ok : Nat → Prop) (n : Nat) (z : Int) (v : Value) (t : Tr) (w : World) (hl : Lies ok w (n + 1) v t) (hk6 : (Tr.hd t).k ≠ 6) :
    Calls Tryd.prog 17 #[v, .int .i64 z] w fun e w' => e = .returned (.tuple #[zeroV, .bool false]) ∧ Below w.heap.size w w' := by
  obtain ⟨h, l, ka, kc, da, dc, rfl, rfl, hm64, hkc, hdc, hks, hkid⟩ := hl.node
  change h.k ≠ 6 at hk6
  have hk : (h.k != 6) = true := bne_iff_ne.2 hk6
  clear hkid hks hl hk6
  go_enter Tryd.func17, Tryd.ntmps17
  go_wp2_with fail
  exact bodyPost_ret (v := .tuple #[zeroV, .bool false]) (by simp [zeroV, results, Tryd.results17, go_sem]) rfl ⟨rfl, ((Below.refl _ w).alloc (Nat.le_refl _) _).alloc (by simp) _⟩
set_option maxHeartbeats 4000000 in
set_option maxRecDepth 1000000 in
/-- No kid at that place of a list. -/
theorem at_out (ok : Nat → Prop) (n : Nat) (z : Int) (v : Value) (t : Tr) (w : World) (hl : Lies ok w (n + 1) v t) (hk6 : (Tr.hd t).k = 6) (hlen : (Tr.kd t).length ≤ 1000000) (h64 : -9223372036854775808 ≤ z) (hz : ((Tr.kd t).length : Int) ≤ z ∨ z < -((Tr.kd t).length : Int)) :
    Calls Tryd.prog 17 #[v, .int .i64 z] w fun e w' => e = .returned (.tuple #[zeroV, .bool false]) ∧ Below w.heap.size w w' := by
  have C := fun W (hW : Below w.heap.size w W) (p : Int) hp => kidof_out ok n p v t W (hl.below hW) hp
  have HC := khide C
  obtain ⟨h, l, ka, kc, da, dc, rfl, rfl, hm64, hkc, hdc, hks, hkid⟩ := hl.node
  change l.length ≤ 1000000 at hlen
  change h.k = 6 at hk6
  change (l.length : Int) ≤ z ∨ z < -(l.length : Int) at hz
  have hk : (h.k != 6) = false := by rw [hk6]; rfl
  clear hkid hks hl C hk6
  by_cases hi1 : z < 0
  · have hi3 : wrap64 (z + (l.length : Int)) = z + (l.length : Int) := by unfold wrap64; omega
    have hneg : z + (l.length : Int) < 0 := by omega
    have HN := khide hneg
    clear hz hneg
    go_enter Tryd.func17, Tryd.ntmps17
    go_wp2_with fail
    refine (kunhide HC _ (((Below.refl _ w).alloc (Nat.le_refl _) _).alloc (by simp) _) (z + (l.length : Int)) (.inl (kunhide HN))).mono ?_
    rintro e W ⟨rfl, hB1⟩
    unfold zeroV
    obtain ⟨rs, rf, hB, hz⟩ := res_ready w _ _ _ _ W (hB1) rfl
    have HRS := khide rs
    obtain ⟨g0, y0⟩ := isSome_some (rs 0 (by omega))
    obtain ⟨g1, y1⟩ := isSome_some (rs 1 (by omega))
    obtain ⟨g2, y2⟩ := isSome_some (rs 2 (by omega))
    obtain ⟨g3, y3⟩ := isSome_some (rs 3 (by omega))
    obtain ⟨g4, y4⟩ := isSome_some (rs 4 (by omega))
    obtain ⟨g5, y5⟩ := isSome_some (rs 5 (by omega))
    obtain ⟨g6, y6⟩ := isSome_some (rs 6 (by omega))
    obtain ⟨g7, y7⟩ := isSome_some (rs 7 (by omega))
    obtain ⟨g8, y8⟩ := isSome_some (rs 8 (by omega))
    have HB := khide hB
    clear rs hB hB1
    go_wp2_with fail
    change bodyPost _ _ _ _ _ (W.setCells (w.heap.size + 1) 0 [.int .i64 0, .int .u64 0, .bool false, .string ⟨#[]⟩, .int .i64 0, .string ⟨#[]⟩, .slice none 0 0, .slice none 0 0, .int .i64 0])
    have hres := res9 W (w.heap.size + 1) (.int .i64 0) (.int .u64 0) (.bool false) (.string ⟨#[]⟩) (.int .i64 0) (.string ⟨#[]⟩) (.slice none 0 0) (.slice none 0 0) (.int .i64 0) (kunhide HRS)
    have hBV := setCells_below (kunhide HB) (G := w.heap.size + 1) (by omega) 0 [.int .i64 0, .int .u64 0, .bool false, .string ⟨#[]⟩, .int .i64 0, .string ⟨#[]⟩, .slice none 0 0, .slice none 0 0, .int .i64 0]
    generalize W.setCells (w.heap.size + 1) 0 [.int .i64 0, .int .u64 0, .bool false, .string ⟨#[]⟩, .int .i64 0, .string ⟨#[]⟩, .slice none 0 0, .slice none 0 0, .int .i64 0] = V at hres hBV ⊢
    obtain ⟨r0, r1, r2, r3, r4, r5, r6, r7, r8⟩ := hres
    exact bodyPost_ret (v := .tuple #[zeroV, .bool false]) (by simp [zeroV, results, Tryd.results17, go_sem, r0, r1, r2, r3, r4, r5, r6, r7, r8]) rfl ⟨rfl, hBV⟩
  · have hge : (l.length : Int) ≤ z := by omega
    have HN := khide hge
    clear hz hge
    go_enter Tryd.func17, Tryd.ntmps17
    go_wp2_with fail
    refine (kunhide HC _ (((Below.refl _ w).alloc (Nat.le_refl _) _).alloc (by simp) _) _ (.inr (kunhide HN))).mono ?_
    rintro e W ⟨rfl, hB1⟩
    unfold zeroV
    obtain ⟨rs, rf, hB, hz⟩ := res_ready w _ _ _ _ W (hB1) rfl
    have HRS := khide rs
    obtain ⟨g0, y0⟩ := isSome_some (rs 0 (by omega))
    obtain ⟨g1, y1⟩ := isSome_some (rs 1 (by omega))
    obtain ⟨g2, y2⟩ := isSome_some (rs 2 (by omega))
    obtain ⟨g3, y3⟩ := isSome_some (rs 3 (by omega))
    obtain ⟨g4, y4⟩ := isSome_some (rs 4 (by omega))
    obtain ⟨g5, y5⟩ := isSome_some (rs 5 (by omega))
    obtain ⟨g6, y6⟩ := isSome_some (rs 6 (by omega))
    obtain ⟨g7, y7⟩ := isSome_some (rs 7 (by omega))
    obtain ⟨g8, y8⟩ := isSome_some (rs 8 (by omega))
    have HB := khide hB
    clear rs hB hB1
    go_wp2_with fail
    change bodyPost _ _ _ _ _ (W.setCells (w.heap.size + 1) 0 [.int .i64 0, .int .u64 0, .bool false, .string ⟨#[]⟩, .int .i64 0, .string ⟨#[]⟩, .slice none 0 0, .slice none 0 0, .int .i64 0])
    have hres := res9 W (w.heap.size + 1) (.int .i64 0) (.int .u64 0) (.bool false) (.string ⟨#[]⟩) (.int .i64 0) (.string ⟨#[]⟩) (.slice none 0 0) (.slice none 0 0) (.int .i64 0) (kunhide HRS)
    have hBV := setCells_below (kunhide HB) (G := w.heap.size + 1) (by omega) 0 [.int .i64 0, .int .u64 0, .bool false, .string ⟨#[]⟩, .int .i64 0, .string ⟨#[]⟩, .slice none 0 0, .slice none 0 0, .int .i64 0]
    generalize W.setCells (w.heap.size + 1) 0 [.int .i64 0, .int .u64 0, .bool false, .string ⟨#[]⟩, .int .i64 0, .string ⟨#[]⟩, .slice none 0 0, .slice none 0 0, .int .i64 0] = V at hres hBV ⊢
    obtain ⟨r0, r1, r2, r3, r4, r5, r6, r7, r8⟩ := hres
    exact bodyPost_ret (v := .tuple #[zeroV, .bool false]) (by simp [zeroV, results, Tryd.results17, go_sem, r0, r1, r2, r3, r4, r5, r6, r7, r8]) rfl ⟨rfl, hBV⟩
/-- A key of keys of which no two are the same. -/
theorem first_at {ks : List ByteArray} (hnd : ks.Nodup) {i : Nat} (hi : i < ks.length) {r : Int} (h : FirstAt ks (ks[i]'hi) r) : r = (i : Int) := by
  rcases h with ⟨_, h⟩ | ⟨j, hj, rfl, he, _⟩
  · exact absurd rfl (h i hi)
  · have := (List.getElem_inj hnd).1 he
    omega
set_option maxHeartbeats 4000000 in
set_option maxRecDepth 1000000 in
/-- An object's kid of a key. -/
theorem get_in (ok : Nat → Prop) (n i : Nat) (s : ByteArray) (v : Value) (t : Tr) (w : World) (hl : Lies ok w (n + 1) v t) (hk7 : (Tr.hd t).k = 7) (hnd : (Tr.hd t).ks.Nodup) (hkl : (Tr.hd t).ks.length = (Tr.kd t).length) (hlen : (Tr.kd t).length ≤ 1000000) (hi : i < (Tr.kd t).length) (hs : (Tr.hd t).ks[i]'(by omega) = s) :
    Calls Tryd.prog 15 #[v, .string s] w fun e w' => ∃ v', e = .returned (.tuple #[v', .bool true]) ∧ Lies ok w' n v' (withT (Tr.hd t).m ((Tr.kd t)[i]'hi)) ∧ Below w.heap.size w w' := by
  obtain ⟨x, hx⟩ : ∃ x, (Tr.kd t)[i]'hi = x := ⟨_, rfl⟩
  obtain ⟨M, hM⟩ : ∃ M, (Tr.hd t).m = M := ⟨_, rfl⟩
  have C := fun W (hW : Below w.heap.size w W) => kidof_in (fun b => b < w.heap.size ∧ ok b) n i v t W ((hl.weak (fun b hb q => ⟨hb, q⟩)).below hW) hlen hi
  rw [hx, hM] at *
  have HC := khide C
  obtain ⟨h, l, ka, kc, da, dc, rfl, rfl, hm64, hkc, hdc, hks, hkid⟩ := hl.node
  change i < l.length at hi
  change l.length ≤ 1000000 at hlen
  change h.k = 7 at hk7
  change h.ks.Nodup at hnd
  change h.ks.length = l.length at hkl
  have hs2 : h.ks[i]'(by omega) = s := hs
  have CI : ∀ W, Below w.heap.size w W → Calls Tryd.prog 46 #[.slice ka h.ks.length kc, .string s] W fun e w' => e = .returned (.int .i64 (i : Int)) ∧ w' = W := fun W hW => by
    refine (index_any ok _ h.ks s W ⟨ka, kc, rfl, hkc, fun j hj => ?_⟩ (by omega)).mono ?_
    · obtain ⟨b, o, e, hob, hb, hc⟩ := hks j hj
      exact ⟨b, o, e, hob, Nat.lt_of_lt_of_le hb hW.size, by rw [hW.cell (p := ⟨b, o + j, none⟩) hb]; exact hc⟩
    · rintro e w' ⟨r, rfl, rfl, hr⟩
      rw [← hs2] at hr
      rw [first_at hnd (by omega) hr]
      exact ⟨rfl, rfl⟩
  have HI := khide CI
  have hk : (h.k != 7) = false := by rw [hk7]; rfl
  clear hkid hks hl C hx hM hk7 CI hs hs2 hnd hkl
  go_enter Tryd.func15, Tryd.ntmps15
  go_wp2_with fail
  have hS := (((Below.refl w.heap.size w).alloc (Nat.le_refl _) (.cells #[.int .i64 h.k, .int .u64 (h.m : Int), .bool h.ng, .string h.dg, .int .i64 h.sc, .string h.tx, .slice ka h.ks.length kc, .slice da l.length dc, .int .i64 h.cd] 33)).alloc (by simp) (.cells #[.int .i64 0, .int .u64 0, .bool false, .string ⟨#[]⟩, .int .i64 0, .string ⟨#[]⟩, .slice none 0 0, .slice none 0 0, .int .i64 0] 33)).drew
  go_region_with (first | (go_at_call 46; refine (kunhide HI _ hS).mono ?_; rintro e W ⟨rfl, rfl⟩) | (go_at_call 45; refine (kunhide HC _ hS).mono ?_; rintro e W ⟨v', rfl, hlv, hB1⟩; obtain ⟨hd4, ka4, kn4, kc4, da4, dn4, dc4, rfl⟩ := hlv.shape; obtain ⟨rs, rf, hB, hz⟩ := res_ready w _ _ _ _ W ((Below.refl _ _).drew.trans hB1) rfl; have HRS := khide rs; obtain ⟨g0, y0⟩ := isSome_some (rs 0 (by omega)); obtain ⟨g1, y1⟩ := isSome_some (rs 1 (by omega)); obtain ⟨g2, y2⟩ := isSome_some (rs 2 (by omega)); obtain ⟨g3, y3⟩ := isSome_some (rs 3 (by omega)); obtain ⟨g4, y4⟩ := isSome_some (rs 4 (by omega)); obtain ⟨g5, y5⟩ := isSome_some (rs 5 (by omega)); obtain ⟨g6, y6⟩ := isSome_some (rs 6 (by omega)); obtain ⟨g7, y7⟩ := isSome_some (rs 7 (by omega)); obtain ⟨g8, y8⟩ := isSome_some (rs 8 (by omega)); have HLV := khide hlv; have HB := khide hB; clear rs hlv hB hB1))
  all_goals
    go_wp2_with fail
    change bodyPost _ _ _ _ _ (W.setCells (w.heap.size + 1) 0 [.int .i64 hd4.k, .int .u64 (hd4.m : Int), .bool hd4.ng, .string hd4.dg, .int .i64 hd4.sc, .string hd4.tx, .slice ka4 kn4 kc4, .slice da4 dn4 dc4, .int .i64 hd4.cd])
    have hres := res9 W (w.heap.size + 1) (.int .i64 hd4.k) (.int .u64 (hd4.m : Int)) (.bool hd4.ng) (.string hd4.dg) (.int .i64 hd4.sc) (.string hd4.tx) (.slice ka4 kn4 kc4) (.slice da4 dn4 dc4) (.int .i64 hd4.cd) (kunhide HRS)
    have hBV := setCells_below (kunhide HB) (G := w.heap.size + 1) (by omega) 0 [.int .i64 hd4.k, .int .u64 (hd4.m : Int), .bool hd4.ng, .string hd4.dg, .int .i64 hd4.sc, .string hd4.tx, .slice ka4 kn4 kc4, .slice da4 dn4 dc4, .int .i64 hd4.cd]
    have hKV := setCells_kept (ok := fun b => b < w.heap.size ∧ ok b) W (w.heap.size + 1) 0 [.int .i64 hd4.k, .int .u64 (hd4.m : Int), .bool hd4.ng, .string hd4.dg, .int .i64 hd4.sc, .string hd4.tx, .slice ka4 kn4 kc4, .slice da4 dn4 dc4, .int .i64 hd4.cd] (fun b hb e => by omega)
    generalize W.setCells (w.heap.size + 1) 0 [.int .i64 hd4.k, .int .u64 (hd4.m : Int), .bool hd4.ng, .string hd4.dg, .int .i64 hd4.sc, .string hd4.tx, .slice ka4 kn4 kc4, .slice da4 dn4 dc4, .int .i64 hd4.cd] = V at hres hBV hKV ⊢
    obtain ⟨r0, r1, r2, r3, r4, r5, r6, r7, r8⟩ := hres
    refine bodyPost_ret (v := .tuple #[.agg #[.int .i64 hd4.k, .int .u64 (hd4.m : Int), .bool hd4.ng, .string hd4.dg, .int .i64 hd4.sc, .string hd4.tx, .slice ka4 kn4 kc4, .slice da4 dn4 dc4, .int .i64 hd4.cd], .bool true]) (by simp [results, Tryd.results15, go_sem, r0, r1, r2, r3, r4, r5, r6, r7, r8]) rfl ⟨_, rfl, ?_, hBV⟩
    exact (kunhide HLV).keep hKV (fun b _ hb => hb.2)
set_option maxHeartbeats 4000000 in
set_option maxRecDepth 1000000 in
/-- What is no object has none. -/
theorem get_no (ok : Nat → Prop) (n : Nat) (s : ByteArray) (v : Value) (t : Tr) (w : World) (hl : Lies ok w (n + 1) v t) (hk7 : (Tr.hd t).k ≠ 7) :
    Calls Tryd.prog 15 #[v, .string s] w fun e w' => e = .returned (.tuple #[zeroV, .bool false]) ∧ Below w.heap.size w w' := by
  obtain ⟨h, l, ka, kc, da, dc, rfl, rfl, hm64, hkc, hdc, hks, hkid⟩ := hl.node
  change h.k ≠ 7 at hk7
  have hk : (h.k != 7) = true := bne_iff_ne.2 hk7
  clear hkid hks hl hk7
  go_enter Tryd.func15, Tryd.ntmps15
  go_wp2_with fail
  exact bodyPost_ret (v := .tuple #[zeroV, .bool false]) (by simp [zeroV, results, Tryd.results15, go_sem]) rfl ⟨rfl, ((Below.refl _ w).alloc (Nat.le_refl _) _).alloc (by simp) _⟩
set_option maxHeartbeats 4000000 in
set_option maxRecDepth 1000000 in
/-- No kid of that key. -/
theorem get_none (ok : Nat → Prop) (n : Nat) (s : ByteArray) (v : Value) (t : Tr) (w : World) (hl : Lies ok w (n + 1) v t) (hk7 : (Tr.hd t).k = 7) (hkl : (Tr.hd t).ks.length ≤ 1000000) (hs : ∀ i, ∀ h : i < (Tr.hd t).ks.length, (Tr.hd t).ks[i]'h ≠ s) :
    Calls Tryd.prog 15 #[v, .string s] w fun e w' => e = .returned (.tuple #[zeroV, .bool false]) ∧ Below w.heap.size w w' := by
  have C := fun W (hW : Below w.heap.size w W) => kidof_out ok n (-1) v t W (hl.below hW) (.inl (by omega))
  have HC := khide C
  obtain ⟨h, l, ka, kc, da, dc, rfl, rfl, hm64, hkc, hdc, hks, hkid⟩ := hl.node
  change h.k = 7 at hk7
  change h.ks.length ≤ 1000000 at hkl
  have CI : ∀ W, Below w.heap.size w W → Calls Tryd.prog 46 #[.slice ka h.ks.length kc, .string s] W fun e w' => e = .returned (.int .i64 (-1)) ∧ w' = W := fun W hW => by
    refine (index_any ok _ h.ks s W ⟨ka, kc, rfl, hkc, fun j hj => ?_⟩ hkl).mono ?_
    · obtain ⟨b, o, e, hob, hb, hc⟩ := hks j hj
      exact ⟨b, o, e, hob, Nat.lt_of_lt_of_le hb hW.size, by rw [hW.cell (p := ⟨b, o + j, none⟩) hb]; exact hc⟩
    · rintro e w' ⟨r, rfl, rfl, hr⟩
      rcases hr with ⟨rfl, _⟩ | ⟨j, hj, _, he, _⟩
      · exact ⟨rfl, rfl⟩
      · exact absurd he (hs j hj)
  have HI := khide CI
  have hk : (h.k != 7) = false := by rw [hk7]; rfl
  clear hkid hks hl C hk7 CI hs
  go_enter Tryd.func15, Tryd.ntmps15
  go_wp2_with fail
  have hS := (((Below.refl w.heap.size w).alloc (Nat.le_refl _) (.cells #[.int .i64 h.k, .int .u64 (h.m : Int), .bool h.ng, .string h.dg, .int .i64 h.sc, .string h.tx, .slice ka h.ks.length kc, .slice da l.length dc, .int .i64 h.cd] 33)).alloc (by simp) (.cells #[.int .i64 0, .int .u64 0, .bool false, .string ⟨#[]⟩, .int .i64 0, .string ⟨#[]⟩, .slice none 0 0, .slice none 0 0, .int .i64 0] 33)).drew
  go_region_with (first | (go_at_call 46; refine (kunhide HI _ hS).mono ?_; rintro e W ⟨rfl, rfl⟩) | (go_at_call 45; refine (kunhide HC _ hS).mono ?_; rintro e W ⟨rfl, hB1⟩; unfold zeroV; obtain ⟨rs, rf, hB, hz⟩ := res_ready w _ _ _ _ W ((Below.refl _ _).drew.trans hB1) rfl; have HRS := khide rs; obtain ⟨g0, y0⟩ := isSome_some (rs 0 (by omega)); obtain ⟨g1, y1⟩ := isSome_some (rs 1 (by omega)); obtain ⟨g2, y2⟩ := isSome_some (rs 2 (by omega)); obtain ⟨g3, y3⟩ := isSome_some (rs 3 (by omega)); obtain ⟨g4, y4⟩ := isSome_some (rs 4 (by omega)); obtain ⟨g5, y5⟩ := isSome_some (rs 5 (by omega)); obtain ⟨g6, y6⟩ := isSome_some (rs 6 (by omega)); obtain ⟨g7, y7⟩ := isSome_some (rs 7 (by omega)); obtain ⟨g8, y8⟩ := isSome_some (rs 8 (by omega)); have HB := khide hB; clear rs hB hB1))
  all_goals
    go_wp2_with fail
    change bodyPost _ _ _ _ _ (W.setCells (w.heap.size + 1) 0 [.int .i64 0, .int .u64 0, .bool false, .string ⟨#[]⟩, .int .i64 0, .string ⟨#[]⟩, .slice none 0 0, .slice none 0 0, .int .i64 0])
    have hres := res9 W (w.heap.size + 1) (.int .i64 0) (.int .u64 0) (.bool false) (.string ⟨#[]⟩) (.int .i64 0) (.string ⟨#[]⟩) (.slice none 0 0) (.slice none 0 0) (.int .i64 0) (kunhide HRS)
    have hBV := setCells_below (kunhide HB) (G := w.heap.size + 1) (by omega) 0 [.int .i64 0, .int .u64 0, .bool false, .string ⟨#[]⟩, .int .i64 0, .string ⟨#[]⟩, .slice none 0 0, .slice none 0 0, .int .i64 0]
    generalize W.setCells (w.heap.size + 1) 0 [.int .i64 0, .int .u64 0, .bool false, .string ⟨#[]⟩, .int .i64 0, .string ⟨#[]⟩, .slice none 0 0, .slice none 0 0, .int .i64 0] = V at hres hBV ⊢
    obtain ⟨r0, r1, r2, r3, r4, r5, r6, r7, r8⟩ := hres
    exact bodyPost_ret (v := .tuple #[zeroV, .bool false]) (by simp [zeroV, results, Tryd.results15, go_sem, r0, r1, r2, r3, r4, r5, r6, r7, r8]) rfl ⟨rfl, hBV⟩
end Go.Proofs.YtigpfbfkdccdaaaDoor
