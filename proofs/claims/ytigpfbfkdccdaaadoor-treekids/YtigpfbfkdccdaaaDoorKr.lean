/- What is proved here: what the statements' own flat answers, walked. -/
import Derived.Test.YtigpfbfkdccdaaaDoorKt
import Derived.Deep.RegionWith
namespace Go.Proofs.YtigpfbfkdccdaaaDoor
open Go.RowKit
set_option linter.unusedVariables false
set_option linter.unusedSimpArgs false

theorem all_take (f : Tr → Bool) (l : List Tr) (k : Nat) (h : k < l.length) : (l.take (k + 1)).all f = ((l.take k).all f && f (l[k]'h)) := by
  rw [List.take_succ_eq_append_getElem h, List.all_append]
  simp
theorem all_at (f : Tr → Bool) (l : List Tr) (k : Nat) (h : k < l.length) (e : f (l[k]'h) = false) : l.all f = false := by
  cases hq : l.all f with
  | false => rfl
  | true => rw [List.all_eq_true.1 hq _ (List.getElem_mem h)] at e; cases e

/-- A box alone. -/
theorem one_box (w : World) (c : Array Value) (t : TypeId) (W : World) (hB : Below (w.heap.size + 1) (w.alloc (.cells c t)) W) : Box W w.heap.size c ∧ Below w.heap.size w W := by
  have h1 : Below (w.alloc (.cells c t)).heap.size (w.alloc (.cells c t)) W := by simpa using hB
  exact ⟨(Box.new w c t).kept (ok := fun b => b < w.heap.size + 1) ((Kept.of_below h1).weak (fun b hb ho => hb)) (Nat.lt_succ_self _), ((Below.refl _ w).alloc (Nat.le_refl _) _).trans (hB.mono (by omega))⟩

set_option maxHeartbeats 1000000 in
set_option maxRecDepth 1000000 in
theorem flat_any (ok : Nat → Prop) : ∀ (n : Nat) (v : Value) (t : Tr) (bl : Bool) (w : World), Lies ok w n v t → okT n t →
    Calls Tryd.prog 30 #[v, .bool bl] w fun e w' => e = .returned (.bool (flatT n bl t)) ∧ Below w.heap.size w w'
  | 0, _, _, _, _, h, _ => h.elim
  | n + 1, v, t, bl, w, hl, ho => by
    obtain ⟨h, l, ka, kc, a, cap, rfl, rfl, hm64, hkc, hdc, hks, hkid⟩ := hl.node
    have IH := khide (flat_any ok n)
    have hlen : l.length ≤ 1000000 := ho.2.1
    have HO := khide ho.2.2
    have HK := khide hkid
    clear hl ho hks hkid
    by_cases hm : h.m = 0
    · have hmf : ((h.m : Int) != 0) = false := by rw [hm]; rfl
      cases bl with
      | true =>
        have heq : flatT (n + 1) true (Tr.mk h l) = l.all (flatT n true) := by
          show (!(true && decide (h.m ≠ 0)) && l.all (flatT n (true || decide (h.m ≠ 0)))) = _
          simp [hm]
        rw [heq]
        clear heq hm
        go_enter Tryd.func30, Tryd.ntmps30
        go_wp2_with fail
        go_loopw [5] (fun i wr => ∃ k : Nat, i = .int .i64 (k : Int) ∧ k ≤ l.length ∧ (l.take k).all (flatT n true) = true ∧ Below (w.heap.size + 1) (w.alloc (.cells #[.int .i64 h.k, .int .u64 (h.m : Int), .bool h.ng, .string h.dg, .int .i64 h.sc, .string h.tx, .slice ka h.ks.length kc, .slice a l.length cap, .int .i64 h.cd] 33)) wr) (fun i _ => l.length - (intOf i).toNat)
        case atStart => exact ⟨0, rfl, by omega, rfl, Below.refl _ _⟩
        case round =>
          obtain ⟨k, rfl, hk9, hsv, hBx⟩ := hrel
          obtain ⟨⟨bx, fx, hz⟩, hB⟩ := one_box _ _ _ _ hBx
          have HBX := khide hBx
          clear hBx
          by_cases hlt : k < l.length
          · obtain ⟨b, o, hd2, ka2, kn2, kc2, da2, dn2, dc2, rfl, hb, ⟨c0, c1, c2, c3, c4, c5, c6, c7, c8⟩, hlies⟩ := kid_at (kunhide HK) hB k hlt
            have h1 := all_take (flatT n true) l k hlt
            rw [hsv, Bool.true_and] at h1
            have h2 := all_at (flatT n true) l k hlt
            obtain ⟨x, hx⟩ : ∃ x, flatT n true (l[k]'hlt) = x := ⟨_, rfl⟩
            have C : ∀ W, Below wr.heap.size wr W → _ := fun W hW => kunhide IH _ (l[k]'hlt) true W (hlies.below hW) (kunhide HO _ (List.getElem_mem hlt))
            rw [hx] at h1 h2 C
            have H1 := khide h1
            have H2 := khide h2
            have HC := khide C
            have HB := khide hB
            have hi : (k : Int) < (l.length : Int) := by omega
            have HSB := khide (fun (W' : World) (hW : Below wr.heap.size wr W') => (show W'.cell? ⟨w.heap.size, 7, none⟩ = some (.slice (some ⟨b, o, none⟩) l.length cap) ∧ W'.cell? ⟨b, o + k * 9, none⟩ = some (.int .i64 hd2.k) ∧ W'.cell? ⟨b, o + k * 9 + 1, none⟩ = some (.int .u64 (hd2.m : Int)) ∧ W'.cell? ⟨b, o + k * 9 + 2, none⟩ = some (.bool hd2.ng) ∧ W'.cell? ⟨b, o + k * 9 + 3, none⟩ = some (.string hd2.dg) ∧ W'.cell? ⟨b, o + k * 9 + 4, none⟩ = some (.int .i64 hd2.sc) ∧ W'.cell? ⟨b, o + k * 9 + 5, none⟩ = some (.string hd2.tx) ∧ W'.cell? ⟨b, o + k * 9 + 6, none⟩ = some (.slice ka2 kn2 kc2) ∧ W'.cell? ⟨b, o + k * 9 + 7, none⟩ = some (.slice da2 dn2 dc2) ∧ W'.cell? ⟨b, o + k * 9 + 8, none⟩ = some (.int .i64 hd2.cd) from ⟨(hW.cell (p := ⟨w.heap.size, 7, none⟩) hz).trans (bx 7), (hW.cell (p := ⟨b, o + k * 9, none⟩) (Nat.lt_of_lt_of_le hb hB.size)).trans c0, (hW.cell (p := ⟨b, o + k * 9 + 1, none⟩) (Nat.lt_of_lt_of_le hb hB.size)).trans c1, (hW.cell (p := ⟨b, o + k * 9 + 2, none⟩) (Nat.lt_of_lt_of_le hb hB.size)).trans c2, (hW.cell (p := ⟨b, o + k * 9 + 3, none⟩) (Nat.lt_of_lt_of_le hb hB.size)).trans c3, (hW.cell (p := ⟨b, o + k * 9 + 4, none⟩) (Nat.lt_of_lt_of_le hb hB.size)).trans c4, (hW.cell (p := ⟨b, o + k * 9 + 5, none⟩) (Nat.lt_of_lt_of_le hb hB.size)).trans c5, (hW.cell (p := ⟨b, o + k * 9 + 6, none⟩) (Nat.lt_of_lt_of_le hb hB.size)).trans c6, (hW.cell (p := ⟨b, o + k * 9 + 7, none⟩) (Nat.lt_of_lt_of_le hb hB.size)).trans c7, (hW.cell (p := ⟨b, o + k * 9 + 8, none⟩) (Nat.lt_of_lt_of_le hb hB.size)).trans c8⟩))
            clear h1 h2 hx hsv C hlies hB
            go_wp2_with fail
            refine wp_region_held_drew (S := (fun W' => W'.cell? ⟨w.heap.size, 7, none⟩ = some (.slice (some ⟨b, o, none⟩) l.length cap) ∧ W'.cell? ⟨b, o + k * 9, none⟩ = some (.int .i64 hd2.k) ∧ W'.cell? ⟨b, o + k * 9 + 1, none⟩ = some (.int .u64 (hd2.m : Int)) ∧ W'.cell? ⟨b, o + k * 9 + 2, none⟩ = some (.bool hd2.ng) ∧ W'.cell? ⟨b, o + k * 9 + 3, none⟩ = some (.string hd2.dg) ∧ W'.cell? ⟨b, o + k * 9 + 4, none⟩ = some (.int .i64 hd2.sc) ∧ W'.cell? ⟨b, o + k * 9 + 5, none⟩ = some (.string hd2.tx) ∧ W'.cell? ⟨b, o + k * 9 + 6, none⟩ = some (.slice ka2 kn2 kc2) ∧ W'.cell? ⟨b, o + k * 9 + 7, none⟩ = some (.slice da2 dn2 dc2) ∧ W'.cell? ⟨b, o + k * 9 + 8, none⟩ = some (.int .i64 hd2.cd))) (by kernel_rfl) ?hS0 (fun hHeld => ?rest0)
            case hS0 => exact kunhide HSB _ ((Below.refl _ _).drew)
            case rest0 =>
            refine wpAnyH_take (i := 0) (v := ?v0) rfl (by kernel_rfl) (by kernel_rfl) (by kernel_rfl) (fun _ _ _ h => h) (Or.inl ⟨by rfl, ?hy0⟩) (by assumption) ?rest1
            case hy0 => ((intro w hSw; (try dsimp only at hSw); go_simp) <;> with_reducible rfl)
            case rest1 =>
            try simp only [Act.put, List.getElem_toArray, List.getElem_cons_zero, List.getElem_cons_succ, List.setIfInBounds_toArray, List.set_cons_zero, List.set_cons_succ]
            refine wpAnyH_take (i := 1) (v := ?v1) rfl (by kernel_rfl) (by kernel_rfl) (by kernel_rfl) (fun _ _ _ h => h) (Or.inl ⟨by rfl, ?hy1⟩) (by assumption) ?rest2
            case hy1 => ((intro w hSw; (try dsimp only at hSw); go_simp) <;> with_reducible rfl)
            case rest2 =>
            try simp only [Act.put, List.getElem_toArray, List.getElem_cons_zero, List.getElem_cons_succ, List.setIfInBounds_toArray, List.set_cons_zero, List.set_cons_succ]
            refine wpAnyH_take (i := 2) (v := ?v2) rfl (by kernel_rfl) (by kernel_rfl) (by kernel_rfl) (fun _ _ _ h => h) (Or.inl ⟨by rfl, ?hy2⟩) (by assumption) ?rest3
            case hy2 => ((intro w hSw; (try dsimp only at hSw); go_simp) <;> with_reducible rfl)
            case rest3 =>
            try simp only [Act.put, List.getElem_toArray, List.getElem_cons_zero, List.getElem_cons_succ, List.setIfInBounds_toArray, List.set_cons_zero, List.set_cons_succ]
            refine wpAnyH_take (i := 3) (v := ?v3) rfl (by kernel_rfl) (by kernel_rfl) (by kernel_rfl) (fun _ _ _ h => h) (Or.inl ⟨by rfl, ?hy3⟩) (by assumption) ?rest4
            case hy3 => ((intro w hSw; (try dsimp only at hSw); go_simp) <;> with_reducible rfl)
            case rest4 =>
            try simp only [Act.put, List.getElem_toArray, List.getElem_cons_zero, List.getElem_cons_succ, List.setIfInBounds_toArray, List.set_cons_zero, List.set_cons_succ]
            refine wpAnyH_take (i := 4) (v := ?v4) rfl (by kernel_rfl) (by kernel_rfl) (by kernel_rfl) (fun _ _ _ h => h) (Or.inl ⟨by rfl, ?hy4⟩) (by assumption) ?rest5
            case hy4 => ((intro w hSw; (try dsimp only at hSw); go_simp) <;> with_reducible rfl)
            case rest5 =>
            try simp only [Act.put, List.getElem_toArray, List.getElem_cons_zero, List.getElem_cons_succ, List.setIfInBounds_toArray, List.set_cons_zero, List.set_cons_succ]
            refine wpAnyH_take (i := 5) (v := ?v5) rfl (by kernel_rfl) (by kernel_rfl) (by kernel_rfl) (fun _ _ _ h => h) (Or.inl ⟨by rfl, ?hy5⟩) (by assumption) ?rest6
            case hy5 => ((intro w hSw; (try dsimp only at hSw); go_simp) <;> with_reducible rfl)
            case rest6 =>
            try simp only [Act.put, List.getElem_toArray, List.getElem_cons_zero, List.getElem_cons_succ, List.setIfInBounds_toArray, List.set_cons_zero, List.set_cons_succ]
            refine wpAnyH_take (i := 6) (v := ?v6) rfl (by kernel_rfl) (by kernel_rfl) (by kernel_rfl) (fun _ _ _ h => h) (Or.inl ⟨by rfl, ?hy6⟩) (by assumption) ?rest7
            case hy6 => ((intro w hSw; (try dsimp only at hSw); go_simp) <;> with_reducible rfl)
            case rest7 =>
            try simp only [Act.put, List.getElem_toArray, List.getElem_cons_zero, List.getElem_cons_succ, List.setIfInBounds_toArray, List.set_cons_zero, List.set_cons_succ]
            refine wpAnyH_take (i := 7) (v := undef) rfl (by kernel_rfl) (by kernel_rfl) (by kernel_rfl) (fun _ _ _ h => h) (Or.inr ⟨by kernel_rfl, rfl⟩) (by assumption) ?_
            try simp only [Act.put, List.getElem_toArray, List.getElem_cons_zero, List.getElem_cons_succ, List.setIfInBounds_toArray, List.set_cons_zero, List.set_cons_succ]
            refine wpAnyH_take (i := 8) (v := undef) rfl (by kernel_rfl) (by kernel_rfl) (by kernel_rfl) (fun _ _ _ h => h) (Or.inr ⟨by kernel_rfl, rfl⟩) (by assumption) ?_
            try simp only [Act.put, List.getElem_toArray, List.getElem_cons_zero, List.getElem_cons_succ, List.setIfInBounds_toArray, List.set_cons_zero, List.set_cons_succ]
            refine wpAnyH_take (i := 9) (v := undef) rfl (by kernel_rfl) (by kernel_rfl) (by kernel_rfl) (fun _ _ _ h => h) (Or.inr ⟨by kernel_rfl, rfl⟩) (by assumption) ?_
            try simp only [Act.put, List.getElem_toArray, List.getElem_cons_zero, List.getElem_cons_succ, List.setIfInBounds_toArray, List.set_cons_zero, List.set_cons_succ]
            refine wpAnyH_take (i := 10) (v := ?v10) rfl (by kernel_rfl) (by kernel_rfl) (by kernel_rfl) (fun _ _ _ h => h) (Or.inl ⟨by rfl, ?hy10⟩) (by assumption) ?rest11
            case hy10 => ((intro w hSw; (try dsimp only at hSw); go_simp) <;> with_reducible rfl)
            case rest11 =>
            try simp only [Act.put, List.getElem_toArray, List.getElem_cons_zero, List.getElem_cons_succ, List.setIfInBounds_toArray, List.set_cons_zero, List.set_cons_succ]
            refine wpAnyH_ready (rs := [11]) (by kernel_rfl) (by simp) ?_
            refine AllReadyH.cons rfl (fun K hK => ?_) AllReadyH.nil
            go_simp
            go_at_call 30
            refine (kunhide HC _ ((Below.refl _ _).drew)).mono ?_
            rintro e W ⟨rfl, b2⟩
            refine hK.out _ _ ?hS12 (fun hHeld2 => ?rest12)
            case hS12 => exact kunhide HSB _ ((Below.drew (Below.refl _ wr)).trans b2)
            case rest12 =>
            clear hK K hHeld
            try simp only [Act.put, List.getElem_toArray, List.getElem_cons_zero, List.getElem_cons_succ, List.setIfInBounds_toArray, List.set_cons_zero, List.set_cons_succ]
            refine wpAnyH_take (i := 12) (v := ?v12) rfl (by kernel_rfl) (by kernel_rfl) (by kernel_rfl) (fun _ _ _ h => h) (Or.inl ⟨by rfl, ?hy12⟩) (by assumption) ?rest13
            case hy12 => ((intro w hSw; (try dsimp only at hSw); go_simp) <;> with_reducible rfl)
            case rest13 =>
            try simp only [Act.put, List.getElem_toArray, List.getElem_cons_zero, List.getElem_cons_succ, List.setIfInBounds_toArray, List.set_cons_zero, List.set_cons_succ]
            refine wpAnyH_done (by kernel_rfl) ?_ _
            all_goals
              have hws : w.heap.size + 1 ≤ wr.heap.size := by omega
              have hB3 := (kunhide HBX).trans ((Below.drew (Below.refl (w.heap.size + 1) wr)).trans (b2.mono hws))
              clear b2 bx fx hz hws
              obtain ⟨⟨bx, fx, hz⟩, hB2⟩ := one_box _ _ _ _ hB3
              have HB2 := khide hB2
              have HB3 := khide hB3
              clear hB2 hB3
              cases x with
              | true =>
                go_wp2_with fail
                go_roundw
                case rel => exact ⟨k + 1, by go_num, hlt, kunhide H1, kunhide HB3⟩
                case measure => simp [intOf]; omega
              | false =>
                go_wp2_with fail
                go_ret
                exact ⟨by rw [show l.all _ = false by simpa using kunhide H2]; rfl, kunhide HB2⟩
          · rw [List.take_of_length_le (by omega)] at hsv
            have HSV := khide hsv
            clear hsv
            go_wp2_with fail
            go_ret
            exact ⟨by rw [kunhide HSV]; rfl, hB⟩
      | false =>
        have heq : flatT (n + 1) false (Tr.mk h l) = l.all (flatT n false) := by
          show (!(false && decide (h.m ≠ 0)) && l.all (flatT n (false || decide (h.m ≠ 0)))) = _
          simp [hm]
        rw [heq]
        clear heq hm
        go_enter Tryd.func30, Tryd.ntmps30
        go_wp2_with fail
        go_loopw [5] (fun i wr => ∃ k : Nat, i = .int .i64 (k : Int) ∧ k ≤ l.length ∧ (l.take k).all (flatT n false) = true ∧ Below (w.heap.size + 1) (w.alloc (.cells #[.int .i64 h.k, .int .u64 (h.m : Int), .bool h.ng, .string h.dg, .int .i64 h.sc, .string h.tx, .slice ka h.ks.length kc, .slice a l.length cap, .int .i64 h.cd] 33)) wr) (fun i _ => l.length - (intOf i).toNat)
        case atStart => exact ⟨0, rfl, by omega, rfl, Below.refl _ _⟩
        case round =>
          obtain ⟨k, rfl, hk9, hsv, hBx⟩ := hrel
          obtain ⟨⟨bx, fx, hz⟩, hB⟩ := one_box _ _ _ _ hBx
          have HBX := khide hBx
          clear hBx
          by_cases hlt : k < l.length
          · obtain ⟨b, o, hd2, ka2, kn2, kc2, da2, dn2, dc2, rfl, hb, ⟨c0, c1, c2, c3, c4, c5, c6, c7, c8⟩, hlies⟩ := kid_at (kunhide HK) hB k hlt
            have h1 := all_take (flatT n false) l k hlt
            rw [hsv, Bool.true_and] at h1
            have h2 := all_at (flatT n false) l k hlt
            obtain ⟨x, hx⟩ : ∃ x, flatT n false (l[k]'hlt) = x := ⟨_, rfl⟩
            have C : ∀ W, Below wr.heap.size wr W → _ := fun W hW => kunhide IH _ (l[k]'hlt) false W (hlies.below hW) (kunhide HO _ (List.getElem_mem hlt))
            rw [hx] at h1 h2 C
            have H1 := khide h1
            have H2 := khide h2
            have HC := khide C
            have HB := khide hB
            have hi : (k : Int) < (l.length : Int) := by omega
            clear h1 h2 hx hsv C hlies hB
            go_wp2_with fail
            go_region_with (go_at_call 30; refine (kunhide HC _ ((Below.refl _ _).drew)).mono ?_; rintro e W ⟨rfl, b2⟩)
            all_goals
              have hws : w.heap.size + 1 ≤ wr.heap.size := by omega
              have hB3 := (kunhide HBX).trans ((Below.drew (Below.refl (w.heap.size + 1) wr)).trans (b2.mono hws))
              clear b2 bx fx hz hws
              obtain ⟨⟨bx, fx, hz⟩, hB2⟩ := one_box _ _ _ _ hB3
              have HB2 := khide hB2
              have HB3 := khide hB3
              clear hB2 hB3
              cases x with
              | true =>
                go_wp2_with fail
                go_roundw
                case rel => exact ⟨k + 1, by go_num, hlt, kunhide H1, kunhide HB3⟩
                case measure => simp [intOf]; omega
              | false =>
                go_wp2_with fail
                go_ret
                exact ⟨by rw [show l.all _ = false by simpa using kunhide H2]; rfl, kunhide HB2⟩
          · rw [List.take_of_length_le (by omega)] at hsv
            have HSV := khide hsv
            clear hsv
            go_wp2_with fail
            go_ret
            exact ⟨by rw [kunhide HSV]; rfl, hB⟩
    · have hmf : ((h.m : Int) != 0) = true := bne_iff_ne.2 (by omega)
      cases bl with
      | true =>
        have heq : flatT (n + 1) true (Tr.mk h l) = false := by
          show (!(true && decide (h.m ≠ 0)) && l.all (flatT n (true || decide (h.m ≠ 0)))) = _
          simp [hm]
        rw [heq]
        clear heq hm
        go_enter Tryd.func30, Tryd.ntmps30
        go_wp2_with fail
        go_ret
        exact ⟨rfl, (Below.refl _ _).alloc (Nat.le_refl _) _⟩
      | false =>
        have heq : flatT (n + 1) false (Tr.mk h l) = l.all (flatT n true) := by
          show (!(false && decide (h.m ≠ 0)) && l.all (flatT n (false || decide (h.m ≠ 0)))) = _
          simp [hm]
        rw [heq]
        clear heq hm
        go_enter Tryd.func30, Tryd.ntmps30
        go_wp2_with fail
        go_loopw [5] (fun i wr => ∃ k : Nat, i = .int .i64 (k : Int) ∧ k ≤ l.length ∧ (l.take k).all (flatT n true) = true ∧ Below (w.heap.size + 1) (w.alloc (.cells #[.int .i64 h.k, .int .u64 (h.m : Int), .bool h.ng, .string h.dg, .int .i64 h.sc, .string h.tx, .slice ka h.ks.length kc, .slice a l.length cap, .int .i64 h.cd] 33)) wr) (fun i _ => l.length - (intOf i).toNat)
        case atStart => exact ⟨0, rfl, by omega, rfl, Below.refl _ _⟩
        case round =>
          obtain ⟨k, rfl, hk9, hsv, hBx⟩ := hrel
          obtain ⟨⟨bx, fx, hz⟩, hB⟩ := one_box _ _ _ _ hBx
          have HBX := khide hBx
          clear hBx
          by_cases hlt : k < l.length
          · obtain ⟨b, o, hd2, ka2, kn2, kc2, da2, dn2, dc2, rfl, hb, ⟨c0, c1, c2, c3, c4, c5, c6, c7, c8⟩, hlies⟩ := kid_at (kunhide HK) hB k hlt
            have h1 := all_take (flatT n true) l k hlt
            rw [hsv, Bool.true_and] at h1
            have h2 := all_at (flatT n true) l k hlt
            obtain ⟨x, hx⟩ : ∃ x, flatT n true (l[k]'hlt) = x := ⟨_, rfl⟩
            have C : ∀ W, Below wr.heap.size wr W → _ := fun W hW => kunhide IH _ (l[k]'hlt) true W (hlies.below hW) (kunhide HO _ (List.getElem_mem hlt))
            rw [hx] at h1 h2 C
            have H1 := khide h1
            have H2 := khide h2
            have HC := khide C
            have HB := khide hB
            have hi : (k : Int) < (l.length : Int) := by omega
            clear h1 h2 hx hsv C hlies hB
            go_wp2_with fail
            go_region_with (go_at_call 30; refine (kunhide HC _ ((Below.refl _ _).drew)).mono ?_; rintro e W ⟨rfl, b2⟩)
            all_goals
              have hws : w.heap.size + 1 ≤ wr.heap.size := by omega
              have hB3 := (kunhide HBX).trans ((Below.drew (Below.refl (w.heap.size + 1) wr)).trans (b2.mono hws))
              clear b2 bx fx hz hws
              obtain ⟨⟨bx, fx, hz⟩, hB2⟩ := one_box _ _ _ _ hB3
              have HB2 := khide hB2
              have HB3 := khide hB3
              clear hB2 hB3
              cases x with
              | true =>
                go_wp2_with fail
                go_roundw
                case rel => exact ⟨k + 1, by go_num, hlt, kunhide H1, kunhide HB3⟩
                case measure => simp [intOf]; omega
              | false =>
                go_wp2_with fail
                go_ret
                exact ⟨by rw [show l.all _ = false by simpa using kunhide H2]; rfl, kunhide HB2⟩
          · rw [List.take_of_length_le (by omega)] at hsv
            have HSV := khide hsv
            clear hsv
            go_wp2_with fail
            go_ret
            exact ⟨by rw [kunhide HSV]; rfl, hB⟩
end Go.Proofs.YtigpfbfkdccdaaaDoor
