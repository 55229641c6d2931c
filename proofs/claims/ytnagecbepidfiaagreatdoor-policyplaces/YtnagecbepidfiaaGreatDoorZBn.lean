/- What is proved here: what readSteps of package path does with any text, told what readStep answers, and what Parse makes of it, walked; conditions: as each theorem states. Written by steps_p_gen.py. What is proved here: what Print of package path does with a row of steps that may be, walked; conditions: as each theorem states. -/
import Derived.Test.YtnagecbepidfiaaGreatDoorZBg
import Derived.OwnWalk
import Derived.Deep.RegionHeld3
namespace Go.Proofs.YtnagecbepidfiaaGreatDoor.Np
set_option maxRecDepth 100000
open Go.Proofs.YtnagecbepidfiaaGreatDoor.Nq
open Go.RowKit
set_option linter.unusedVariables false
set_option linter.unusedSimpArgs false

/-- What readSteps answers, and the steps that it gives away, if readStep answers RD. -/
def goS (RD : ByteArray → Pm.St × Nat) : Nat → ByteArray → Bool × List Pm.St
  | 0, _ => (true, [])
  | f + 1, r => if r.size = 0 then (true, []) else
    if mayB (RD r).1 && decide (prL (RD r).1 = r.data.toList.take (RD r).2) then ((goS RD f (r.extract (RD r).2 r.size)).1, (RD r).1 :: (goS RD f (r.extract (RD r).2 r.size)).2) else (false, [])
theorem prL_ne {t : Pm.St} : prL t ≠ [] := by
  unfold prL
  split
  · split <;> simp
  · split
    · simp
    · split
      · simp
      · split <;> simp
theorem pr_pos {t : Pm.St} {r : ByteArray} {n : Nat} (h : prL t = r.data.toList.take n) (hn : n ≤ r.size) : 1 ≤ n ∧ (r.extract n r.size).size < r.size := by
  have h1 : 1 ≤ n := by
    rcases Nat.eq_zero_or_pos n with rfl | h0
    · rw [List.take_zero] at h; exact absurd h prL_ne
    · exact h0
  have h2 : 1 ≤ r.size := by omega
  refine ⟨h1, ?_⟩
  rw [ByteArray.size_extract]; omega
theorem goS_len (RD : ByteArray → Pm.St × Nat) : ∀ (f : Nat) (r : ByteArray), (goS RD f r).2.length ≤ f
  | 0, _ => by simp [goS]
  | f + 1, r => by
    unfold goS
    split
    · simp
    · split
      · have := goS_len RD f (r.extract (RD r).2 r.size)
        simp only [List.length_cons]; omega
      · simp
def strSize : Value → Nat
  | .string r => r.size
  | _ => 0

set_option maxRecDepth 100000 in
set_option maxHeartbeats 8000000 in
theorem readSteps_any (B cb sb : Nat) (s r : ByteArray) (hs : s.data.toList = 36 :: r.data.toList) (hr : r.size ≤ 99000) (RD : ByteArray → Pm.St × Nat) (P : ByteArray → Prop) (Q : World → Prop) (hP : P r)
    (HP : ∀ r, P r → r.size ≠ 0 → (RD r).2 ≤ r.size ∧ (mayB (RD r).1 = true → prL (RD r).1 = r.data.toList.take (RD r).2 → P (r.extract (RD r).2 r.size)) ∧ ∀ W, Tabs W → Pow W → Q W → Calls Tryz.prog 148 #[.string r] W fun e w' => e = .returned (stV (RD r).1 (RD r).2) ∧ Below W.heap.size W w')
    (b : Bool) (L : List Pm.St) (hG : goS RD 99000 r = (b, L)) (w : World) (hA : Acc B w cb sb []) (hBw : B ≤ w.heap.size) (HT : ∀ W, Below B w W → Tabs W ∧ Pow W) (HQ : ∀ W, Below B w W → Q W) :
    Calls Tryz.prog 130 #[.string s, .func (.func 131) #[] #[.pointer (some ⟨cb, 0, none⟩), .pointer (some ⟨sb, 0, none⟩)]] w fun e w' => e = .returned (.bool b) ∧ Below B w w' ∧ Acc B w' cb sb L := by
  have C0 := cutPrefix_yes s r hs
  have HTt := phide HT
  have HQq := phide HQ
  have HPP := phide HP
  have HG0 : Hid (∃ f, r.size ≤ f ∧ f ≤ 99000 ∧ goS RD f r = (b, L)) := phide ⟨99000, hr, Nat.le_refl _, hG⟩
  have hPr := phide hP
  clear hs HT HQ HP hG hP
  go_enter Tryz.func130, Tryz.ntmps130
  go_wp2_with fail
  refine (C0 _).mono ?_
  rintro e w ⟨rfl, rfl⟩
  clear C0
  go_wp2
  go_loopw [5] (fun v wr => ∃ (q : ByteArray) (D : List Pm.St), v = .string q ∧ q.size ≤ 99000 ∧ D.length + q.size ≤ 99000 ∧ Hid (P q) ∧ Hid (∃ f M, q.size ≤ f ∧ f ≤ 99000 ∧ goS RD f q = (b, M) ∧ D ++ M = L) ∧ Acc B wr cb sb D ∧ Below B w wr) (fun v _ => strSize v)
  case atStart =>
    obtain ⟨f, h1, h2, h3⟩ := punhide HG0
    exact ⟨r, [], rfl, hr, by simpa using hr, hPr, phide ⟨f, L, h1, h2, h3, rfl⟩, hA, Below.refl _ _⟩
  case round =>
    obtain ⟨q, D, rfl, hq, hDq, HP, HG, hAc, hB⟩ := hrel
    clear HG0 hPr hA
    by_cases h0 : q.size = 0
    · have hz := pempty_yes h0
      have HF : Hid (b = true ∧ L = D) := phide (by
        obtain ⟨f, M, h1, h2, h3, h4⟩ := punhide HG
        cases f with
        | zero => rw [goS] at h3; obtain ⟨rfl, rfl⟩ := Prod.mk.inj h3; exact ⟨rfl, by rw [← h4]; simp⟩
        | succ f => rw [goS, if_pos h0] at h3; obtain ⟨rfl, rfl⟩ := Prod.mk.inj h3; exact ⟨rfl, by rw [← h4]; simp⟩)
      clear HG HP h0
      go_wp2
      go_ret
      exact ⟨ret_b (punhide HF).1, hB, by rw [(punhide HF).2]; exact hAc⟩
    · have hz := pempty_no h0
      obtain ⟨hn, hcl, CR⟩ := punhide HPP q (punhide HP) h0
      have hTw := (punhide HTt _ hB).1
      have hPw := (punhide HTt _ hB).2
      obtain ⟨t, ht⟩ : ∃ t, (RD q).1 = t := ⟨_, rfl⟩
      obtain ⟨n, hnn⟩ : ∃ n, (RD q).2 = n := ⟨_, rfl⟩
      have HG2 : Hid (∃ f M, q.size ≤ f + 1 ∧ f + 1 ≤ 99000 ∧ (if mayB t && decide (prL t = q.data.toList.take n) then ((goS RD f (q.extract n q.size)).1, t :: (goS RD f (q.extract n q.size)).2) else (false, [])) = (b, M) ∧ D ++ M = L) := phide (by
        obtain ⟨f, M, h1, h2, h3, h4⟩ := punhide HG
        cases f with
        | zero => omega
        | succ f => rw [goS, if_neg h0, ht, hnn] at h3; exact ⟨f, M, h1, h2, h3, h4⟩)
      rw [ht, hnn] at CR hcl
      rw [hnn] at hn
      have hcl2 := phide hcl
      have CR2 := CR _ hTw hPw (punhide HQq _ hB)
      obtain ⟨y, hy⟩ : ∃ y, mayB t = y := ⟨_, rfl⟩
      have CM := fun W hT => mayStep_any t y hy W hT
      obtain ⟨u, hu⟩ : ∃ u : ByteArray, prL t = u.data.toList := ⟨⟨(prL t).toArray⟩, by simp⟩
      have CP : y = true → ∀ W, Pow W → _ := fun h W hP => printStep_any t (hy.trans h) u hu W hP
      obtain ⟨k, hk⟩ : ∃ k, q.extract 0 n = k := ⟨_, rfl⟩
      have hkt : k.data.toList = q.data.toList.take n := by rw [← hk, Lib.extract_data, List.drop_zero, Nat.sub_zero]
      have CT := fun W hA => take_any B cb sb D t (by omega) W hA
      have hn1 : (n : Int) ≤ (q.size : Int) := by omega
      rw [hy] at HG2 hcl2
      rw [← hkt, hu] at HG2 hcl2
      have HLT : Hid (u = k → (q.extract n q.size).size < q.size) := phide (fun e => (pr_pos (t := t) (by rw [hu, e, hkt]) hn).2)
      clear HG HP hcl CR hkt ht hnn h0 hy hu
      obtain ⟨tk, ts, tn⟩ := t
      unfold stV valS at *
      simp only [] at *
      go_upto_region 6 with (go_at_call 148; refine CR2.mono ?_; rintro e w2 ⟨rfl, b2⟩; replace hAc := hAc.next b2; replace hB := hB.trans (b2.mono (Nat.le_trans hBw hB.size)); clear b2)
      have hAx := hAc.next ((Below.refl _ _).alloc (Nat.le_refl _) (.cells #[.int .i64 tk, .string ts, .int .i64 tn] 57))
      have hBx := hB.alloc (Nat.le_trans hBw hB.size) (.cells #[.int .i64 tk, .string ts, .int .i64 tn] 57)
      have x0 : (w2.alloc (.cells #[.int .i64 tk, .string ts, .int .i64 tn] 57)).cell? ⟨w2.heap.size, 0, none⟩ = some (.int .i64 tk) := World.cell?_alloc_at _ _ _ _ rfl
      have x1 : (w2.alloc (.cells #[.int .i64 tk, .string ts, .int .i64 tn] 57)).cell? ⟨w2.heap.size, 1, none⟩ = some (.string ts) := World.cell?_alloc_at _ _ _ _ rfl
      have x2 : (w2.alloc (.cells #[.int .i64 tk, .string ts, .int .i64 tn] 57)).cell? ⟨w2.heap.size, 2, none⟩ = some (.int .i64 tn) := World.cell?_alloc_at _ _ _ _ rfl
      have hxs : w2.heap.size < (w2.alloc (.cells #[.int .i64 tk, .string ts, .int .i64 tn] 57)).heap.size := by simp
      clear hAc hB hTw hPw CR2
      generalize w2.alloc (.cells #[.int .i64 tk, .string ts, .int .i64 tn] 57) = W4 at *
      generalize w2.heap.size = xb at *
      have hB4 : B ≤ W4.heap.size := Nat.le_trans hBw hBx.size
      have HSB : Hid (∀ W, Below W4.heap.size W4 W → (W.cell? ⟨xb, 0, none⟩ = some (.int .i64 tk) ∧ W.cell? ⟨xb, 1, none⟩ = some (.string ts) ∧ W.cell? ⟨xb, 2, none⟩ = some (.int .i64 tn))) :=
        phide (fun W hB => ⟨(hB.cell (p := ⟨xb, 0, none⟩) hxs).trans x0, (hB.cell (p := ⟨xb, 1, none⟩) hxs).trans x1, (hB.cell (p := ⟨xb, 2, none⟩) hxs).trans x2⟩)
      have HTT : Hid (∀ W, Below W4.heap.size W4 W → Tabs W ∧ Pow W) := phide (fun W hB => punhide HTt W (hBx.trans (hB.mono hB4)))
      have HAA : Hid (∀ W, Below W4.heap.size W4 W → Acc B W cb sb D) := phide (fun W hB => hAx.next hB)
      have HBB : Hid (∀ W, Below W4.heap.size W4 W → Below B w W) := phide (fun W hB => hBx.trans (hB.mono hB4))
      have hS : Below W4.heap.size W4 W4.drew := (Below.refl _ _).drew
      clear x0 x1 x2 hxs hAx hBx
      cases y
      · have HF : Hid (b = false ∧ L = D) := phide (by
          obtain ⟨f, M, h1, h2, h3, h4⟩ := punhide HG2
          rw [Bool.false_and, if_neg (by decide)] at h3
          obtain ⟨rfl, rfl⟩ := Prod.mk.inj h3
          exact ⟨rfl, by rw [← h4]; simp⟩)
        clear HG2 hcl2 CP CT
        refine wp_region_held_drew (S := fun w' => w'.cell? ⟨xb, 0, none⟩ = some (.int .i64 tk) ∧ w'.cell? ⟨xb, 1, none⟩ = some (.string ts) ∧ w'.cell? ⟨xb, 2, none⟩ = some (.int .i64 tn)) (by kernel_rfl) ?hS0 (fun hHeld => ?rest0)
        case hS0 => first | (dsimp only; (exact punhide HSB _ hS)) | (exact punhide HSB _ hS)
        case rest0 =>
        refine wpAnyH_take (i := 0) (v := .agg #[.int .i64 tk, .string ts, .int .i64 tn]) rfl (by kernel_rfl) (by kernel_rfl) (by kernel_rfl) (fun _ _ _ h => h) (Or.inl ⟨by rfl, ?hy0⟩) (by assumption) ?rest1
        case hy0 => ((intro w hSw; (try dsimp only at hSw); go_simp) <;> (first | with_reducible rfl))
        case rest1 =>
        try simp only [Act.put, List.getElem_toArray, List.getElem_cons_zero, List.getElem_cons_succ, List.setIfInBounds_toArray, List.set_cons_zero, List.set_cons_succ]
        refine wpAnyH_ready (rs := [1]) (by kernel_rfl) (by simp) ?_
        refine AllReadyH.cons rfl (fun K hK => ?_) AllReadyH.nil
        go_simp
        go_at_call 114; refine (CM _ (punhide HTT _ hS).1).mono ?_; rintro e9 w9 ⟨rfl, b9⟩
        replace hS := hS.trans (b9.mono hS.size)
        clear b9
        refine hK.out _ _ ?hS2 (fun hHeld2 => ?rest2)
        case hS2 => first | (dsimp only; (exact punhide HSB _ hS)) | (exact punhide HSB _ hS)
        case rest2 =>
        clear hK K
        try clear hHeld
        have hHeld := hHeld2
        clear hHeld2
        try simp only [Act.put, List.getElem_toArray, List.getElem_cons_zero, List.getElem_cons_succ, List.setIfInBounds_toArray, List.set_cons_zero, List.set_cons_succ]
        refine wpAnyH_take (i := 2) (v := .bool true) rfl (by kernel_rfl) (by kernel_rfl) (by kernel_rfl) (fun _ _ _ h => h) (Or.inl ⟨by rfl, ?hy2⟩) (by assumption) ?rest3
        case hy2 => ((intro w hSw; (try dsimp only at hSw); go_simp) <;> (first | with_reducible rfl))
        case rest3 =>
        try simp only [Act.put, List.getElem_toArray, List.getElem_cons_zero, List.getElem_cons_succ, List.setIfInBounds_toArray, List.set_cons_zero, List.set_cons_succ]
        refine wpAnyH_take (i := 3) (v := .bool true) rfl (by kernel_rfl) (by kernel_rfl) (by kernel_rfl) (fun _ _ _ h => h) (Or.inl ⟨by rfl, ?hy3⟩) (by assumption) ?rest4
        case hy3 => ((intro w hSw; (try dsimp only at hSw); go_simp) <;> (first | with_reducible rfl))
        case rest4 =>
        try simp only [Act.put, List.getElem_toArray, List.getElem_cons_zero, List.getElem_cons_succ, List.setIfInBounds_toArray, List.set_cons_zero, List.set_cons_succ]
        refine wpAnyH_take (i := 4) (v := undef) rfl (by kernel_rfl) (by kernel_rfl) (by kernel_rfl) (fun _ _ _ h => h) (Or.inr ⟨by kernel_rfl, rfl⟩) (by assumption) ?_
        try simp only [Act.put, List.getElem_toArray, List.getElem_cons_zero, List.getElem_cons_succ, List.setIfInBounds_toArray, List.set_cons_zero, List.set_cons_succ]
        refine wpAnyH_take (i := 5) (v := undef) rfl (by kernel_rfl) (by kernel_rfl) (by kernel_rfl) (fun _ _ _ h => h) (Or.inr ⟨by kernel_rfl, rfl⟩) (by assumption) ?_
        try simp only [Act.put, List.getElem_toArray, List.getElem_cons_zero, List.getElem_cons_succ, List.setIfInBounds_toArray, List.set_cons_zero, List.set_cons_succ]
        refine wpAnyH_take (i := 6) (v := undef) rfl (by kernel_rfl) (by kernel_rfl) (by kernel_rfl) (fun _ _ _ h => h) (Or.inr ⟨by kernel_rfl, rfl⟩) (by assumption) ?_
        try simp only [Act.put, List.getElem_toArray, List.getElem_cons_zero, List.getElem_cons_succ, List.setIfInBounds_toArray, List.set_cons_zero, List.set_cons_succ]
        refine wpAnyH_take (i := 7) (v := undef) rfl (by kernel_rfl) (by kernel_rfl) (by kernel_rfl) (fun _ _ _ h => h) (Or.inr ⟨by kernel_rfl, rfl⟩) (by assumption) ?_
        try simp only [Act.put, List.getElem_toArray, List.getElem_cons_zero, List.getElem_cons_succ, List.setIfInBounds_toArray, List.set_cons_zero, List.set_cons_succ]
        refine wpAnyH_take (i := 8) (v := undef) rfl (by kernel_rfl) (by kernel_rfl) (by kernel_rfl) (fun _ _ _ h => h) (Or.inr ⟨by kernel_rfl, rfl⟩) (by assumption) ?_
        try simp only [Act.put, List.getElem_toArray, List.getElem_cons_zero, List.getElem_cons_succ, List.setIfInBounds_toArray, List.set_cons_zero, List.set_cons_succ]
        refine wpAnyH_take (i := 9) (v := undef) rfl (by kernel_rfl) (by kernel_rfl) (by kernel_rfl) (fun _ _ _ h => h) (Or.inr ⟨by kernel_rfl, rfl⟩) (by assumption) ?_
        try simp only [Act.put, List.getElem_toArray, List.getElem_cons_zero, List.getElem_cons_succ, List.setIfInBounds_toArray, List.set_cons_zero, List.set_cons_succ]
        refine wpAnyH_take (i := 10) (v := .bool true) rfl (by kernel_rfl) (by kernel_rfl) (by kernel_rfl) (fun _ _ _ h => h) (Or.inl ⟨by rfl, ?hy10⟩) (by assumption) ?rest11
        case hy10 => ((intro w hSw; (try dsimp only at hSw); go_simp) <;> (first | with_reducible rfl))
        case rest11 =>
        try simp only [Act.put, List.getElem_toArray, List.getElem_cons_zero, List.getElem_cons_succ, List.setIfInBounds_toArray, List.set_cons_zero, List.set_cons_succ]
        refine wpAnyH_done (by kernel_rfl) ?_ _
        go_wp2
        go_ret
        exact ⟨ret_b (punhide HF).1, punhide HBB _ hS, by rw [(punhide HF).2]; exact punhide HAA _ hS⟩
      · have CP2 := CP rfl
        clear CP
        obtain ⟨z, hz2⟩ : ∃ z, decide (u = k) = z := ⟨_, rfl⟩
        have z1 : (u.toList == k.toList) = z := by
          rw [← hz2, Bool.eq_iff_iff, beq_iff_eq, bytes_list, decide_eq_true_eq]
        have HZ := phide hz2
        clear hz2
        go_region_held3 (fun w' => w'.cell? ⟨xb, 0, none⟩ = some (.int .i64 tk) ∧ w'.cell? ⟨xb, 1, none⟩ = some (.string ts) ∧ w'.cell? ⟨xb, 2, none⟩ = some (.int .i64 tn)) (exact punhide HSB _ hS)
          (first | (go_at_call 114; refine (CM _ (punhide HTT _ hS).1).mono ?_; rintro e9 w9 ⟨rfl, b9⟩; replace hS := hS.trans (b9.mono hS.size); clear b9) | (go_at_call 84; refine (CP2 _ (punhide HTT _ hS).2).mono ?_; rintro e9 w10 ⟨rfl, b9⟩; replace hS := hS.trans (b9.mono hS.size); clear b9))
        all_goals
          cases z
          · have HF : Hid (b = false ∧ L = D) := phide (by
              obtain ⟨f, M, h1, h2, h3, h4⟩ := punhide HG2
              have hne : ¬ u = k := of_decide_eq_false (punhide HZ)
              rw [decide_eq_false (show ¬ u.data.toList = k.data.toList from fun e => hne (pext e)), Bool.and_false, if_neg (by decide)] at h3
              obtain ⟨rfl, rfl⟩ := Prod.mk.inj h3
              exact ⟨rfl, by rw [← h4]; simp⟩)
            clear HG2 hcl2 CT
            go_wp2
            go_ret
            exact ⟨ret_b (punhide HF).1, punhide HBB _ hS, by rw [(punhide HF).2]; exact punhide HAA _ hS⟩
          · have huk : u = k := of_decide_eq_true (punhide HZ)
            have HG3 : Hid (∃ f M, (q.extract n q.size).size ≤ f ∧ f ≤ 99000 ∧ goS RD f (q.extract n q.size) = (b, M) ∧ (D ++ [(⟨tk, ts, tn⟩ : Pm.St)]) ++ M = L) := phide (by
              obtain ⟨f, M, h1, h2, h3, h4⟩ := punhide HG2
              rw [decide_eq_true (show u.data.toList = k.data.toList by rw [huk]), Bool.and_true, if_pos rfl] at h3
              obtain ⟨h5, rfl⟩ := Prod.mk.inj h3
              refine ⟨f, _, ?_, by omega, by rw [← h5], by rw [← h4]; simp⟩
              have := punhide HLT huk
              omega)
            have HP3 := phide (punhide hcl2 (by first | trivial | rfl) (by rw [huk]))
            have HL3 := phide (punhide HLT huk)
            obtain ⟨a0, a1, a2⟩ := punhide HSB _ hS
            have hAc := punhide HAA _ hS
            have hBc := punhide HBB _ hS
            obtain ⟨r9, hr9⟩ : ∃ r9, q.extract n q.size = r9 := ⟨_, rfl⟩
            rw [hr9] at HG3 HP3 HL3
            clear HG2 hcl2 HLT HZ huk HAA HBB HTT HSB
            go_wp2_with (go_at_call 131; refine (CT _ hAc).mono ?_; rintro e9 w11 ⟨rfl, hA9, b9⟩; have hB9 := hBc.trans b9; clear b9)
            go_roundw
            case rel => exact ⟨r9, _, rfl, by have := punhide HL3; omega, by have := punhide HL3; simp; omega, HP3, HG3, hA9, hB9⟩
            case measure => have := punhide HL3; simp only [strSize]; omega

/-- What Parse answers. -/
def ParseOut (B : Nat) (b : Bool) (L : List Pm.St) (w' : World) (e : Ending) : Prop :=
  (b = false → e = .returned (.tuple #[.slice none 0 0, .int .i64 21])) ∧ (b = true → 8 < L.length → e = .returned (.tuple #[.slice none 0 0, .int .i64 3])) ∧ (b = true → L.length ≤ 8 → ∃ a c, e = .returned (.tuple #[.slice a L.length c, .int .i64 0]) ∧ StepsIn w' a L.length L ∧ ∀ g o, a = some ⟨g, o, none⟩ → B ≤ g)
theorem Acc.start (w : World) : Acc w.heap.size ((w.alloc (.cells #[.slice none 0 0] 52)).alloc (.cells #[.int .i64 0] 3)) (w.heap.size + 1) w.heap.size [] := by
  have h1 : (w.alloc (.cells #[.slice none 0 0] 52)).heap.size = w.heap.size + 1 := by simp
  have e1 := World.cell?_alloc_at (w := w.alloc (.cells #[.slice none 0 0] 52)) #[.int .i64 0] 3 (w.heap.size + 1) 0 h1.symm
  have e2 := World.frozen?_alloc_at (w := w.alloc (.cells #[.slice none 0 0] 52)) #[.int .i64 0] 3 (w.heap.size + 1) 0 h1.symm
  have e3 := (Below.refl _ _).alloc (a := w.alloc (.cells #[.slice none 0 0] 52)) (Nat.le_refl _) (.cells #[.int .i64 0] 3)
  refine ⟨by omega, Nat.le_refl _, by omega, by simp, by simp; omega, e1.trans rfl, e2, ?_, .slice none 0 0, ?_, ⟨rfl, .inl ⟨rfl, rfl⟩⟩, (fun e => by cases e), (fun e => by cases e)⟩
  · rw [e3.frozen (p := ⟨w.heap.size, 0, none⟩) (by simp)]
    exact World.frozen?_alloc_at _ _ _ _ rfl
  · rw [e3.cell (p := ⟨w.heap.size, 0, none⟩) (by simp)]
    exact World.cell?_alloc_at _ _ _ _ rfl

set_option maxRecDepth 100000 in
set_option maxHeartbeats 4000000 in
theorem parse_any (s r : ByteArray) (hs : s.data.toList = 36 :: r.data.toList) (hr : r.size ≤ 99000) (RD : ByteArray → Pm.St × Nat) (P : ByteArray → Prop) (Q : World → Prop) (hP : P r)
    (HP : ∀ r, P r → r.size ≠ 0 → (RD r).2 ≤ r.size ∧ (mayB (RD r).1 = true → prL (RD r).1 = r.data.toList.take (RD r).2 → P (r.extract (RD r).2 r.size)) ∧ ∀ W, Tabs W → Pow W → Q W → Calls Tryz.prog 148 #[.string r] W fun e w' => e = .returned (stV (RD r).1 (RD r).2) ∧ Below W.heap.size W w')
    (b : Bool) (L : List Pm.St) (hG : goS RD 99000 r = (b, L)) (w : World) (hT : Tabs w) (hPw : Pow w) (hQ : ∀ W, Below w.heap.size w W → Q W) :
    Calls Tryz.prog 102 #[.string s] w fun e w' => Below w.heap.size w w' ∧
      ParseOut w.heap.size b L w' e := by
  have hA := Acc.start w
  have hB0 : Below w.heap.size w ((w.alloc (.cells #[.slice none 0 0] 52)).alloc (.cells #[.int .i64 0] 3)) := ((Below.refl _ _).alloc (Nat.le_refl _) _).alloc (by simp) _
  have hll : L.length ≤ 99000 := by have := goS_len RD 99000 r; rw [hG] at this; exact this
  have C := readSteps_any w.heap.size (w.heap.size + 1) w.heap.size s r hs hr RD P Q hP HP b L hG _ hA (by simp; omega) (fun W hB => ⟨tabs_step hT (hB0.trans hB), hPw.next (hB0.trans hB)⟩) (fun W hB => hQ W (hB0.trans hB))
  clear HP hG hs hP hA hT hPw hQ
  go_enter Tryz.func102, Tryz.ntmps102
  go_wp2_with fail
  refine C.mono ?_
  rintro e w2 ⟨rfl, b2, hA⟩
  replace hB0 := hB0.trans b2
  obtain ⟨h1, h2, h3, h4, h5, h6, h7, h8, v, h9, h10, h11⟩ := hA
  cases b
  · clear h1 h2 h3 h4 h5 h6 h7 h8 h9 h10 h11 C b2
    go_wp2
    go_ret2
    exact ⟨hB0, fun _ => rfl, (fun h => by cases h), (fun h => by cases h)⟩
  · by_cases h8n : 8 < L.length
    · have d1 : decide (8 < (L.length : Int)) = true := decide_eq_true (by omega)
      go_wp2
      go_ret2
      exact ⟨hB0, (fun h => by cases h), fun _ _ => rfl, fun _ h => absurd h (by omega)⟩
    · have d1 : decide (8 < (L.length : Int)) = false := decide_eq_false (by omega)
      rw [Nat.min_eq_right (by omega), List.take_of_length_le (by omega)] at h10
      have h10' := h10
      obtain ⟨_, ⟨rfl, hl0⟩ | ⟨g, cap, cur, rfl, _⟩⟩ := h10
      · go_wp2
        go_ret2
        refine ⟨hB0, (fun h => by cases h), fun _ h => absurd h h8n, fun _ _ => ⟨none, 0, ?_, ⟨rfl, .inl hl0⟩, fun g o h => by cases h⟩⟩
        rw [hl0]; rfl
      · go_wp2
        go_ret2
        exact ⟨hB0, (fun h => by cases h), fun _ h => absurd h h8n, fun _ _ => ⟨some ⟨g, 0, none⟩, cap, rfl, ⟨rfl, .inr ⟨g, 0, rfl, rowst_of h10'⟩⟩, fun g' o h => by cases h; exact (h10'.lt g rfl).1⟩⟩
theorem parse_no (s : ByteArray) (hs : s.data.toList.getD 0 0 ≠ 36) (w : World) :
    Calls Tryz.prog 102 #[.string s] w fun e w' => e = .returned (.tuple #[.slice none 0 0, .int .i64 21]) ∧ Below w.heap.size w w' := by
  have C0 := cutPrefix_no s hs
  have hB0 : Below w.heap.size w ((w.alloc (.cells #[.slice none 0 0] 52)).alloc (.cells #[.int .i64 0] 3)) := ((Below.refl _ _).alloc (Nat.le_refl _) _).alloc (by simp) _
  have CR : ∀ v W, Calls Tryz.prog 130 #[.string s, v] W fun e w' => e = .returned (.bool false) ∧ w' = W := by
    intro v W
    clear hB0
    go_enter Tryz.func130, Tryz.ntmps130
    go_wp2_with fail
    refine (C0 _).mono ?_
    rintro e W ⟨rfl, rfl⟩
    go_wp2
    go_ret
    exact ⟨rfl, rfl⟩
  clear hs C0
  go_enter Tryz.func102, Tryz.ntmps102
  go_wp2_with (go_at_call 130; refine (CR _ _).mono ?_; rintro e w2 ⟨rfl, rfl⟩)
  go_ret2
  exact ⟨rfl, hB0⟩
end Go.Proofs.YtnagecbepidfiaaGreatDoor.Np

namespace Go.Proofs.YtnagecbepidfiaaGreatDoor.Np
set_option maxRecDepth 100000
open Go.Proofs.YtnagecbepidfiaaGreatDoor.Nq
open Go.RowKit
set_option linter.unusedVariables false
set_option linter.unusedSimpArgs false

def ptL (L : List Pm.St) : List UInt8 := 36 :: L.flatMap prL
theorem prL_len {t : Pm.St} (h : mayB t = true) : (prL t).length ≤ 400 := by
  by_cases h1 : t.k = 1
  · obtain ⟨h24, _, _⟩ := mayB_key h h1
    have h8 : t.s.data.toList.length = t.s.size := Array.length_toList
    unfold prL
    rw [if_pos h1]
    split
    · rw [List.length_cons]; omega
    · have h6 := quo_le t.s.data.toList
      unfold Qm.quoteL
      simp only [List.length_cons, List.length_append, List.length_nil]
      omega
  · by_cases h2 : t.k = 2
    · obtain ⟨n0, n1, _⟩ := mayB_at h h2
      have := Lib.itoa_length_le t.n (by omega) (by omega)
      unfold prL
      rw [if_neg h1, if_pos h2]
      simp only [List.length_cons, List.length_append, List.length_nil]
      omega
    · unfold prL
      rw [if_neg h1, if_neg h2]
      split
      · simp
      · split <;> simp
theorem ptL_len (L : List Pm.St) (h : ∀ t ∈ L, mayB t = true) (k : Nat) : (ptL (L.take k)).length ≤ 1 + k * 400 := by
  unfold ptL
  rw [List.length_cons]
  have : ∀ (M : List Pm.St), (∀ t ∈ M, mayB t = true) → (M.flatMap prL).length ≤ M.length * 400 := by
    intro M
    induction M with
    | nil => simp
    | cons t r ih =>
      intro hM
      rw [List.flatMap_cons, List.length_append, List.length_cons]
      have h1 := prL_len (hM t (by simp))
      have h2 := ih (fun x hx => hM x (by simp [hx]))
      omega
  have h1 := this (L.take k) (fun t ht => h t (List.mem_of_mem_take ht))
  have h2 : (L.take k).length ≤ k := List.length_take_le _ _
  have := Nat.mul_le_mul_right 400 h2
  omega
theorem bstays {T e : TypeId} {B b : Nat} {bs : List Value} {W W' : World} (h : Lib.IsBuilderF T e B b bs W) (hk : Below W.heap.size W W') : Lib.IsBuilderF T e B b bs W' := stays h hk
theorem pstr_cells (s : ByteArray) : Lib.strCells s = Lib.byteCells s.data.toList := rfl

set_option maxRecDepth 100000 in
set_option maxHeartbeats 2000000 in
theorem print_any (a : Option Addr) (n c : Nat) (L : List Pm.St) (hm : ∀ t ∈ L, mayB t = true) (hn2 : n ≤ 1000) (u : ByteArray) (hu : ptL L = u.data.toList) (w : World) (hs : StepsIn w a n L) (hP : Pow w) :
    Calls Tryz.prog 49 #[.slice a n c] w fun e w' => e = .returned (.string u) ∧ Below w.heap.size w w' := by
  have HU := phide hu
  have HM := phide hm
  have HS := phide hs
  have hL := hs.1
  clear hu hm hs
  have hF := Lib.IsBuilderF.of (Lib.fresh_isBuilder 81 5 w)
  have hB0 : Below w.heap.size w (w.alloc (.cells #[.pointer none, .slice none 0 0] 81)) := (Below.refl _ w).alloc (Nat.le_refl _) _
  go_enter Tryz.func49, Tryz.ntmps49
  go_wp2_with fail
  refine (Tryz.Builder_WriteString_k w.heap.size w.heap.size _ _ _ hF (by show 0 + 1 ≤ _; omega) (by simp)).mono ?_
  rintro e w1 ⟨rfl, i1, b1, k1⟩
  have hB1 := hB0.trans b1
  have hI1 : Lib.IsBuilderF 81 5 w.heap.size w.heap.size (Lib.byteCells (ptL (L.take 0))) w1 := .inr i1
  clear hB0 b1 hF i1 k1
  go_wp2
  go_loopw [9] (fun i wr => ∃ k : Nat, i = .int .i64 (k : Int) ∧ k ≤ n ∧ Lib.IsBuilderF 81 5 w.heap.size w.heap.size (Lib.byteCells (ptL (L.take k))) wr ∧ Below w.heap.size w wr) (fun i _ => n - (intOf i).toNat)
  case atStart => exact ⟨0, rfl, by omega, hI1, hB1⟩
  case round =>
    clear hI1 hB1
    obtain ⟨k, rfl, hk, hI, hB⟩ := hrel
    have hlw : w.heap.size < wr.heap.size := by rcases hI with h | h <;> exact h.lt
    by_cases hlt : k < n
    · obtain ⟨b, o, rfl, hrow⟩ := (punhide HS).2.resolve_left (by omega)
      obtain ⟨c0, c1, c2⟩ := (hrow.step hB).2 k (by omega)
      obtain ⟨t, ht⟩ : ∃ t, L[k]'(by omega) = t := ⟨_, rfl⟩
      have hmt : mayB t = true := by rw [← ht]; exact punhide HM _ (List.getElem_mem _)
      have hlen := prL_len hmt
      have hpl := ptL_len L (punhide HM) k
      obtain ⟨x, hx⟩ : ∃ x : ByteArray, prL t = x.data.toList := ⟨⟨(prL t).toArray⟩, by simp⟩
      have CP := fun W hP => printStep_any t hmt x hx W hP
      have hsn : Lib.byteCells (ptL (L.take k)) ++ Lib.strCells x = Lib.byteCells (ptL (L.take (k + 1))) := by
        rw [pstr_cells, ← Lib.byteCells_append, ← hx]
        congr 1
        unfold ptL
        rw [List.take_succ_eq_append_getElem (by omega), ht, List.flatMap_append]
        simp
      have HSN := phide hsn
      have hb1 : (Lib.byteCells (ptL (L.take k))).length + x.size ≤ 140737488355328 := by
        have h8 : x.data.toList.length = x.size := Array.length_toList
        have := congrArg List.length hx
        have := Nat.mul_le_mul_right 400 hk
        rw [Lib.byteCells_length]; omega
      have HB1 := phide hb1
      rw [ht] at c0 c1 c2
      have hI2 := bstays hI ((Below.refl _ _).alloc (Nat.le_refl _) (.cells #[.int .i64 t.k, .string t.s, .int .i64 t.n] 57))
      have hB2 := hB.alloc hB.size (.cells #[.int .i64 t.k, .string t.s, .int .i64 t.n] 57)
      have hP2 : Pow (wr.alloc (.cells #[.int .i64 t.k, .string t.s, .int .i64 t.n] 57)) := hP.next hB2
      have hl2 : w.heap.size ≤ (wr.alloc (.cells #[.int .i64 t.k, .string t.s, .int .i64 t.n] 57)).heap.size := hB2.size
      obtain ⟨tk, ts, tn⟩ := t
      unfold valS at CP
      simp only [] at *
      clear ht hmt hlen hpl hx hsn hb1 hrow HU HM HS hI hlw
      go_wp2_with (go_at_call 84; refine (CP _ hP2).mono ?_; rintro e w3 ⟨rfl, b3⟩; have hI3 := bstays hI2 b3; have hB3 := hB2.trans (b3.mono hl2); clear b3)
      refine (Tryz.Builder_WriteString_k w.heap.size w.heap.size _ _ _ hI3 (punhide HB1) hB3.size).mono ?_
      rintro e w4 ⟨rfl, i4, b4, k4⟩
      have hB4 := hB3.trans b4
      rw [punhide HSN] at i4
      go_wp2
      go_roundw
      case rel => exact ⟨k + 1, by go_num, by omega, .inr i4, hB4⟩
      case measure => simp [intOf]; omega
    · have hu := punhide HU
      rw [List.take_of_length_le (by omega), hu] at hI
      have d1 : decide ((k : Int) < (n : Int)) = false := decide_eq_false (by omega)
      clear HU HM HS hu
      go_wp2_with fail
      refine (Tryz.Builder_String_any_k w.heap.size w.heap.size _ _ hI (Nat.le_of_lt hlw)).mono ?_
      rintro e w3 ⟨rfl, i3, b3, k3⟩
      go_wp2
      go_ret
      exact ⟨rfl, hB.trans b3⟩
end Go.Proofs.YtnagecbepidfiaaGreatDoor.Np
