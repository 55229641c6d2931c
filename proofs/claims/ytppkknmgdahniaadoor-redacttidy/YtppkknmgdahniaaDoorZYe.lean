/- What is proved here: Alike of package redact, of any two values, walked; conditions: the values lie, and are some of a row's. -/
import Derived.Test.YtppkknmgdahniaaDoorZYb
import Derived.Test.YtppkknmgdahniaaDoorZYj
namespace Go.Proofs.YtppkknmgdahniaaDoor.Pol
set_option maxRecDepth 100000
open Go.RowKit Go.Proofs.YtppkknmgdahniaaDoor.Nc Go.Proofs.YtppkknmgdahniaaDoor.Np Go.Proofs.YtppkknmgdahniaaDoor.Nq
set_option maxRecDepth 100000
set_option linter.unusedVariables false
set_option linter.unusedSimpArgs false

theorem txt_beq (a b : ByteArray) : (a.toList == b.toList) = decide (a = b) := by
  by_cases h : a = b
  · subst h; rw [beq_self_eq_true, decide_eq_true rfl]
  · rw [decide_eq_false h]
    cases hq : (a.toList == b.toList) with
    | false => rfl
    | true =>
      exfalso
      apply h
      have e := eq_of_beq hq
      rw [ByteArray.toList_eq, ByteArray.toList_eq] at e
      exact ByteArray.ext (Array.toList_inj.1 e)
set_option maxHeartbeats 1000000 in
theorem sequal_any (ok ok' : Nat → Prop) (v v' : Value) (ks ks' : List ByteArray) (q : Bool) (hq : decide (ks = ks') = q) (w : World) (h1 : StrsIn ok w v ks) (h2 : StrsIn ok' w v' ks') (hn : ks.length ≤ 1000000) (hn' : ks'.length ≤ 1000000) :
    Calls Tryd.prog 55 #[v, v'] w fun e w' => e = .returned (.bool q) ∧ Below w.heap.size w w' := by
  obtain ⟨a, c, rfl, _, hk⟩ := h1
  obtain ⟨a', c', rfl, _, hk'⟩ := h2
  have HK := khide hk
  have HK' := khide hk'
  have HQ := phide hq
  clear hk hk' hq
  by_cases hln : ks.length = ks'.length
  · obtain ⟨n, hN⟩ : ∃ n, ks.length = n := ⟨_, rfl⟩
    have hN' : ks'.length = n := by omega
    rw [hN, hN']
    have hnb : n ≤ 1000000 := by omega
    clear hln
    go_enter Tryd.func55, Tryd.ntmps55
    go_wp2_with fail
    go_loopw [13] (fun i wr => ∃ k : Nat, i = .int .i64 (k : Int) ∧ k ≤ n ∧ ks.take k = ks'.take k ∧ Below w.heap.size w wr) (fun i _ => n - (intOf i).toNat)
    case atStart => exact ⟨0, rfl, by omega, rfl, Below.refl _ _⟩
    case round =>
      obtain ⟨k, rfl, hk9, hp, hB⟩ := hrel
      have HP := phide hp
      clear hp
      by_cases hlt : k < n
      · obtain ⟨b, o, hao, hb, hc⟩ := str_at (kunhide HK) hB k (by omega)
        obtain ⟨b', o', hao', hb', hc'⟩ := str_at (kunhide HK') hB k (by omega)
        subst hao
        subst hao'
        obtain ⟨s, hs⟩ : ∃ s, ks[k]'(by omega) = s := ⟨_, rfl⟩
        obtain ⟨s', hs'⟩ : ∃ s, ks'[k]'(by omega) = s := ⟨_, rfl⟩
        rw [hs] at hc
        rw [hs'] at hc'
        have HB := khide hB
        have hi : (k : Int) < (n : Int) := by omega
        by_cases he : s = s'
        · have HP2 := phide (show ks.take (k + 1) = ks'.take (k + 1) by
            rw [List.take_succ_eq_append_getElem (by omega), List.take_succ_eq_append_getElem (by omega), punhide HP, hs, hs', he])
          subst he
          have hsf := bne_selfB s
          clear hs hs' hB hN hN'
          go_wp2_with fail
          go_quiet (fail)
          go_wp2_with fail
          go_roundw
          case rel => exact ⟨k + 1, by go_num, hlt, punhide HP2, by first | exact kunhide HB | exact below_drewN' (kunhide HB)⟩
          case measure => simp [intOf]; omega
        · have hsf : (s.toList != s'.toList) = true := by rw [bne, txt_beq, decide_eq_false he]; rfl
          have hsg : (s.toList == s'.toList) = false := by rw [txt_beq, decide_eq_false he]
          have HF : Hid (q = false) := phide (by
            rw [← punhide HQ, decide_eq_false_iff_not]
            intro h
            exact he (by rw [← hs, ← hs']; simp only [h]))
          clear hs hs' hB hN hN' he
          go_wp2_with fail
          go_quiet (fail)
          all_goals
            go_wp2_with fail
            go_ret
            exact ⟨by rw [punhide HF]; rfl, by first | exact kunhide HB | exact below_drewN' (kunhide HB)⟩
      · have HB := khide hB
        have HF : Hid (q = true) := phide (by
          have h := punhide HP
          rw [List.take_of_length_le (by omega), List.take_of_length_le (by omega)] at h
          rw [← punhide HQ, decide_eq_true_eq]; exact h)
        have hi : ¬ (k : Int) < (n : Int) := by omega
        clear hB hN hN'
        go_wp2_with fail
        go_ret
        exact ⟨by rw [punhide HF]; rfl, kunhide HB⟩
  · have HF : Hid (q = false) := phide (by
      rw [← punhide HQ, decide_eq_false_iff_not]
      intro h
      exact hln (by rw [h]))
    have e1 : ¬ (ks.length : Int) = (ks'.length : Int) := by omega
    clear hln
    go_enter Tryd.func55, Tryd.ntmps55
    go_wp2_with fail
    go_ret
    exact ⟨by rw [punhide HF]; rfl, Below.refl _ _⟩

theorem rowsB_take {f : Tr → Tr → Bool} : ∀ (l m : List Tr) (k : Nat), rowsB f (l.take k) (m.take k) = true → ∀ h1 : k < l.length, ∀ h2 : k < m.length, rowsB f (l.take (k + 1)) (m.take (k + 1)) = f (l[k]'h1) (m[k]'h2)
  | x :: r, y :: q, 0, h, _, _ => by simp [rowsB]
  | x :: r, y :: q, k + 1, h, h1, h2 => by
    simp only [List.take_succ_cons, rowsB, Bool.and_eq_true] at h ⊢
    rw [h.1, Bool.true_and]
    exact rowsB_take r q k h.2 (by simpa using h1) (by simpa using h2)
theorem rowsB_cut {f : Tr → Tr → Bool} : ∀ (l m : List Tr) (k : Nat), rowsB f (l.take k) (m.take k) = false → l.length = m.length → rowsB f l m = false
  | _, _, 0, h, _ => by simp [rowsB] at h
  | [], [], k + 1, h, _ => by simp [rowsB] at h
  | x :: r, y :: q, k + 1, h, e => by
    simp only [List.take_succ_cons, rowsB] at h ⊢
    cases hf : f x y
    · rfl
    · rw [hf, Bool.true_and] at h
      rw [Bool.true_and]
      exact rowsB_cut r q k h (by simpa using e)
set_option maxHeartbeats 2000000 in
theorem equalfunc_any (ok ok' : Nat → Prop) (n cb : Nat) (f : Tr → Tr → Bool) (v v' : Value) (l m : List Tr) (q : Bool) (hq : rowsB f l m = q) (w : World) (h1 : KidsIn ok (Lies ok w n) w v l) (h2 : KidsIn ok' (Lies ok' w n) w v' m) (hl : l.length ≤ 1000000) (hm : m.length ≤ 1000000)
    (C : ∀ a b t u W, t ∈ l → u ∈ m → Below w.heap.size w W → Lies ok W n a t → Lies ok' W n b u → Calls Tryd.prog 57 #[a, b, .pointer (some ⟨cb, 0, none⟩)] W fun e W' => e = .returned (.bool (f t u)) ∧ Below W.heap.size W W') :
    Calls Tryd.prog 56 #[v, v', .func (Fn.func 57) #[] #[.pointer (some ⟨cb, 0, none⟩)]] w fun e w' => e = .returned (.bool q) ∧ Below w.heap.size w w' := by
  obtain ⟨a, ac, rfl, _, hka⟩ := h1
  obtain ⟨b, bc, rfl, _, hkb⟩ := h2
  have HC := khide C
  have HKA := khide hka
  have HKB := khide hkb
  have HQ := phide hq
  clear C hka hkb hq
  by_cases hln : l.length = m.length
  · obtain ⟨N, hN⟩ : ∃ n, l.length = n := ⟨_, rfl⟩
    have hN' : m.length = N := by omega
    rw [hN, hN']
    have hnb : N ≤ 1000000 := by omega
    clear hln
    go_enter Tryd.func56, Tryd.ntmps56
    go_wp2_with fail
    go_loopg [17] N (fun g i wr => ∃ k : Nat, i = .int .i64 (k : Int) ∧ k + g = N ∧ rowsB f (l.take k) (m.take k) = true ∧ Below w.heap.size w wr)
    case atStart => exact ⟨0, rfl, by omega, by simp [rowsB], Below.refl _ _⟩
    case round =>
      obtain ⟨k, rfl, hkg, hp, hB⟩ := hrel
      by_cases hlt : k < N
      · obtain ⟨b1, o1, hd1, ka1, kn1, kc1, da1, dn1, dc1, hao, hb1, ⟨c0, c1, c2, c3, c4, c5, c6, c7, c8⟩, hl1⟩ := kid_at (kunhide HKA) hB k (by omega)
        subst hao
        have e1 : (k : Int) < (N : Int) := by omega
        obtain ⟨b2, o2, hd2, ka2, kn2, kc2, da2, dn2, dc2, hao, hb2, ⟨x0, x1, x2, x3, x4, x5, x6, x7, x8⟩, hl2⟩ := kid_at (kunhide HKB) hB k (by omega)
        subst hao
        have hb2' : b2 < wr.heap.size := Nat.lt_of_lt_of_le hb2 hB.size
        have htk := rowsB_take l m k hp (by omega) (by omega)
        obtain ⟨r, hr⟩ : ∃ r, f (l[k]'(by omega)) (m[k]'(by omega)) = r := ⟨_, rfl⟩
        have CC := fun W (hW : Below wr.heap.size wr W) => kunhide HC _ _ _ _ W (List.getElem_mem (by omega : k < l.length)) (List.getElem_mem (by omega : k < m.length)) (below_next hB hW) (hl1.below hW) (hl2.below hW)
        rw [hr] at CC htk
        have HCC := khide CC
        have HB := khide hB
        have HTK := phide htk
        clear CC hl1 hl2 hB hr htk hp
        go_wp2_with fail
        refine (kunhide HCC _ (((Below.refl _ wr).alloc (Nat.le_refl _) _).alloc (by simp) _)).mono ?_
        rintro e W ⟨rfl, hbw⟩
        have HB2 := khide (below_next (((kunhide HB).alloc (kunhide HB).size _).alloc (by have := (kunhide HB).size; simp; omega) _) hbw)
        clear hbw c0 c1 c2 c3 c4 c5 c6 c7 c8 x0 x1 x2 x3 x4 x5 x6 x7 x8
        cases r
        · go_wp2_with fail
          go_ret
          exact ⟨by rw [← punhide HQ, rowsB_cut l m (k + 1) (punhide HTK) (by omega)]; rfl, kunhide HB2⟩
        · go_wp2_with fail
          go_roundg (gk - 1)
          case measure => omega
          case rel => exact ⟨k + 1, by go_num, by omega, punhide HTK, kunhide HB2⟩
      · have e1 : ¬ (k : Int) < (N : Int) := by omega
        have HF : Hid (q = true) := phide (by
          rw [List.take_of_length_le (by omega), List.take_of_length_le (by omega)] at hp
          rw [← punhide HQ]; exact hp)
        clear hp
        go_wp2_with fail
        go_ret
        exact ⟨by rw [punhide HF]; rfl, hB⟩
  · have HF : Hid (q = false) := phide (by
      rw [← punhide HQ]
      cases h : rowsB f l m
      · rfl
      · exact absurd (rowsB_len h) hln)
    have e1 : ¬ (l.length : Int) = (m.length : Int) := by omega
    clear hln
    go_enter Tryd.func56, Tryd.ntmps56
    go_wp2_with fail
    go_ret
    exact ⟨by rw [punhide HF]; rfl, Below.refl _ _⟩
end Go.Proofs.YtppkknmgdahniaaDoor.Pol
/- What is proved here: Alike of package redact, of any two values, walked; conditions: the values lie, with no more than a million keys and kids anywhere. Written by alike_gen.py. -/
namespace Go.Proofs.YtppkknmgdahniaaDoor.Pol
set_option maxRecDepth 100000
open Go.RowKit Go.Proofs.YtppkknmgdahniaaDoor.Nc Go.Proofs.YtppkknmgdahniaaDoor.Np Go.Proofs.YtppkknmgdahniaaDoor.Nq
set_option maxRecDepth 100000
set_option linter.unusedVariables false
set_option linter.unusedSimpArgs false

theorem txt_eq_of {a b : ByteArray} (h : a.toList = b.toList) : a = b := by
  have := txt_beq a b
  rw [h, beq_self_eq_true] at this
  exact of_decide_eq_true this.symm
theorem hdB_ks {k k' : Int} {m m' : Nat} {ng ng' : Bool} {dg dg' : ByteArray} {sc sc' : Int} {tx tx' : ByteArray} {ks ks' : List ByteArray} {cd cd' : Int} (h1 : k = k') (h2 : (m : Int) = (m' : Int)) (h3 : ng = ng') (h4 : dg.toList = dg'.toList) (h5 : sc = sc') (h6 : tx.toList = tx'.toList) (h7 : cd = cd') :
    hdB ⟨k, m, ng, dg, sc, tx, ks, cd⟩ ⟨k', m', ng', dg', sc', tx', ks', cd'⟩ = decide (ks = ks') := by
  have e4 := txt_eq_of h4
  have e6 := txt_eq_of h6
  have e2 : m = m' := by omega
  subst h1 e2 h3 e4 h5 e6 h7
  unfold hdB
  simp
theorem hdB_no {k k' : Int} {m m' : Nat} {ng ng' : Bool} {dg dg' : ByteArray} {sc sc' : Int} {tx tx' : ByteArray} {ks ks' : List ByteArray} {cd cd' : Int} (h : ¬ k = k' ∨ ¬ (m : Int) = (m' : Int) ∨ ¬ ng = ng' ∨ ¬ dg.toList = dg'.toList ∨ ¬ sc = sc' ∨ ¬ tx.toList = tx'.toList ∨ ¬ cd = cd') :
    hdB ⟨k, m, ng, dg, sc, tx, ks, cd⟩ ⟨k', m', ng', dg', sc', tx', ks', cd'⟩ = false := by
  cases e : hdB ⟨k, m, ng, dg, sc, tx, ks, cd⟩ ⟨k', m', ng', dg', sc', tx', ks', cd'⟩
  · rfl
  · exfalso
    have := hdB_iff.1 e
    obtain ⟨rfl, rfl, rfl, rfl, rfl, rfl, rfl, rfl⟩ := Hd.mk.inj this
    rcases h with h | h | h | h | h | h | h <;> exact h rfl
set_option maxHeartbeats 1000000 in
theorem alike1_any (cb cl : Nat) (a b : Value) (r : Bool) (w : World) (hc : Bx w cb #[.int .u64 (cl : Int)] 23)
    (ha : ∃ (hd : Hd) (ka : Option Addr) (kn kc : Nat) (da : Option Addr) (dn dc : Nat), a = .agg #[.int .i64 hd.k, .int .u64 (hd.m : Int), .bool hd.ng, .string hd.dg, .int .i64 hd.sc, .string hd.tx, .slice ka kn kc, .slice da dn dc, .int .i64 hd.cd])
    (hb : ∃ (hd : Hd) (ka : Option Addr) (kn kc : Nat) (da : Option Addr) (dn dc : Nat), b = .agg #[.int .i64 hd.k, .int .u64 (hd.m : Int), .bool hd.ng, .string hd.dg, .int .i64 hd.sc, .string hd.tx, .slice ka kn kc, .slice da dn dc, .int .i64 hd.cd])
    (C : ∀ W, Below w.heap.size w W → Calls Tryd.prog 21 #[a, b, .int .u64 (cl : Int)] W fun e w' => e = .returned (.bool r) ∧ Below W.heap.size W w') :
    Calls Tryd.prog 57 #[a, b, .pointer (some ⟨cb, 0, none⟩)] w fun e w' => e = .returned (.bool r) ∧ Below w.heap.size w w' := by
  obtain ⟨h, ka, kn, kc, da, dn, dc, rfl⟩ := ha
  obtain ⟨h', ka', kn', kc', da', dn', dc', rfl⟩ := hb
  have HC := phide C
  have c0 := hc.cell 0
  have hlt := hc.lt
  clear C hc
  go_enter Tryd.func57, Tryd.ntmps57
  go_wp2_with fail
  refine (punhide HC _ (((Below.refl _ w).alloc (Nat.le_refl _) _).alloc (by simp) _)).mono ?_
  rintro e W ⟨rfl, hbw⟩
  have HB2 := phide (below_next (((Below.refl _ w).alloc (Nat.le_refl _) _).alloc (by simp) _) hbw)
  clear hbw c0
  go_wp2_with fail
  go_returns
  exact ⟨rfl, punhide HB2⟩
set_option maxHeartbeats 8000000 in
theorem alike_any (ok ok' : Nat → Prop) (cl : Nat) (hcl : cl < 18446744073709551616) : ∀ (n : Nat) (va vb : Value) (ta tb : Tr) (q : Bool) (w : World), likeB (hidU cl) n ta tb = q → Lies ok w n va ta → Lies ok' w n vb tb → okT n ta → okT n tb →
    Calls Tryd.prog 21 #[va, vb, .int .u64 (cl : Int)] w fun e w' => e = .returned (.bool q) ∧ Below w.heap.size w w'
  | 0, _, _, _, _, _, _, _, h, _, _, _ => h.elim
  | n + 1, va, vb, ta, tb, q, w, hq, h1, h2, ho, ho' => by
    obtain ⟨⟨k, m, ng, dg, sc, tx, ks, cd⟩, l, ka, kc, da, dc, rfl, rfl, hm64, hkc, hdc, hks, hkid⟩ := id h1.node
    obtain ⟨⟨k', m', ng', dg', sc', tx', ks', cd'⟩, l', ka', kc', da', dc', rfl, rfl, hm64', hkc', hdc', hks', hkid'⟩ := id h2.node
    change m < 18446744073709551616 at hm64
    change m' < 18446744073709551616 at hm64'
    have hkl : ks.length ≤ 1000000 := ho.1
    have hkl' : ks'.length ≤ 1000000 := ho'.1
    have hll : l.length ≤ 1000000 := ho.2.1
    have hll' : l'.length ≤ 1000000 := ho'.2.1
    have IH := fun va vb ta tb q W => alike_any ok ok' cl hcl n va vb ta tb q W
    obtain ⟨w1, e1, z1, g1, x1⟩ := alloc_facts w #[.int .i64 k, .int .u64 (m : Int), .bool ng, .string dg, .int .i64 sc, .string tx, .slice ka ks.length kc, .slice da l.length dc, .int .i64 cd] 31
    obtain ⟨w2, e2, z2, g2, x2⟩ := alloc_facts w1 #[.int .i64 k', .int .u64 (m' : Int), .bool ng', .string dg', .int .i64 sc', .string tx', .slice ka' ks'.length kc', .slice da' l'.length dc', .int .i64 cd'] 31
    obtain ⟨w3, e3, z3, g3, x3⟩ := alloc_facts w2 #[.int .u64 (cl : Int)] 23
    have hg : Below w.heap.size w w3 := (g1.trans (g2.mono (by omega))).trans (g3.mono (by omega))
    rw [z1] at x2
    rw [z2, z1] at x3
    have HX : Hid (∀ W, Below w3.heap.size w3 W → Bx W w.heap.size #[.int .i64 k, .int .u64 (m : Int), .bool ng, .string dg, .int .i64 sc, .string tx, .slice ka ks.length kc, .slice da l.length dc, .int .i64 cd] 31 ∧ Bx W (w.heap.size + 1) #[.int .i64 k', .int .u64 (m' : Int), .bool ng', .string dg', .int .i64 sc', .string tx', .slice ka' ks'.length kc', .slice da' l'.length dc', .int .i64 cd'] 31 ∧ Bx W (w.heap.size + 1 + 1) #[.int .u64 (cl : Int)] 23) := phide (fun W hW => ⟨((x1.below g2).below g3).below hW, (x2.below g3).below hW, x3.below hW⟩)
    have HBW : Hid (∀ W, Below w3.heap.size w3 W → Below w.heap.size w W) := phide (fun W hW => below_next hg hW)
    obtain ⟨qa, hqa⟩ : ∃ qa, hidU cl m = qa := ⟨_, rfl⟩
    obtain ⟨qb, hqb⟩ : ∃ qb, hidU cl m' = qb := ⟨_, rfl⟩
    have hl1 := h1.below hg
    have hl2 := h2.below hg
    have HCA : Hid (∀ W, Below w3.heap.size w3 W → _) := phide (fun W hW => hidden_any ok (n + 1) _ (Tr.mk ⟨k, m, ng, dg, sc, tx, ks, cd⟩ l) cl hcl qa hqa W (hl1.below hW))
    have HCB : Hid (∀ W, Below w3.heap.size w3 W → _) := phide (fun W hW => hidden_any ok' (n + 1) _ (Tr.mk ⟨k', m', ng', dg', sc', tx', ks', cd'⟩ l') cl hcl qb hqb W (hl2.below hW))
    have HCE : Hid (∀ W b, Below w3.heap.size w3 W → decide (ks = ks') = b → Calls Tryd.prog 55 #[.slice ka ks.length kc, .slice ka' ks'.length kc'] W fun e w' => e = .returned (.bool b) ∧ Below W.heap.size W w') := phide (fun W b hW hb => by
      obtain ⟨h', l9, kv, dv, e1, e2, e0, e3, e4⟩ := hl1.below hW
      obtain ⟨h'', l8, kv', dv', f1, f2, f0, f3, f4⟩ := hl2.below hW
      obtain ⟨rfl, rfl⟩ := Tr.mk_inj e1
      obtain ⟨rfl, rfl⟩ := Tr.mk_inj f1
      have e5 := congrArg Array.toList (Value.agg.inj e2)
      have f5 := congrArg Array.toList (Value.agg.inj f2)
      simp only [nine, List.cons.injEq, and_true, true_and] at e5 f5
      obtain ⟨e6, e7⟩ := e5
      obtain ⟨f6, f7⟩ := f5
      subst e6 e7 f6 f7
      exact sequal_any ok ok' _ _ ks ks' b hb W e3 f3 hkl hkl')
    have HCF : Hid (∀ W b, Below w3.heap.size w3 W → rowsB (likeB (hidU cl) n) l l' = b → Calls Tryd.prog 56 #[.slice da l.length dc, .slice da' l'.length dc', .func (Fn.func 57) #[] #[.pointer (some ⟨w.heap.size + 1 + 1, 0, none⟩)]] W fun e w' => e = .returned (.bool b) ∧ Below W.heap.size W w') := phide (fun W b hW hb => by
      obtain ⟨h', l9, kv, dv, e1, e2, e0, e3, e4⟩ := hl1.below hW
      obtain ⟨h'', l8, kv', dv', f1, f2, f0, f3, f4⟩ := hl2.below hW
      obtain ⟨rfl, rfl⟩ := Tr.mk_inj e1
      obtain ⟨rfl, rfl⟩ := Tr.mk_inj f1
      have e5 := congrArg Array.toList (Value.agg.inj e2)
      have f5 := congrArg Array.toList (Value.agg.inj f2)
      simp only [nine, List.cons.injEq, and_true, true_and] at e5 f5
      obtain ⟨e6, e7⟩ := e5
      obtain ⟨f6, f7⟩ := f5
      subst e6 e7 f6 f7
      refine equalfunc_any ok ok' n (w.heap.size + 1 + 1) (likeB (hidU cl) n) _ _ l l' b hb W e4 f4 hll hll' (fun a b t u W' ht hu hW' ha hb => ?_)
      exact alike1_any (w.heap.size + 1 + 1) cl a b _ W' (((x3.below hW).below hW')) (Lies.shape ha) (Lies.shape hb) (fun W hW => IH a b t u _ W rfl (ha.below hW) (hb.below hW) (ho.2.2 t ht) (ho'.2.2 u hu)))
    have HL : Hid (w.alloc (.cells #[.int .i64 k, .int .u64 (m : Int), .bool ng, .string dg, .int .i64 sc, .string tx, .slice ka ks.length kc, .slice da l.length dc, .int .i64 cd] 31) = w1 ∧ w1.alloc (.cells #[.int .i64 k', .int .u64 (m' : Int), .bool ng', .string dg', .int .i64 sc', .string tx', .slice ka' ks'.length kc', .slice da' l'.length dc', .int .i64 cd'] 31) = w2 ∧ w2.alloc (.cells #[.int .u64 (cl : Int)] 23) = w3) := phide ⟨e1, e2, e3⟩
    have hqq : (if qa || qb then qa && qb else hdB ⟨k, m, ng, dg, sc, tx, ks, cd⟩ ⟨k', m', ng', dg', sc', tx', ks', cd'⟩ && rowsB (likeB (hidU cl) n) l l') = q := by rw [← hqa, ← hqb]; exact hq
    have HQ := phide hqq
    have hB : Below w3.heap.size w3 w3 := Below.refl _ _
    clear hq hqq e1 e2 e3 z1 z2 z3 g1 g2 g3 x1 x2 x3 hg hl1 hl2 h1 h2 hks hkid hks' hkid' IH ho ho' hqa hqb hkc hdc hkc' hdc'
    go_enter Tryd.func21, Tryd.ntmps21
    go_upto_region 1 with fail
    rw [(punhide HL).1, (punhide HL).2.1, (punhide HL).2.2]
    clear HL
    obtain ⟨x1, x2, x3⟩ := punhide HX _ hB
    obtain ⟨a0, a1, a2, a3, a4, a5, a6, a7, a8⟩ : _ ∧ _ ∧ _ ∧ _ ∧ _ ∧ _ ∧ _ ∧ _ ∧ _ := ⟨x1.cell 0, x1.cell 1, x1.cell 2, x1.cell 3, x1.cell 4, x1.cell 5, x1.cell 6, x1.cell 7, x1.cell 8⟩
    obtain ⟨b0, b1, b2, b3, b4, b5, b6, b7, b8⟩ : _ ∧ _ ∧ _ ∧ _ ∧ _ ∧ _ ∧ _ ∧ _ ∧ _ := ⟨x2.cell 0, x2.cell 1, x2.cell 2, x2.cell 3, x2.cell 4, x2.cell 5, x2.cell 6, x2.cell 7, x2.cell 8⟩
    have c0 := x3.cell 0
    clear x1 x2 x3
    cases qa with
    | true =>
      have HQF : Hid (q = qb) := phide (by have := punhide HQ; simpa using this.symm)
      go_wp2_with fail
      refine (punhide HCA _ hB).mono ?_
      rintro e9 w4 ⟨rfl, bb⟩
      clear a0 a1 a2 a3 a4 a5 a6 a7 a8 b0 b1 b2 b3 b4 b5 b6 b7 b8 c0
      replace hB := below_next hB bb
      clear bb
      obtain ⟨x1, x2, x3⟩ := punhide HX _ hB
      obtain ⟨a0, a1, a2, a3, a4, a5, a6, a7, a8⟩ : _ ∧ _ ∧ _ ∧ _ ∧ _ ∧ _ ∧ _ ∧ _ ∧ _ := ⟨x1.cell 0, x1.cell 1, x1.cell 2, x1.cell 3, x1.cell 4, x1.cell 5, x1.cell 6, x1.cell 7, x1.cell 8⟩
      obtain ⟨b0, b1, b2, b3, b4, b5, b6, b7, b8⟩ : _ ∧ _ ∧ _ ∧ _ ∧ _ ∧ _ ∧ _ ∧ _ ∧ _ := ⟨x2.cell 0, x2.cell 1, x2.cell 2, x2.cell 3, x2.cell 4, x2.cell 5, x2.cell 6, x2.cell 7, x2.cell 8⟩
      have c0 := x3.cell 0
      clear x1 x2 x3
      go_wp2_with fail
      refine (punhide HCA _ hB).mono ?_
      rintro e9 w5 ⟨rfl, bb⟩
      clear a0 a1 a2 a3 a4 a5 a6 a7 a8 b0 b1 b2 b3 b4 b5 b6 b7 b8 c0
      replace hB := below_next hB bb
      clear bb
      obtain ⟨x1, x2, x3⟩ := punhide HX _ hB
      obtain ⟨a0, a1, a2, a3, a4, a5, a6, a7, a8⟩ : _ ∧ _ ∧ _ ∧ _ ∧ _ ∧ _ ∧ _ ∧ _ ∧ _ := ⟨x1.cell 0, x1.cell 1, x1.cell 2, x1.cell 3, x1.cell 4, x1.cell 5, x1.cell 6, x1.cell 7, x1.cell 8⟩
      obtain ⟨b0, b1, b2, b3, b4, b5, b6, b7, b8⟩ : _ ∧ _ ∧ _ ∧ _ ∧ _ ∧ _ ∧ _ ∧ _ ∧ _ := ⟨x2.cell 0, x2.cell 1, x2.cell 2, x2.cell 3, x2.cell 4, x2.cell 5, x2.cell 6, x2.cell 7, x2.cell 8⟩
      have c0 := x3.cell 0
      clear x1 x2 x3
      go_wp2_with fail
      refine (punhide HCB _ hB).mono ?_
      rintro e9 w6 ⟨rfl, bb⟩
      clear a0 a1 a2 a3 a4 a5 a6 a7 a8 b0 b1 b2 b3 b4 b5 b6 b7 b8 c0
      replace hB := below_next hB bb
      clear bb
      obtain ⟨x1, x2, x3⟩ := punhide HX _ hB
      obtain ⟨a0, a1, a2, a3, a4, a5, a6, a7, a8⟩ : _ ∧ _ ∧ _ ∧ _ ∧ _ ∧ _ ∧ _ ∧ _ ∧ _ := ⟨x1.cell 0, x1.cell 1, x1.cell 2, x1.cell 3, x1.cell 4, x1.cell 5, x1.cell 6, x1.cell 7, x1.cell 8⟩
      obtain ⟨b0, b1, b2, b3, b4, b5, b6, b7, b8⟩ : _ ∧ _ ∧ _ ∧ _ ∧ _ ∧ _ ∧ _ ∧ _ ∧ _ := ⟨x2.cell 0, x2.cell 1, x2.cell 2, x2.cell 3, x2.cell 4, x2.cell 5, x2.cell 6, x2.cell 7, x2.cell 8⟩
      have c0 := x3.cell 0
      clear x1 x2 x3
      go_wp2_with fail
      go_returns
      exact ⟨by rw [punhide HQF]; rfl, punhide HBW _ hB⟩
    | false =>
      cases qb with
      | true =>
        have HQF : Hid (q = false) := phide (by have := punhide HQ; simpa using this.symm)
        go_wp2_with fail
        refine (punhide HCA _ hB).mono ?_
        rintro e9 w4 ⟨rfl, bb⟩
        clear a0 a1 a2 a3 a4 a5 a6 a7 a8 b0 b1 b2 b3 b4 b5 b6 b7 b8 c0
        replace hB := below_next hB bb
        clear bb
        obtain ⟨x1, x2, x3⟩ := punhide HX _ hB
        obtain ⟨a0, a1, a2, a3, a4, a5, a6, a7, a8⟩ : _ ∧ _ ∧ _ ∧ _ ∧ _ ∧ _ ∧ _ ∧ _ ∧ _ := ⟨x1.cell 0, x1.cell 1, x1.cell 2, x1.cell 3, x1.cell 4, x1.cell 5, x1.cell 6, x1.cell 7, x1.cell 8⟩
        obtain ⟨b0, b1, b2, b3, b4, b5, b6, b7, b8⟩ : _ ∧ _ ∧ _ ∧ _ ∧ _ ∧ _ ∧ _ ∧ _ ∧ _ := ⟨x2.cell 0, x2.cell 1, x2.cell 2, x2.cell 3, x2.cell 4, x2.cell 5, x2.cell 6, x2.cell 7, x2.cell 8⟩
        have c0 := x3.cell 0
        clear x1 x2 x3
        go_wp2_with fail
        refine (punhide HCB _ hB).mono ?_
        rintro e9 w5 ⟨rfl, bb⟩
        clear a0 a1 a2 a3 a4 a5 a6 a7 a8 b0 b1 b2 b3 b4 b5 b6 b7 b8 c0
        replace hB := below_next hB bb
        clear bb
        obtain ⟨x1, x2, x3⟩ := punhide HX _ hB
        obtain ⟨a0, a1, a2, a3, a4, a5, a6, a7, a8⟩ : _ ∧ _ ∧ _ ∧ _ ∧ _ ∧ _ ∧ _ ∧ _ ∧ _ := ⟨x1.cell 0, x1.cell 1, x1.cell 2, x1.cell 3, x1.cell 4, x1.cell 5, x1.cell 6, x1.cell 7, x1.cell 8⟩
        obtain ⟨b0, b1, b2, b3, b4, b5, b6, b7, b8⟩ : _ ∧ _ ∧ _ ∧ _ ∧ _ ∧ _ ∧ _ ∧ _ ∧ _ := ⟨x2.cell 0, x2.cell 1, x2.cell 2, x2.cell 3, x2.cell 4, x2.cell 5, x2.cell 6, x2.cell 7, x2.cell 8⟩
        have c0 := x3.cell 0
        clear x1 x2 x3
        go_wp2_with fail
        refine (punhide HCA _ hB).mono ?_
        rintro e9 w6 ⟨rfl, bb⟩
        clear a0 a1 a2 a3 a4 a5 a6 a7 a8 b0 b1 b2 b3 b4 b5 b6 b7 b8 c0
        replace hB := below_next hB bb
        clear bb
        obtain ⟨x1, x2, x3⟩ := punhide HX _ hB
        obtain ⟨a0, a1, a2, a3, a4, a5, a6, a7, a8⟩ : _ ∧ _ ∧ _ ∧ _ ∧ _ ∧ _ ∧ _ ∧ _ ∧ _ := ⟨x1.cell 0, x1.cell 1, x1.cell 2, x1.cell 3, x1.cell 4, x1.cell 5, x1.cell 6, x1.cell 7, x1.cell 8⟩
        obtain ⟨b0, b1, b2, b3, b4, b5, b6, b7, b8⟩ : _ ∧ _ ∧ _ ∧ _ ∧ _ ∧ _ ∧ _ ∧ _ ∧ _ := ⟨x2.cell 0, x2.cell 1, x2.cell 2, x2.cell 3, x2.cell 4, x2.cell 5, x2.cell 6, x2.cell 7, x2.cell 8⟩
        have c0 := x3.cell 0
        clear x1 x2 x3
        go_wp2_with fail
        go_returns
        exact ⟨by rw [punhide HQF]; rfl, punhide HBW _ hB⟩
      | false =>
        have HQ3 : Hid ((hdB ⟨k, m, ng, dg, sc, tx, ks, cd⟩ ⟨k', m', ng', dg', sc', tx', ks', cd'⟩ && rowsB (likeB (hidU cl) n) l l') = q) := phide (by have := punhide HQ; simpa using this)
        go_wp2_with fail
        refine (punhide HCA _ hB).mono ?_
        rintro e9 w4 ⟨rfl, bb⟩
        clear a0 a1 a2 a3 a4 a5 a6 a7 a8 b0 b1 b2 b3 b4 b5 b6 b7 b8 c0
        replace hB := below_next hB bb
        clear bb
        obtain ⟨x1, x2, x3⟩ := punhide HX _ hB
        obtain ⟨a0, a1, a2, a3, a4, a5, a6, a7, a8⟩ : _ ∧ _ ∧ _ ∧ _ ∧ _ ∧ _ ∧ _ ∧ _ ∧ _ := ⟨x1.cell 0, x1.cell 1, x1.cell 2, x1.cell 3, x1.cell 4, x1.cell 5, x1.cell 6, x1.cell 7, x1.cell 8⟩
        obtain ⟨b0, b1, b2, b3, b4, b5, b6, b7, b8⟩ : _ ∧ _ ∧ _ ∧ _ ∧ _ ∧ _ ∧ _ ∧ _ ∧ _ := ⟨x2.cell 0, x2.cell 1, x2.cell 2, x2.cell 3, x2.cell 4, x2.cell 5, x2.cell 6, x2.cell 7, x2.cell 8⟩
        have c0 := x3.cell 0
        clear x1 x2 x3
        go_wp2_with fail
        refine (punhide HCB _ hB).mono ?_
        rintro e9 w5 ⟨rfl, bb⟩
        clear a0 a1 a2 a3 a4 a5 a6 a7 a8 b0 b1 b2 b3 b4 b5 b6 b7 b8 c0
        replace hB := below_next hB bb
        clear bb
        obtain ⟨x1, x2, x3⟩ := punhide HX _ hB
        obtain ⟨a0, a1, a2, a3, a4, a5, a6, a7, a8⟩ : _ ∧ _ ∧ _ ∧ _ ∧ _ ∧ _ ∧ _ ∧ _ ∧ _ := ⟨x1.cell 0, x1.cell 1, x1.cell 2, x1.cell 3, x1.cell 4, x1.cell 5, x1.cell 6, x1.cell 7, x1.cell 8⟩
        obtain ⟨b0, b1, b2, b3, b4, b5, b6, b7, b8⟩ : _ ∧ _ ∧ _ ∧ _ ∧ _ ∧ _ ∧ _ ∧ _ ∧ _ := ⟨x2.cell 0, x2.cell 1, x2.cell 2, x2.cell 3, x2.cell 4, x2.cell 5, x2.cell 6, x2.cell 7, x2.cell 8⟩
        have c0 := x3.cell 0
        clear x1 x2 x3
        clear HQ
        go_upto_region 3 with fail
        go_wp2_with fail
        · obtain ⟨b, hb⟩ : ∃ b, decide (ks = ks') = b := ⟨_, rfl⟩
          have HBB := phide hb
          have HEQ : Hid (hdB ⟨k, m, ng, dg, sc, tx, ks, cd⟩ ⟨k', m', ng', dg', sc', tx', ks', cd'⟩ = b) := phide (by rw [← hb]; exact hdB_ks (by assumption) (by assumption) (by assumption) (by assumption) (by assumption) (by assumption) (by assumption))
          have C9 := punhide HCE _ b hB hb
          clear hb
          refine C9.mono ?_
          rintro e9 w6 ⟨rfl, bb⟩
          clear C9
          clear a0 a1 a2 a3 a4 a5 a6 a7 a8 b0 b1 b2 b3 b4 b5 b6 b7 b8 c0
          replace hB := below_next hB bb
          clear bb
          obtain ⟨x1, x2, x3⟩ := punhide HX _ hB
          obtain ⟨a0, a1, a2, a3, a4, a5, a6, a7, a8⟩ : _ ∧ _ ∧ _ ∧ _ ∧ _ ∧ _ ∧ _ ∧ _ ∧ _ := ⟨x1.cell 0, x1.cell 1, x1.cell 2, x1.cell 3, x1.cell 4, x1.cell 5, x1.cell 6, x1.cell 7, x1.cell 8⟩
          obtain ⟨b0, b1, b2, b3, b4, b5, b6, b7, b8⟩ : _ ∧ _ ∧ _ ∧ _ ∧ _ ∧ _ ∧ _ ∧ _ ∧ _ := ⟨x2.cell 0, x2.cell 1, x2.cell 2, x2.cell 3, x2.cell 4, x2.cell 5, x2.cell 6, x2.cell 7, x2.cell 8⟩
          have c0 := x3.cell 0
          clear x1 x2 x3
          cases b with
          | false =>
            go_wp2_with fail
            go_ret
            exact ⟨by rw [← punhide HQ3, punhide HEQ]; rfl, punhide HBW _ hB⟩
          | true =>
            obtain ⟨bq, hb2⟩ : ∃ bq, rowsB (likeB (hidU cl) n) l l' = bq := ⟨_, rfl⟩
            have HQ4 : Hid (q = bq) := phide (by rw [← punhide HQ3, punhide HEQ, hb2]; rfl)
            have HCG := phide (fun W hW => punhide HCF W bq hW hb2)
            clear hb2 HCF
            go_wp2_with fail
            refine (punhide HCG _ hB).mono ?_
            rintro e9 w7 ⟨rfl, bb⟩
            clear a0 a1 a2 a3 a4 a5 a6 a7 a8 b0 b1 b2 b3 b4 b5 b6 b7 b8 c0
            replace hB := below_next hB bb
            clear bb
            go_wp2_with fail
            go_ret
            exact ⟨by rw [punhide HQ4]; rfl, punhide HBW _ hB⟩
        all_goals
          go_ret
          exact ⟨by rw [← punhide HQ3, hdB_no (by first | exact .inl (by assumption) | exact .inr (.inl (by assumption)) | exact .inr (.inr (.inl (by assumption))) | exact .inr (.inr (.inr (.inl (by assumption)))) | exact .inr (.inr (.inr (.inr (.inl (by assumption))))) | exact .inr (.inr (.inr (.inr (.inr (.inl (by assumption)))))) | exact .inr (.inr (.inr (.inr (.inr (.inr (by assumption)))))))]; rfl, punhide HBW _ hB⟩
end Go.Proofs.YtppkknmgdahniaaDoor.Pol
