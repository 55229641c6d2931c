/- What is proved here: cmp.Compare of ints, and what the statements' own null and one answer. What is proved here: what package tree's Cmp answers of values of two kinds, and of lists; May of null. What is proved here: what package tree's May answers of null. -/
import Derived.Test.YtigpfbfkdccdaaaDoorKp
import Derived.Deep.LoopGhost
namespace Go.Proofs.YtigpfbfkdccdaaaDoor
open Go.RowKit
set_option linter.unusedVariables false
set_option linter.unusedSimpArgs false

theorem null_any (w : World) : Calls Tryd.prog 12 #[] w fun e w' => e = .returned (.agg #[.int .i64 1, .int .u64 0, .bool false, .string ⟨#[]⟩, .int .i64 0, .string ⟨#[]⟩, .slice none 0 0, .slice none 0 0, .int .i64 0]) ∧ Below w.heap.size w w' := by
  go_enter Tryd.func12, Tryd.ntmps12
  go_wp2_with fail
  refine bodyPost_ret (v := .agg #[.int .i64 1, .int .u64 0, .bool false, .string ⟨#[]⟩, .int .i64 0, .string ⟨#[]⟩, .slice none 0 0, .slice none 0 0, .int .i64 0]) (by simp [results, Tryd.results12, go_sem]) rfl ⟨rfl, (Below.refl _ _).alloc (Nat.le_refl _) _⟩
theorem one_any (w : World) : Calls Tryd.prog 33 #[] w fun e w' => e = .returned (.agg #[.int .i64 4, .int .u64 0, .bool false, .string ⟨#[49]⟩, .int .i64 0, .string ⟨#[]⟩, .slice none 0 0, .slice none 0 0, .int .i64 0]) ∧ Below w.heap.size w w' := by
  go_enter Tryd.func33, Tryd.ntmps33
  go_wp2_with fail
  refine bodyPost_ret (v := .agg #[.int .i64 4, .int .u64 0, .bool false, .string ⟨#[49]⟩, .int .i64 0, .string ⟨#[]⟩, .slice none 0 0, .slice none 0 0, .int .i64 0]) (by simp [results, Tryd.results33, go_sem]) rfl ⟨rfl, (Below.refl _ _).alloc (Nat.le_refl _) _⟩
theorem nan_int (a : Int) (w : World) : Calls Tryd.prog 76 #[.int .i64 a] w fun e w' => e = .returned (.bool false) ∧ w' = w := by
  have h : (a != a) = false := bne_self_eq_false a
  go_enter Tryd.func76, Tryd.ntmps76
  go_wp2
  go_ret
  exact ⟨rfl, rfl⟩
/-- Which one is the lesser. -/
def sgnI (a b : Int) : Int := if a < b then -1 else if b < a then 1 else 0
theorem cmp_int (a b : Int) (w : World) : Calls Tryd.prog 49 #[.int .i64 a, .int .i64 b] w fun e w' => e = .returned (.int .i64 (sgnI a b)) ∧ w' = w := by
  have C := fun x W => nan_int x W
  have HC := khide C
  clear C
  unfold sgnI
  by_cases h1 : a < b
  · rw [if_pos h1]
    go_enter Tryd.func49, Tryd.ntmps49
    go_wp2_with (go_at_call 76; refine (kunhide HC _ _).mono ?_; rintro e W ⟨rfl, rfl⟩)
    go_ret
    exact ⟨rfl, rfl⟩
  · rw [if_neg h1]
    by_cases h2 : b < a
    · rw [if_pos h2]
      go_enter Tryd.func49, Tryd.ntmps49
      go_wp2_with (go_at_call 76; refine (kunhide HC _ _).mono ?_; rintro e W ⟨rfl, rfl⟩)
      go_ret
      exact ⟨rfl, rfl⟩
    · rw [if_neg h2]
      go_enter Tryd.func49, Tryd.ntmps49
      go_wp2_with (go_at_call 76; refine (kunhide HC _ _).mono ?_; rintro e W ⟨rfl, rfl⟩)
      go_ret
      exact ⟨rfl, rfl⟩
/-- Rows, one against the other. -/
def rowsI (f : Tr → Tr → Int) : List Tr → List Tr → Int
  | [], [] => 0
  | [], _ :: _ => -1
  | _ :: _, [] => 1
  | a :: r, b :: s => if f a b = 0 then rowsI f r s else f a b
theorem rowsI_same (f : Tr → Tr → Int) : ∀ (l m : List Tr) (k : Nat), (∀ i, ∀ h1 : i < l.length, ∀ h2 : i < m.length, i < k → f (l[i]'h1) (m[i]'h2) = 0) → k ≤ l.length → k ≤ m.length → rowsI f l m = rowsI f (l.drop k) (m.drop k)
  | _, _, 0, _, _, _ => rfl
  | [], _, k + 1, _, h, _ => absurd h (by simp)
  | _ :: _, [], k + 1, _, _, h => absurd h (by simp)
  | a :: r, b :: s, k + 1, h, h1, h2 => by
    show (if f a b = 0 then rowsI f r s else f a b) = _
    rw [if_pos (show f a b = 0 from h 0 (by simp) (by simp) (by omega))]
    exact rowsI_same f r s k (fun i j1 j2 hi => h (i + 1) (by simpa using j1) (by simpa using j2) (by omega)) (by simpa using h1) (by simpa using h2)
theorem rowsI_at (f : Tr → Tr → Int) (l m : List Tr) (k : Nat) (hs : rowsI f l m = rowsI f (l.drop k) (m.drop k)) (h1 : k < l.length) (h2 : k < m.length) :
    (f (l[k]'h1) (m[k]'h2) = 0 → rowsI f l m = rowsI f (l.drop (k + 1)) (m.drop (k + 1))) ∧ (f (l[k]'h1) (m[k]'h2) ≠ 0 → rowsI f l m = f (l[k]'h1) (m[k]'h2)) := by
  rw [hs, List.drop_eq_getElem_cons h1, List.drop_eq_getElem_cons h2]
  exact ⟨fun e => if_pos e, fun e => if_neg e⟩
theorem rowsI_left (f : Tr → Tr → Int) (l m : List Tr) (k : Nat) (hs : rowsI f l m = rowsI f (l.drop k) (m.drop k)) (h1 : k = l.length) : rowsI f l m = if l.length < m.length then -1 else 0 := by
  rw [hs, List.drop_eq_nil_of_le (by omega)]
  by_cases h : l.length < m.length
  · rw [if_pos h, List.drop_eq_getElem_cons (show k < m.length by omega)]
    rfl
  · rw [if_neg h, List.drop_eq_nil_of_le (by omega)]
    rfl
theorem rowsI_right (f : Tr → Tr → Int) (l m : List Tr) (k : Nat) (hs : rowsI f l m = rowsI f (l.drop k) (m.drop k)) (h1 : k < l.length) (h2 : m.length ≤ k) : rowsI f l m = 1 := by
  rw [hs, List.drop_eq_getElem_cons h1, List.drop_eq_nil_of_le h2]
  rfl

set_option maxHeartbeats 2000000 in
set_option maxRecDepth 1000000 in
theorem comparefunc_any (f : Tr → Tr → Int) (ok ok' : Nat → Prop) (n : Nat) (v v' : Value) (l m : List Tr) (w : World) (h1 : KidsIn ok (Lies ok w n) w v l) (h2 : KidsIn ok' (Lies ok' w n) w v' m) (hl : l.length ≤ 1000000) (hm : m.length ≤ 1000000)
    (C : ∀ a b t u W, t ∈ l → u ∈ m → Lies ok W n a t → Lies ok' W n b u → Calls Tryd.prog 20 #[a, b] W fun e W' => e = .returned (.int .i64 (f t u)) ∧ Below W.heap.size W W') :
    Calls Tryd.prog 52 #[v, v', .func (Fn.func 20) #[] #[]] w fun e w' => e = .returned (.int .i64 (rowsI f l m)) ∧ Below w.heap.size w w' := by
  obtain ⟨a, ac, rfl, _, hka⟩ := h1
  obtain ⟨b, bc, rfl, _, hkb⟩ := h2
  have HC := khide C
  have HKA := khide hka
  have HKB := khide hkb
  clear C hka hkb
  go_enter Tryd.func52, Tryd.ntmps52
  go_wp2_with fail
  go_loopg [13] l.length (fun g i wr => ∃ k : Nat, i = .int .i64 (k : Int) ∧ k + g = l.length ∧ k ≤ m.length ∧ rowsI f l m = rowsI f (l.drop k) (m.drop k) ∧ Below w.heap.size w wr)
  case atStart => exact ⟨0, rfl, by omega, by omega, rfl, Below.refl _ _⟩
  case round =>
    obtain ⟨k, rfl, hkg, hkm, hs, hB⟩ := hrel
    by_cases hlt : k < l.length
    · obtain ⟨b1, o1, hd1, ka1, kn1, kc1, da1, dn1, dc1, hao, hb1, ⟨c0, c1, c2, c3, c4, c5, c6, c7, c8⟩, hl1⟩ := kid_at (kunhide HKA) hB k hlt
      subst hao
      have e1 : (k : Int) < (l.length : Int) := by omega
      by_cases hlm : k < m.length
      · obtain ⟨b2, o2, hd2, ka2, kn2, kc2, da2, dn2, dc2, hao, hb2, ⟨x0, x1, x2, x3, x4, x5, x6, x7, x8⟩, hl2⟩ := kid_at (kunhide HKB) hB k hlm
        subst hao
        have hb2' : b2 < wr.heap.size := Nat.lt_of_lt_of_le hb2 hB.size
        have e2 : ¬ (m.length : Int) ≤ (k : Int) := by omega
        have e3 : (k : Int) < (m.length : Int) := by omega
        obtain ⟨r1, r2⟩ := rowsI_at f l m k hs hlt hlm
        have CC := fun W (hW : Below wr.heap.size wr W) => kunhide HC _ _ _ _ W (List.getElem_mem hlt) (List.getElem_mem hlm) (hl1.below hW) (hl2.below hW)
        obtain ⟨z, hz⟩ : ∃ z, f (l[k]'hlt) (m[k]'hlm) = z := ⟨_, rfl⟩
        rw [hz] at r1 r2 CC
        have HR := khide (And.intro r1 r2)
        have HCC := khide CC
        have HB := khide hB
        clear r1 r2 CC hz hs hl1 hl2 hB
        by_cases hz0 : z = 0
        · subst hz0
          go_wp2_with fail
          refine (kunhide HCC _ (((Below.refl _ wr).alloc (Nat.le_refl _) _).alloc (by simp) _)).mono ?_
          rintro e W ⟨rfl, hbw⟩
          have HB2 := khide (below_next (((kunhide HB).alloc (kunhide HB).size _).alloc (by have := (kunhide HB).size; simp; omega) _) hbw)
          clear hbw
          go_wp2_with fail
          go_roundg (gk - 1)
          case measure => omega
          case rel => exact ⟨k + 1, by go_num, by omega, by omega, (by simpa using (kunhide HR).1), kunhide HB2⟩
        · have hzf : (z != 0) = true := bne_iff_ne.2 hz0
          have HZ := khide hz0
          clear hz0
          go_wp2_with fail
          refine (kunhide HCC _ (((Below.refl _ wr).alloc (Nat.le_refl _) _).alloc (by simp) _)).mono ?_
          rintro e W ⟨rfl, hbw⟩
          have HB2 := khide (below_next (((kunhide HB).alloc (kunhide HB).size _).alloc (by have := (kunhide HB).size; simp; omega) _) hbw)
          clear hbw
          go_wp2_with fail
          go_ret
          exact ⟨by rw [(kunhide HR).2 (kunhide HZ)]; rfl, kunhide HB2⟩
      · have e2 : (m.length : Int) ≤ (k : Int) := by omega
        have HR := khide (rowsI_right f l m k hs hlt (by omega))
        have HB2 := khide (hB.alloc hB.size (.cells #[.int .i64 hd1.k, .int .u64 (hd1.m : Int), .bool hd1.ng, .string hd1.dg, .int .i64 hd1.sc, .string hd1.tx, .slice ka1 kn1 kc1, .slice da1 dn1 dc1, .int .i64 hd1.cd] 33))
        clear hs hl1 hB
        go_wp2_with fail
        go_ret
        exact ⟨by rw [kunhide HR]; rfl, kunhide HB2⟩
    · have e1 : ¬ (k : Int) < (l.length : Int) := by omega
      have hr := rowsI_left f l m k hs (by omega)
      by_cases hlm : l.length < m.length
      · have e2 : (l.length : Int) < (m.length : Int) := by omega
        rw [if_pos hlm] at hr
        have HR := khide hr
        clear hr hs
        go_wp2_with fail
        go_ret
        exact ⟨by rw [kunhide HR]; rfl, hB⟩
      · have e2 : ¬ (l.length : Int) < (m.length : Int) := by omega
        rw [if_neg hlm] at hr
        have HR := khide hr
        clear hr hs
        go_wp2_with fail
        go_ret
        exact ⟨by rw [kunhide HR]; rfl, hB⟩
end Go.Proofs.YtigpfbfkdccdaaaDoor

namespace Go.Proofs.YtigpfbfkdccdaaaDoor
open Go.RowKit
set_option linter.unusedVariables false
set_option linter.unusedSimpArgs false

set_option maxHeartbeats 1000000 in
theorem tcmp_kind (k k' : Int) (hne : k ≠ k') (m m' : Nat) (ng ng' : Bool) (dg dg' : ByteArray) (sc sc' : Int) (tx tx' : ByteArray) (ka ka' : Option Addr) (kn kc kn' kc' : Nat) (da da' : Option Addr) (dn dc dn' dc' : Nat) (cd cd' : Int) (w : World) :
    Calls Tryd.prog 20 #[.agg #[.int .i64 k, .int .u64 (m : Int), .bool ng, .string dg, .int .i64 sc, .string tx, .slice ka kn kc, .slice da dn dc, .int .i64 cd], .agg #[.int .i64 k', .int .u64 (m' : Int), .bool ng', .string dg', .int .i64 sc', .string tx', .slice ka' kn' kc', .slice da' dn' dc', .int .i64 cd']] w
      fun e w' => e = .returned (.int .i64 (sgnI k k')) ∧ Below w.heap.size w w' := by
  have h : (k != k') = true := bne_iff_ne.2 hne
  have C := fun W => cmp_int k k' W
  have HC := khide C
  clear C hne
  go_enter Tryd.func20, Tryd.ntmps20
  go_wp2_with fail
  refine (kunhide HC _).mono ?_
  rintro e W ⟨rfl, rfl⟩
  go_wp2_with fail
  go_ret
  exact ⟨rfl, ((Below.refl _ w).alloc (Nat.le_refl _) _).alloc (by simp) _⟩
set_option maxHeartbeats 1000000 in
theorem tcmp_list (m m' : Nat) (ng ng' : Bool) (dg dg' : ByteArray) (sc sc' : Int) (tx tx' : ByteArray) (ka ka' : Option Addr) (kn kc kn' kc' : Nat) (da da' : Option Addr) (dn dc dn' dc' : Nat) (cd cd' : Int) (w : World) (z : Int)
    (C : ∀ W, Below w.heap.size w W → Calls Tryd.prog 52 #[.slice da dn dc, .slice da' dn' dc', .func (Fn.func 20) #[] #[]] W fun e w' => e = .returned (.int .i64 z) ∧ Below W.heap.size W w') :
    Calls Tryd.prog 20 #[.agg #[.int .i64 6, .int .u64 (m : Int), .bool ng, .string dg, .int .i64 sc, .string tx, .slice ka kn kc, .slice da dn dc, .int .i64 cd], .agg #[.int .i64 6, .int .u64 (m' : Int), .bool ng', .string dg', .int .i64 sc', .string tx', .slice ka' kn' kc', .slice da' dn' dc', .int .i64 cd']] w
      fun e w' => e = .returned (.int .i64 z) ∧ Below w.heap.size w w' := by
  have HC := khide C
  clear C
  go_enter Tryd.func20, Tryd.ntmps20
  go_wp2_with fail
  refine (kunhide HC _ (((Below.refl _ w).alloc (Nat.le_refl _) _).alloc (by simp) _)).mono ?_
  rintro e W ⟨rfl, hb⟩
  have HB := khide (below_next (((Below.refl _ w).alloc (Nat.le_refl _) _).alloc (by simp) _) hb)
  clear hb
  go_wp2_with fail
  go_ret
  exact ⟨rfl, kunhide HB⟩
end Go.Proofs.YtigpfbfkdccdaaaDoor

namespace Go.Proofs.YtigpfbfkdccdaaaDoor
open Go.RowKit
set_option linter.unusedVariables false
set_option linter.unusedSimpArgs false

theorem own_null (w : World) : Calls Tryd.prog 38 #[.agg #[.int .i64 1, .int .u64 0, .bool false, .string ⟨#[]⟩, .int .i64 0, .string ⟨#[]⟩, .slice none 0 0, .slice none 0 0, .int .i64 0]] w fun e w' => e = .returned (.bool true) ∧ Below w.heap.size w w' := by
  go_enter Tryd.func38, Tryd.ntmps38
  go_wp2_with fail
  go_ret
  exact ⟨rfl, (Below.refl _ w).alloc (Nat.le_refl _) _⟩
theorem rows_null (w : World) : Calls Tryd.prog 39 #[.agg #[.int .i64 1, .int .u64 0, .bool false, .string ⟨#[]⟩, .int .i64 0, .string ⟨#[]⟩, .slice none 0 0, .slice none 0 0, .int .i64 0]] w fun e w' => e = .returned (.bool true) ∧ Below w.heap.size w w' := by
  go_enter Tryd.func39, Tryd.ntmps39
  go_wp2_with fail
  go_ret
  exact ⟨rfl, (Below.refl _ w).alloc (Nat.le_refl _) _⟩
theorem index_nil (w : World) : Calls Tryd.prog 74 #[.slice none 0 0, .func (Fn.func 41) #[] #[]] w fun e w' => e = .returned (.int .i64 (-1)) ∧ Below w.heap.size w w' := by
  go_enter Tryd.func74, Tryd.ntmps74
  go_wp2_with fail
  go_loopg [8] 1 (fun g i wr => i = .int .i64 0 ∧ wr = w)
  case atStart => exact ⟨rfl, rfl⟩
  case round =>
    obtain ⟨rfl, rfl⟩ := hrel
    go_wp2_with fail
    go_ret
    exact ⟨rfl, Below.refl _ _⟩
theorem contains_nil (w : World) : Calls Tryd.prog 40 #[.slice none 0 0, .func (Fn.func 41) #[] #[]] w fun e w' => e = .returned (.bool false) ∧ Below w.heap.size w w' := by
  have HC := khide (fun W => index_nil W)
  go_enter Tryd.func40, Tryd.ntmps40
  go_wp2_with fail
  refine (kunhide HC _).mono ?_
  rintro e W ⟨rfl, hb⟩
  go_wp2_with fail
  go_ret
  exact ⟨rfl, hb⟩
theorem may_null (w : World) : Calls Tryd.prog 13 #[.agg #[.int .i64 1, .int .u64 0, .bool false, .string ⟨#[]⟩, .int .i64 0, .string ⟨#[]⟩, .slice none 0 0, .slice none 0 0, .int .i64 0]] w fun e w' => e = .returned (.bool true) ∧ Below w.heap.size w w' := by
  have H1 := khide (fun W => own_null W)
  have H2 := khide (fun W => rows_null W)
  have H3 := khide (fun W => contains_nil W)
  go_enter Tryd.func13, Tryd.ntmps13
  go_wp2_with fail
  refine (kunhide H1 _).mono ?_
  rintro e W1 ⟨rfl, hb1⟩
  have q1 := (Box.new w #[.int .i64 1, .int .u64 0, .bool false, .string ⟨#[]⟩, .int .i64 0, .string ⟨#[]⟩, .slice none 0 0, .slice none 0 0, .int .i64 0] 33).kept (ok := anyB) (Kept.of_below hb1) trivial
  obtain ⟨b1, f1, z1⟩ := id q1
  go_wp2_with fail
  refine (kunhide H2 _).mono ?_
  rintro e W2 ⟨rfl, hb2⟩
  have q2 := q1.kept (ok := anyB) (Kept.of_below hb2) trivial
  clear b1 f1 z1
  obtain ⟨b1, f1, z1⟩ := id q2
  go_wp2_with fail
  refine (kunhide H3 _).mono ?_
  rintro e W3 ⟨rfl, hb3⟩
  go_wp2_with fail
  go_ret
  exact ⟨rfl, below_next (below_next (below_next ((Below.refl _ w).alloc (Nat.le_refl _) _) hb1) hb2) hb3⟩
end Go.Proofs.YtigpfbfkdccdaaaDoor
