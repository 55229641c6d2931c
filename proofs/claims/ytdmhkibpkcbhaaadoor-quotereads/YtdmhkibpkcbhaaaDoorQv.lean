/- What is proved here: what the document's own Valid and Parts answer, walked; condition: the text has at most 2^40 bytes. -/
import Derived.Test.YtdmhkibpkcbhaaaDoorQr
import Derived.OwnWalk
namespace Go.Proofs.YtdmhkibpkcbhaaaDoor
open Go.RowKit
set_option linter.unusedVariables false
set_option linter.unusedSimpArgs false

/-- The rune at a place of the text. -/
theorem rune_at (s : ByteArray) (p : Nat) (hp : p < s.size) : ∃ rx rn, Qm.runeV (s.data.toList.drop p) = (rx, rn) ∧ s.data.toList.drop p ≠ [] ∧ (Lib.decodeL (s.data.toList.drop p)).2 = max rn 1 ∧ p + max rn 1 ≤ s.size ∧
    Lib.validD (s.data.toList.drop p) = (if rn = 0 then false else Lib.validD (s.data.toList.drop (p + max rn 1))) := by
  have hne : s.data.toList.drop p ≠ [] := by
    intro h0
    have := congrArg List.length h0
    rw [List.length_drop, ← Lib.size_eq] at this
    simp at this
    omega
  have hm := Qm.runeV_max (s.data.toList.drop p)
  have hle := Lib.decodeL_le _ hne
  rw [List.length_drop, ← Lib.size_eq] at hle
  obtain ⟨rx, rn, hr⟩ : ∃ rx rn, Qm.runeV (s.data.toList.drop p) = (rx, rn) := ⟨_, _, rfl⟩
  have hm2 : (Lib.decodeL (s.data.toList.drop p)).2 = max rn 1 := by rw [← hm, hr]
  refine ⟨rx, rn, hr, hne, hm2, by omega, ?_⟩
  rcases Qm.runeV_width (s.data.toList.drop p) with ⟨h1, h2, _, _⟩ | ⟨h1, h2, _⟩
  · rw [hr] at h1
    rw [Lib.validD_step _ hne, if_pos (show rn = 0 from h1), if_pos (Classical.not_not.1 h2)]
  · rw [hr] at h1
    dsimp only at h1
    rw [Lib.validD_step _ hne, if_neg (show ¬ rn = 0 by omega), if_neg h2, List.drop_drop, hm2]

set_option maxHeartbeats 4000000 in
set_option maxRecDepth 1000000 in
theorem ref_valid (s : ByteArray) (hs : s.size ≤ 1099511627776) (b : Bool) (hb : Lib.validD s.data.toList = b) (w : World) :
    Calls Tryd.prog 9 #[.string s] w fun e w' => e = .returned (.bool b) ∧ w' = w := by
  have HS := rhide hs
  clear hs
  go_enter Tryd.func9, Tryd.ntmps9
  go_wp2
  go_loop [3] (fun a => ∃ p : Nat, a = .int .i64 (p : Int) ∧ p ≤ s.size ∧ Lib.validD (s.data.toList.drop p) = b) (fun a => s.size - (intOf a).toNat)
  case atStart => exact ⟨0, rfl, by omega, by rw [List.drop_zero]; exact hb⟩
  case round =>
    obtain ⟨p, rfl, hp, hv⟩ := hrel
    by_cases hlt : p < s.size
    · obtain ⟨rx, rn, hr, hne, hd, hle, hvv⟩ := rune_at s p hlt
      rw [hv] at hvv
      clear hb hv hp hd
      by_cases h0 : rn = 0
      · subst h0
        rw [if_pos rfl] at hvv
        subst hvv
        go_wp2_with fail
        refine (ref_rune s p hlt (runhide HS) rx 0 hr _).mono ?_
        rintro e W ⟨rfl, rfl⟩
        go_wp2
        go_ret
        exact ⟨rfl, rfl⟩
      · rw [if_neg h0] at hvv
        have hm : max rn 1 = rn := by omega
        rw [hm] at hvv hle
        have w1 : IntKind.i64.wrap ((p : Int) + (rn : Int)) = ((p + rn : Nat) : Int) := by have := runhide HS; rw [IntKind.wrap_i64]; omega
        have t1 : ¬ (rn : Int) = 0 := by omega
        have HLE := rhide hle
        clear hm hle
        go_wp2_with fail
        refine (ref_rune s p hlt (runhide HS) rx rn hr _).mono ?_
        rintro e W ⟨rfl, rfl⟩
        go_wp2
        go_round
        case rel => exact ⟨p + rn, rfl, runhide HLE, hvv.symm⟩
        case measure => simp [intOf]; omega
    · have hv2 : b = true := by
        rw [← hv, List.drop_eq_nil_of_le (by rw [← Lib.size_eq]; omega)]
        rfl
      subst hv2
      clear hv hb hp
      go_wp2
      go_ret
      exact ⟨rfl, rfl⟩

theorem bytes_eqR {a b : ByteArray} (h : a.data.toList = b.data.toList) : a = b := by
  cases a; cases b
  congr 1
  exact Array.toList_inj.1 h
/-- A text as a value. -/
def strV (x : List UInt8) : Value := .string ⟨x.toArray⟩
theorem one_cell (W : World) (v : Value) (t : TypeId) : ∀ j u, [v][j]? = some u → (W.alloc (.cells #[v] t)).cell? ((⟨W.heap.size, 0, none⟩ : Addr).add j) = some u := by
  intro j u hj
  match j, hj with
  | 0, hj => simp at hj; subst hj; simp [Addr.add]
theorem alloc_le {w W : World} (hB : Below w.heap.size w W) (o : Obj) : w.heap.size ≤ (W.alloc o).heap.size := by have := hB.size; simp; omega
theorem one_one (v : Value) (h : v.oneCell' = true) : ∀ u ∈ [v], u.oneCell' = true := by
  intro u hu
  simp at hu
  subst hu
  exact h
theorem info_str : (Tryd.prog.info? 9).map (fun i => (i.zero, i.size, i.bytes)) = some (some (.string ⟨#[]⟩), 1, 16) := by kernel_rfl

set_option maxHeartbeats 4000000 in
set_option maxRecDepth 1000000 in
theorem ref_parts (s : ByteArray) (hs : s.size ≤ 1099511627776) (w : World) :
    Calls Tryd.prog 12 #[.string s] w fun e w' => ∃ v, e = .returned v ∧ w'.ownsRow w.heap.size 9 1 v (Qm.pc s.data.toList).length ((Qm.pc s.data.toList).map strV) ∧ Below w.heap.size w w' := by
  have HS := rhide hs
  have hpl := (Qm.pc_le s.data.toList).1
  rw [← Lib.size_eq] at hpl
  have HPL := rhide hpl
  obtain ⟨i0, hi, hz0, hz1, hz2⟩ := info_parts info_str
  clear hs hpl
  go_enter Tryd.func12, Tryd.ntmps12
  go_wp2
  go_loopw [3, 4] (fun v a wr => ∃ (p : Nat) (xs : List (List UInt8)), a = .int .i64 (p : Int) ∧ p ≤ s.size ∧ wr.ownsRow w.heap.size 9 1 v xs.length (xs.map strV) ∧ Below w.heap.size w wr ∧ xs ++ Qm.pc (s.data.toList.drop p) = Qm.pc s.data.toList) (fun _ a _ => s.size - (intOf a).toNat)
  case atStart =>
    refine ⟨0, [], rfl, by omega, ?_, (Below.refl _ w).alloc (Nat.le_refl _) _, by rw [List.drop_zero, List.nil_append]⟩
    exact World.ownsRow_made w #[] 0 (Nat.le_refl _) (by decide) rfl
  case round =>
    obtain ⟨p, xs, rfl, hp, hown, hB, hx⟩ := hrel
    by_cases hlt : p < s.size
    · obtain ⟨rx, rn, hr, hne, hd, hle, hvv⟩ := rune_at s p hlt
      have hst := Qm.pc_step _ hne
      rw [hd, List.drop_drop] at hst
      obtain ⟨m, hm⟩ : ∃ m, max rn 1 = m := ⟨_, rfl⟩
      rw [hm] at hle hst
      obtain ⟨q, hq⟩ : ∃ q, p + m = q := ⟨_, rfl⟩
      rw [hq] at hle hst
      obtain ⟨t, ht⟩ : ∃ t, s.extract p q = t := ⟨_, rfl⟩
      have htl : (s.data.toList.drop p).take m = t.data.toList := by rw [← ht, Lib.extract_data, ← hq, Nat.add_sub_cancel_left]
      have w1 : IntKind.i64.wrap ((p : Int) + (m : Int)) = (q : Int) := by have := runhide HS; rw [IntKind.wrap_i64]; omega
      have l1 : p ≤ q := by omega
      have hlen := congrArg List.length hx
      rw [List.length_append] at hlen
      have hxn : xs.length + 1 ≤ 1099511627776 := by
        have h1 := runhide HS
        have h2 := runhide HPL
        have h3 := congrArg List.length hst
        rw [List.length_cons] at h3
        omega
      have HXN := rhide hxn
      have HX := rhide hx
      have HST := rhide hst
      clear hx hst hxn hlen hvv hd hne hp
      by_cases h0 : rn < 1
      · have e0 : rn = 0 := by omega
        have e1 : m = 1 := by omega
        subst e0; subst e1
        replace w1 : IntKind.i64.wrap ((p : Int) + 1) = (q : Int) := w1
        clear hm h0
        go_wp2_with fail
        refine (ref_rune s p hlt (runhide HS) rx 0 hr _).mono ?_
        rintro e W ⟨rfl, rfl⟩
        go_wp2_with (at_builtin; refine wpList_append_own _ rfl _ _ 29 rfl w.heap.size 9 i0 (.string ⟨#[]⟩) 1 16 Tryd.underlying29 hi hz0 hz1 hz2 rfl (by decide) _ _ _ rfl (hown.alloc _) ⟨W.heap.size, 0, none⟩ 1 1 [.string t] rfl rfl (one_cell _ _ _) (one_one _ rfl) (by have := runhide HXN; unfold maxLen; omega) (by have := runhide HXN; omega) (alloc_le hB _) ?_)
        intro v' w1 hown' hgrow _
        have hB1 : Below w.heap.size w w1 := (hB.alloc hB.size _).grown hgrow (alloc_le hB _) (fun j hj => (hown.lt j hj).1)
        have hx' := runhide HX
        rw [runhide HST, htl] at hx'
        have hown2 : w1.ownsRow w.heap.size 9 1 v' (xs ++ [t.data.toList]).length ((xs ++ [t.data.toList]).map strV) := by
          rw [List.length_append, List.map_append]
          exact hown'
        clear hown' hgrow hown hB HX HST htl hr
        go_wp2
        go_roundw
        case rel => exact ⟨q, xs ++ [t.data.toList], rfl, hle, hown2, hB1, by rw [List.append_assoc]; exact hx'⟩
        case measure => simp [intOf]; omega
      · have e1 : m = rn := by omega
        subst e1
        have t1 : ¬ (m : Int) < 1 := by omega
        clear hm h0
        go_wp2_with fail
        refine (ref_rune s p hlt (runhide HS) rx m hr _).mono ?_
        rintro e W ⟨rfl, rfl⟩
        go_wp2_with (at_builtin; refine wpList_append_own _ rfl _ _ 29 rfl w.heap.size 9 i0 (.string ⟨#[]⟩) 1 16 Tryd.underlying29 hi hz0 hz1 hz2 rfl (by decide) _ _ _ rfl (hown.alloc _) ⟨W.heap.size, 0, none⟩ 1 1 [.string t] rfl rfl (one_cell _ _ _) (one_one _ rfl) (by have := runhide HXN; unfold maxLen; omega) (by have := runhide HXN; omega) (alloc_le hB _) ?_)
        intro v' w1 hown' hgrow _
        have hB1 : Below w.heap.size w w1 := (hB.alloc hB.size _).grown hgrow (alloc_le hB _) (fun j hj => (hown.lt j hj).1)
        have hx' := runhide HX
        rw [runhide HST, htl] at hx'
        have hown2 : w1.ownsRow w.heap.size 9 1 v' (xs ++ [t.data.toList]).length ((xs ++ [t.data.toList]).map strV) := by
          rw [List.length_append, List.map_append]
          exact hown'
        clear hown' hgrow hown hB HX HST htl hr
        go_wp2
        go_roundw
        case rel => exact ⟨q, xs ++ [t.data.toList], rfl, hle, hown2, hB1, by rw [List.append_assoc]; exact hx'⟩
        case measure => simp [intOf]; omega
    · have hx2 : xs = Qm.pc s.data.toList := by
        rw [← hx, List.drop_eq_nil_of_le (by rw [← Lib.size_eq]; omega), Qm.pc_nil, List.append_nil]
      subst hx2
      clear hx hp
      go_wp2
      go_ret
      exact ⟨_, rfl, hown, hB⟩
end Go.Proofs.YtdmhkibpkcbhaaaDoor
