/- What is proved here: what the document's own Unquote answers, and the law QuoteReads, walked; conditions: the tables of unicode/utf8 lie in the world. -/
import Derived.Test.YtdmhkibpkcbhaaaDoorQ1
import Derived.Test.YtdmhkibpkcbhaaaDoorQh
namespace Go.Proofs.YtdmhkibpkcbhaaaDoor
open Go.RowKit
set_option linter.unusedVariables false
set_option linter.unusedSimpArgs false

/-- What Unquote tells, when so much is held and the rest is still to be read. -/
def endU (o : List UInt8) (m : Nat) (r : Option (List UInt8 × Nat)) : List UInt8 × Nat × Nat :=
  match r with
  | none => ([], 0, 6)
  | some (t, k) => if 4096 < (o ++ t).length then ([], 0, 3) else (o ++ t, m + k, 0)
theorem unquoteL_start (l : List UInt8) (h : l.getD 0 0 = 34) : Qm.unquoteL l = endU [] 1 (Qm.unq (l.drop 1)) := by
  unfold Qm.unquoteL endU
  rw [if_pos h]
  cases Qm.unq (l.drop 1) with
  | none => rfl
  | some p => dsimp only; rw [List.nil_append, Nat.add_comm]
theorem unquoteL_not (l : List UInt8) (h : l.getD 0 0 ≠ 34) : Qm.unquoteL l = ([], 0, 6) := by
  unfold Qm.unquoteL
  rw [if_neg h]
theorem unquoteL_nil : Qm.unquoteL [] = ([], 0, 6) := unquoteL_not [] (by simp)
theorem endU_step (o : List UInt8) (m : Nat) (l : List UInt8) (h : l.getD 0 0 ≠ 34) {r k : Nat} (hx : Qm.nextL l = some (r, k)) : endU o m (Qm.unq l) = endU (o ++ Lib.encodeRune (r : Int)) (m + k) (Qm.unq (l.drop k)) := by
  rw [Qm.unq_step l h hx]
  unfold endU
  cases Qm.unq (l.drop k) with
  | none => rfl
  | some p => dsimp only; rw [List.append_assoc, Nat.add_assoc]
theorem endU_none (o : List UInt8) (m : Nat) (l : List UInt8) (h : l.getD 0 0 ≠ 34) (hx : Qm.nextL l = none) : endU o m (Qm.unq l) = ([], 0, 6) := by
  rw [Qm.unq_none l h hx]
  rfl
theorem endU_quote (o : List UInt8) (m : Nat) (l : List UInt8) (h : l.getD 0 0 = 34) : endU o m (Qm.unq l) = if 4096 < o.length then ([], 0, 3) else (o, m + 1, 0) := by
  rw [Qm.unq_end l h]
  unfold endU
  dsimp only
  rw [List.append_nil]
theorem endU_nil (o : List UInt8) (m : Nat) : endU o m (Qm.unq []) = ([], 0, 6) := rfl
theorem head_at (s : ByteArray) (p : Nat) (h : p < s.size) : (s.data.toList.drop p).getD 0 0 = s[p]'h := by
  rw [drop_cons_at s p h]
  rfl
theorem tri_in {u : ByteArray} {l : List UInt8} {n m e f : Nat} (h : (l, m, e) = (u.data.toList, n, f)) : l = u.data.toList ∧ n = m ∧ f = e := by
  obtain ⟨h1, h2⟩ := Prod.mk.inj h
  obtain ⟨h3, h4⟩ := Prod.mk.inj h2
  exact ⟨h1, h3.symm, h4.symm⟩
theorem nextL_rune (l : List UInt8) (hne : l ≠ []) (h : l.getD 0 0 ≠ 92) : Qm.nextL l = if (Qm.runeV l).2 = 0 ∨ (Qm.runeV l).1 < 32 then none else some (Qm.runeV l) := by
  unfold Qm.nextL
  rw [if_neg hne, if_neg h]
  have hw := Lib.decodeL_width l
  rcases Qm.runeV_width l with ⟨h1, h2, h3, h4⟩ | ⟨h1, h2, h3⟩
  · have g : (Lib.decodeL l).1 = 65533 ∧ (Lib.decodeL l).2 = 1 := Classical.not_not.1 h2
    rw [if_pos (.inr ⟨g.1, by omega⟩), if_pos (.inl h1)]
  · rw [h3]
    unfold Qm.good at h2
    by_cases g : (Lib.decodeL l).1 < 32
    · rw [if_pos (.inl g), if_pos (.inr g)]
    · rw [if_neg (by omega), if_neg (by rw [h3] at h1; omega)]

theorem esc_two (l : List UInt8) {r k : Nat} (h : Qm.nextL l = some (r, k)) (hc : l.getD 0 0 = 92) : 2 ≤ k := by
  have hne : l ≠ [] := by intro e; rw [e] at h; cases h
  unfold Qm.nextL at h
  rw [if_neg hne, if_pos hc] at h
  by_cases g : l.length < 2
  · rw [if_pos g] at h; cases h
  rw [if_neg g] at h
  cases he : Qm.escL (l.getD 1 0).toNat with
  | some x => rw [he] at h; cases h; exact Nat.le_refl _
  | none =>
    rw [he] at h
    dsimp only at h
    unfold Qm.numL at h
    cases ha : Qm.unitL l with
    | none => rw [ha] at h; cases h
    | some a =>
      rw [ha] at h
      dsimp only at h
      by_cases g2 : a < 55296 ∨ 57344 ≤ a
      · rw [if_pos g2] at h; cases h; omega
      · rw [if_neg g2] at h
        cases hb : Qm.unitL (l.drop 6) with
        | none => rw [hb] at h; cases h
        | some b =>
          rw [hb] at h
          dsimp only at h
          by_cases g3 : a < 56320 ∧ 56320 ≤ b ∧ b < 57344
          · rw [if_pos g3] at h
            have e2 := congrArg Prod.snd (Option.some.inj h)
            dsimp only at e2
            omega
          · rw [if_neg g3] at h; cases h
theorem below_two {w W W' : World} (hB : Below w.heap.size w W) (b2 : Below W.heap.size W W') : Below w.heap.size w W' := hB.trans (b2.mono hB.size)

set_option maxHeartbeats 4000000 in
set_option maxRecDepth 1000000 in
theorem ref_unquote (s : ByteArray) (hs : s.size ≤ 1000000) (u : ByteArray) (n e : Nat) (hu : Qm.unquoteL s.data.toList = (u.data.toList, n, e)) (w : World) :
    Calls Tryd.prog 8 #[.string s] w fun r w' => r = .returned (.tuple #[.string u, .int .i64 (n : Int), .int .i64 (e : Int)]) ∧ Below w.heap.size w w' := by
  by_cases h0 : 0 < s.size
  case neg =>
    have hnil : s.data.toList = [] := List.eq_nil_of_length_eq_zero (by rw [← Lib.size_eq]; omega)
    rw [hnil, unquoteL_nil] at hu
    clear hnil
    obtain ⟨g, rfl, rfl⟩ := tri_in hu
    obtain rfl : u = ⟨#[]⟩ := bytes_eqR g.symm
    have e1 : ((s.size : Int) == 0) = true := beq_iff_eq.2 (by omega)
    clear hu g h0 hs
    go_enter Tryd.func8, Tryd.ntmps8
    go_wp2
    go_ret3
    exact ⟨rfl, Below.refl _ _⟩
  have e1 : ((s.size : Int) == 0) = false := beq_eq_false_iff_ne.2 (by omega)
  have hd0 := head_at s 0 h0
  rw [List.drop_zero] at hd0
  by_cases c0 : (s[0]'h0).toNat = 34
  case neg =>
    rw [unquoteL_not _ (by rw [hd0]; intro g; rw [g] at c0; exact c0 rfl)] at hu
    obtain ⟨g, rfl, rfl⟩ := tri_in hu
    obtain rfl : u = ⟨#[]⟩ := bytes_eqR g.symm
    have e2 : (((s[0]'h0).toNat : Int) == 34) = false := beq_eq_false_iff_ne.2 (by omega)
    clear hu g hs hd0 c0
    go_enter Tryd.func8, Tryd.ntmps8
    go_wp2
    go_ret3
    exact ⟨rfl, Below.refl _ _⟩
  rw [unquoteL_start _ (by rw [hd0]; exact byte_is c0)] at hu
  have e2 : ((s[0]'h0).toNat : Int) = 34 := by omega
  have HU := rhide hu
  have HS := rhide hs
  clear hu hs hd0 c0
  go_enter Tryd.func8, Tryd.ntmps8
  go_wp2
  go_loopw [5, 6] (fun o a wr => ∃ (p : Nat) (q : ByteArray), o = .string q ∧ a = .int .i64 (p : Int) ∧ 1 ≤ p ∧ p ≤ s.size ∧ q.size ≤ 4 * p ∧ Below w.heap.size w wr ∧ endU q.data.toList p (Qm.unq (s.data.toList.drop p)) = (u.data.toList, n, e)) (fun _ a _ => s.size - (intOf a).toNat)
  case atStart => exact ⟨1, ⟨#[]⟩, rfl, rfl, by omega, by omega, by decide, Below.refl _ _, runhide HU⟩
  case round =>
    obtain ⟨p, q, rfl, rfl, hp1, hp, hqs, hB, hv⟩ := hrel
    clear HU
    by_cases hlt : p < s.size
    case neg =>
      rw [List.drop_eq_nil_of_le (by rw [← Lib.size_eq]; omega), endU_nil] at hv
      obtain ⟨g, rfl, rfl⟩ := tri_in hv
      obtain rfl : u = ⟨#[]⟩ := bytes_eqR g.symm
      clear hv g hp hp1 hqs
      go_wp2
      go_ret3
      exact ⟨rfl, hB⟩
    have hh := head_at s p hlt
    have hsp := drop_cons_at s p hlt
    by_cases c1 : (s[p]'hlt).toNat = 34
    · rw [endU_quote _ _ _ (by rw [hh]; exact byte_is c1)] at hv
      have t1 : ((s[p]'hlt).toNat : Int) = 34 := by omega
      by_cases g4 : 4096 < q.size
      · rw [if_pos (by rw [← Lib.size_eq]; exact g4)] at hv
        obtain ⟨g, rfl, rfl⟩ := tri_in hv
        obtain rfl : u = ⟨#[]⟩ := bytes_eqR g.symm
        have t2 : decide ((4096 : Int) < (q.size : Int)) = true := decide_eq_true (by omega)
        clear hv g hp hp1 hqs hh hsp c1 g4
        go_wp2
        go_ret3
        exact ⟨rfl, hB⟩
      · rw [if_neg (by rw [← Lib.size_eq]; exact g4)] at hv
        obtain ⟨g, rfl, rfl⟩ := tri_in hv
        obtain rfl : u = q := bytes_eqR g.symm
        have t2 : decide ((4096 : Int) < (u.size : Int)) = false := decide_eq_false (by omega)
        have w1 : IntKind.i64.wrap ((p : Int) + 1) = ((p + 1 : Nat) : Int) := by have := runhide HS; rw [IntKind.wrap_i64]; omega
        clear hv g hp hp1 hqs hh hsp c1 g4
        go_wp2
        go_ret3
        exact ⟨rfl, hB⟩
    have d1 : (((s[p]'hlt).toNat : Int) == 34) = false := beq_eq_false_iff_ne.2 (by omega)
    have hn34 : (s.data.toList.drop p).getD 0 0 ≠ 34 := by rw [hh]; intro g; rw [g] at c1; exact c1 rfl
    by_cases c2 : (s[p]'hlt).toNat = 92
    · have t1 : ((s[p]'hlt).toNat : Int) = 92 := by omega
      obtain ⟨p1, hp1'⟩ : ∃ p1, p + 1 = p1 := ⟨_, rfl⟩
      have w1 : IntKind.i64.wrap ((p : Int) + 1) = (p1 : Int) := by have := runhide HS; rw [IntKind.wrap_i64]; omega
      rw [hp1'] at hsp
      obtain ⟨t, ht⟩ : ∃ t : ByteArray, (escR (s.data.toList.drop p1)).1 = t.data.toList := ⟨⟨(escR (s.data.toList.drop p1)).1.toArray⟩, by simp⟩
      obtain ⟨k, hk⟩ : ∃ k, (escR (s.data.toList.drop p1)).2 = k := ⟨_, rfl⟩
      have he : escR (s.data.toList.drop p1) = (t.data.toList, k) := by rw [← ht, ← hk]
      have CE := fun W => ref_escape s p1 (runhide HS) (by omega) t k he W
      have hsp2 : s.data.toList.drop p = 92 :: s.data.toList.drop p1 := by rw [hsp, byte_is c2]; rfl
      cases hx : Qm.nextL (s.data.toList.drop p) with
      | none =>
        rw [endU_none _ _ _ hn34 hx] at hv
        obtain ⟨g, rfl, rfl⟩ := tri_in hv
        obtain rfl : u = ⟨#[]⟩ := bytes_eqR g.symm
        have hk0 : k = 0 := by rw [← hk]; unfold escR; rw [← hsp2, hx]
        subst hk0
        clear hv g hp hp1 hqs hh hsp c1 c2 hn34 ht hk he hsp2 hx hp1'
        go_wp2_with fail
        refine (CE _).mono ?_
        rintro e W ⟨rfl, b2⟩
        replace hB := below_two hB b2; clear b2
        go_wp2
        go_ret3
        exact ⟨rfl, hB⟩
      | some rk =>
        obtain ⟨r, m⟩ := rk
        obtain ⟨m1, m2, m3⟩ := Qm.next_ok hx
        rw [endU_step _ _ _ hn34 hx, List.drop_drop] at hv
        rw [List.length_drop, ← Lib.size_eq] at m2
        have hkm : k = m - 1 := by rw [← hk]; unfold escR; rw [← hsp2, hx]
        have htr : t.data.toList = Lib.encodeRune (r : Int) := by rw [← ht]; unfold escR; rw [← hsp2, hx]
        have hk1 : 1 ≤ k := by
          have : 2 ≤ m := esc_two _ hx (by rw [hh]; exact byte_is c2)
          omega
        have ht4 : t.size ≤ 4 := by rw [Lib.size_eq, htr]; exact (Qm.enc_len _).2
        obtain ⟨z, hz⟩ : ∃ z, q ++ t = z := ⟨_, rfl⟩
        obtain ⟨pm, hpm⟩ : ∃ pm, p + m = pm := ⟨_, rfl⟩
        have hzl : q.data.toList ++ Lib.encodeRune (r : Int) = z.data.toList := by rw [← hz, ByteArray.data_append, Array.toList_append, htr]
        rw [hzl, hpm] at hv
        have hzs : z.size ≤ 4 * pm := by rw [← hz, ByteArray.size_append]; omega
        have j1 : ¬ (9223372036854775807 < q.size + t.size) := by have := runhide HS; omega
        have w2 : IntKind.i64.wrap ((p1 : Int) + (k : Int)) = (pm : Int) := by have := runhide HS; rw [IntKind.wrap_i64]; omega
        have t3 : ((k : Int) == 0) = false := beq_eq_false_iff_ne.2 (by omega)
        have R : 1 ≤ pm ∧ pm ≤ s.size ∧ z.size ≤ 4 * pm ∧ s.size - pm < s.size - p := ⟨by omega, by omega, hzs, by omega⟩
        have HR := rhide R
        clear hp hp1 hqs hh hsp c1 c2 hn34 ht hk he hsp2 hx hp1' m1 m2 m3 hkm htr hk1 ht4 hpm hzl hzs R
        go_wp2_with fail
        refine (CE _).mono ?_
        rintro e W ⟨rfl, b2⟩
        replace hB := below_two hB b2; clear b2
        go_wp2
        go_roundw
        case rel => exact ⟨pm, z, rfl, rfl, (runhide HR).1, (runhide HR).2.1, (runhide HR).2.2.1, hB, hv⟩
        case measure => exact (runhide HR).2.2.2
    have d2 : (((s[p]'hlt).toNat : Int) == 92) = false := beq_eq_false_iff_ne.2 (by omega)
    obtain ⟨rx, rn, hr, hne, hd, hle, hvv⟩ := rune_at s p hlt
    have CR := fun W => ref_rune s p hlt (by have := runhide HS; omega) rx rn hr W
    have hx := nextL_rune _ hne (by rw [hh]; intro g; rw [g] at c2; exact c2 rfl)
    rw [hr] at hx
    dsimp only at hx
    by_cases g0 : rn = 0
    · subst g0
      rw [if_pos (.inl rfl)] at hx
      rw [endU_none _ _ _ hn34 hx] at hv
      obtain ⟨g, rfl, rfl⟩ := tri_in hv
      obtain rfl : u = ⟨#[]⟩ := bytes_eqR g.symm
      clear hv g hp hp1 hqs hh hsp c1 c2 hn34 hx hr hne hd hle hvv
      go_wp2_with fail
      refine (CR _).mono ?_
      rintro e W ⟨rfl, rfl⟩
      go_wp2
      go_ret3
      exact ⟨rfl, hB⟩
    have t4 : ((rn : Int) == 0) = false := beq_eq_false_iff_ne.2 (by omega)
    by_cases g1 : rx < 32
    · rw [if_pos (.inr g1)] at hx
      rw [endU_none _ _ _ hn34 hx] at hv
      obtain ⟨g, rfl, rfl⟩ := tri_in hv
      obtain rfl : u = ⟨#[]⟩ := bytes_eqR g.symm
      have t5 : decide ((rx : Int) < 32) = true := decide_eq_true (by omega)
      clear hv g hp hp1 hqs hh hsp c1 c2 hn34 hx hr hne hd hle hvv g0 g1
      go_wp2_with fail
      refine (CR _).mono ?_
      rintro e W ⟨rfl, rfl⟩
      go_wp2
      go_ret3
      exact ⟨rfl, hB⟩
    rw [if_neg (by omega)] at hx
    have t5 : decide ((rx : Int) < 32) = false := decide_eq_false (by omega)
    have hm : max rn 1 = rn := by omega
    rw [hm] at hd hle
    rw [endU_step _ _ _ hn34 hx, List.drop_drop] at hv
    have hgood : Qm.good (s.data.toList.drop p) := by
      rcases Qm.runeV_width (s.data.toList.drop p) with ⟨k1, _⟩ | ⟨_, k2, _⟩
      · rw [hr] at k1; exact absurd k1 g0
      · exact k2
    have hpc := Qm.piece _ hne hgood
    have hrd : (Lib.decodeL (s.data.toList.drop p)).1 = rx := by
      rcases Qm.runeV_width (s.data.toList.drop p) with ⟨k1, _⟩ | ⟨_, _, k3⟩
      · rw [hr] at k1; exact absurd k1 g0
      · rw [← k3, hr]
    rw [hrd, hd] at hpc
    obtain ⟨pm, hpm⟩ : ∃ pm, p + rn = pm := ⟨_, rfl⟩
    obtain ⟨t, ht⟩ : ∃ t, s.extract p pm = t := ⟨_, rfl⟩
    have htl : Lib.encodeRune (rx : Int) = t.data.toList := by rw [← ht, Lib.extract_data, ← hpm, Nat.add_sub_cancel_left, hpc]
    obtain ⟨z, hz⟩ : ∃ z, q ++ t = z := ⟨_, rfl⟩
    have hzl : q.data.toList ++ Lib.encodeRune (rx : Int) = z.data.toList := by rw [← hz, ByteArray.data_append, Array.toList_append, htl]
    have ht4 : t.size ≤ 4 := by rw [Lib.size_eq, ← htl]; exact (Qm.enc_len _).2
    rw [hzl, hpm] at hv
    rw [hpm] at hle
    have hzs : z.size ≤ 4 * pm := by rw [← hz, ByteArray.size_append]; omega
    have j1 : ¬ (9223372036854775807 < q.size + t.size) := by have := runhide HS; omega
    have w2 : IntKind.i64.wrap ((p : Int) + (rn : Int)) = (pm : Int) := by have := runhide HS; rw [IntKind.wrap_i64]; omega
    have l1 : p ≤ pm := by omega
    have R : 1 ≤ pm ∧ z.size ≤ 4 * pm ∧ s.size - pm < s.size - p := ⟨by omega, hzs, by omega⟩
    have HR := rhide R
    clear hp hp1 hqs hh hsp c1 c2 hn34 hx hr hne hd hvv g0 g1 hm hgood hpc hrd hpm htl hzl ht4 hzs R
    go_wp2_with fail
    refine (CR _).mono ?_
    rintro e W ⟨rfl, rfl⟩
    go_wp2
    go_roundw
    case rel => exact ⟨pm, z, rfl, rfl, (runhide HR).1, hle, (runhide HR).2.1, hB, hv⟩
    case measure => exact (runhide HR).2.2
end Go.Proofs.YtdmhkibpkcbhaaaDoor
