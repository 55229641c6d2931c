/- What is proved here: what readStep of package path answers at any text: some step that begins there, and the very step if one that may be is written there; conditions: the tables lie, as each theorem states. -/
import Derived.Test.YtomhgafpjpnmdaaGreatDoorSa
import Derived.Test.YtomhgafpjpnmdaaGreatDoorPt
namespace Go.Proofs.YtomhgafpjpnmdaaGreatDoor
open Go.RowKit
set_option linter.unusedVariables false
set_option linter.unusedSimpArgs false
set_option maxRecDepth 100000

/-- What may stand behind a step. -/
def OkR (rest : List UInt8) : Prop := rest = [] ∨ ∃ c t, rest = c :: t ∧ (c = 46 ∨ c = 91 ∨ c = 42)
def FKey (t : Pm.St) : Prop := ∃ (c : UInt8) (k : List UInt8), t = ⟨1, t.s, 0⟩ ∧ t.s.data.toList = c :: k ∧ Cm.letB c = true ∧ (c :: k).all Cm.inB = true ∧ prL t = 46 :: c :: k
def FQuo (t : Pm.St) : Prop := ∃ (q : List UInt8), t = ⟨1, t.s, 0⟩ ∧ Lib.validD t.s.data.toList = true ∧ t.s.size ≤ 24 ∧ Qm.quoteL t.s.data.toList = 34 :: q ∧ prL t = 91 :: 34 :: (q ++ [93])
def FNum (t : Pm.St) : Prop := ∃ (d : UInt8) (ds : List UInt8), t = ⟨2, Pm.nul, t.n⟩ ∧ (48 ≤ d.toNat ∧ d.toNat ≤ 57) ∧ (93 : UInt8) ∉ d :: ds ∧ Lib.atoiAll (d :: ds) = .ok t.n ∧ prL t = 91 :: d :: (ds ++ [93])
def Form (t : Pm.St) : Prop := FKey t ∨ FQuo t ∨ FNum t ∨ (t = ⟨3, Pm.nul, 0⟩ ∧ prL t = [46, 42]) ∨ (t = ⟨4, Pm.nul, 0⟩ ∧ prL t = [91, 42, 93]) ∨ (t = ⟨5, Pm.nul, 0⟩ ∧ prL t = [42, 42])
theorem form_of {t : Pm.St} (h : mayB t = true) : Form t := by
  by_cases h1 : t.k = 1
  · obtain ⟨h24, hn, hv⟩ := mayB_key h h1
    have e : t = ⟨1, t.s, 0⟩ := by obtain ⟨k, s, n⟩ := t; simp only [] at h1 hn; rw [h1, hn]
    cases hnm : Cm.nameB t.s.data.toList
    · refine .inr (.inl ⟨_, e, hv, h24, rfl, ?_⟩)
      unfold prL
      rw [if_pos h1, hnm]
      rfl
    · have hall := by have := hnm; unfold Cm.nameB at this; simp only [Bool.and_eq_true, decide_eq_true_eq] at this; exact this
      obtain ⟨⟨⟨hl1, _⟩, hc⟩, hi⟩ := hall
      cases hk : t.s.data.toList with
      | nil => rw [hk] at hl1; simp at hl1
      | cons c k =>
        rw [hk] at hc hi
        refine .inl ⟨c, k, e, hk, hc, hi, ?_⟩
        unfold prL
        rw [if_pos h1, hnm, hk]
        rfl
  · by_cases h2 : t.k = 2
    · obtain ⟨n0, n1, hs⟩ := mayB_at h h2
      have e : t = ⟨2, Pm.nul, t.n⟩ := by obtain ⟨k, s, n⟩ := t; simp only [] at h2 hs; rw [h2, hs]
      have hb := List.all_eq_true.1 back_digits t.n.toNat (List.mem_range.2 (by omega))
      rw [Bool.and_eq_true, Bool.and_eq_true, decide_eq_true_eq, show ((t.n.toNat : Nat) : Int) = t.n by omega] at hb
      obtain ⟨⟨ha, hdg⟩, hne⟩ := hb
      have hp : prL t = 91 :: (Lib.itoa t.n ++ [93]) := by unfold prL; rw [if_neg h1, if_pos h2]
      cases hi : Lib.itoa t.n with
      | nil => rw [hi] at hne; simp at hne
      | cons d ds =>
        rw [hi] at ha hdg hp
        have hd := List.all_eq_true.1 hdg
        have hr : ∀ x ∈ d :: ds, 48 ≤ x.toNat ∧ x.toNat ≤ 57 := fun x hx => by have := hd x hx; simpa using this
        exact .inr (.inr (.inl ⟨d, ds, e, hr d (by simp), fun hx => by have := hr 93 hx; exact absurd this.2 (by decide), ha, hp⟩))
    · obtain ⟨ho, he⟩ := mayB_other h h1 h2
      unfold prL at *
      rcases ho with h3 | h3 | h3
      · refine .inr (.inr (.inr (.inl ⟨by rw [he, h3], ?_⟩))); unfold prL; rw [if_neg h1, if_neg h2, if_pos h3]
      · refine .inr (.inr (.inr (.inr (.inl ⟨by rw [he, h3], ?_⟩)))); unfold prL; rw [if_neg h1, if_neg h2, if_neg (by omega), if_pos h3]
      · refine .inr (.inr (.inr (.inr (.inr ⟨by rw [he, h3], ?_⟩)))); unfold prL; rw [if_neg h1, if_neg h2, if_neg (by omega), if_neg (by omega)]

/-- What readStep answers at a text. -/
def RdOk (s : ByteArray) (t : Pm.St) (n : Nat) : Prop := n ≤ s.size ∧ (∀ W, Tabs W → Pow W → Errs W → Calls Tryz.prog 37 #[.string s] W fun e w' => e = .returned (stV t n) ∧ Below W.heap.size W w') ∧
  ∀ t0 rest, mayB t0 = true → OkR rest → s.data.toList = prL t0 ++ rest → t = t0 ∧ n = (prL t0).length
theorem pfx_len {s : ByteArray} {p : List UInt8} (h : pfx s p = true) : p.length ≤ s.size := by
  unfold pfx Lib.hasPrefix at h
  have := (List.isPrefixOf_iff_prefix.1 h).length_le
  rwa [Array.length_toList] at this
theorem let_no {c : UInt8} (h : Cm.letB c = true) : c ≠ 42 ∧ c ≠ 46 ∧ c ≠ 91 := by
  refine ⟨?_, ?_, ?_⟩ <;> (rintro rfl; revert h; decide)
theorem dig_no {d : UInt8} (h : 48 ≤ d.toNat ∧ d.toNat ≤ 57) : d ≠ 42 ∧ d ≠ 34 := by
  refine ⟨?_, ?_⟩ <;> (rintro rfl; revert h; decide)
theorem in_no : ∀ (k : List UInt8), k.all Cm.inB = true → ∀ b ∈ k, ([46, 91, 42] : List UInt8).contains b = false := by
  intro k h b hb
  have := List.all_eq_true.1 h b hb
  rw [← Bool.not_eq_true]
  intro hc
  have h3 := List.contains_iff_mem.1 hc
  simp at h3
  rcases h3 with rfl | rfl | rfl <;> (revert this; decide)
theorem idx_key (k rest : List UInt8) (hk : ∀ b ∈ k, ([46, 91, 42] : List UInt8).contains b = false) (hr : OkR rest) : (rest = [] ∧ Lib.indexAny (k ++ rest) [46, 91, 42] = -1) ∨ (rest ≠ [] ∧ Lib.indexAny (k ++ rest) [46, 91, 42] = (k.length : Int)) := by
  have hno : ∀ j b, j < k.length → (k ++ rest)[j]? = some b → ([46, 91, 42] : List UInt8).contains b = false := by
    intro j b hj hb
    rw [List.getElem?_append_left hj] at hb
    exact hk b (List.mem_of_getElem? hb)
  rcases hr with rfl | ⟨c, t, rfl, hc⟩
  · refine .inl ⟨rfl, Lib.indexAny_none (fun j b hj hb => ?_)⟩
    rw [List.append_nil] at hj
    exact hno j b hj hb
  · refine .inr ⟨by simp, Lib.indexAny_hit (i := k.length) (x := c) (fun j b hj hb => hno j b hj hb) (by rw [List.getElem?_append_right (Nat.le_refl _)]; simp) ?_⟩
    rcases hc with rfl | rfl | rfl <;> decide
theorem idx_lt (chars : List UInt8) : ∀ l : List UInt8, Lib.indexAny l chars = -1 ∨ Lib.indexAny l chars < (l.length : Int)
  | [] => .inl rfl
  | b :: l => by
    have ih := idx_lt chars l
    have hge := Lib.indexAny_ge chars l
    unfold Lib.indexAny
    split
    · right; simp only [List.length_cons]; omega
    · split
      · exact .inl rfl
      · rename_i h2
        right
        have : Lib.indexAny l chars ≠ -1 := fun e => h2 (by rw [e]; rfl)
        simp only [List.length_cons]
        omega
theorem first93 : ∀ (a b t u : List UInt8), a ++ 93 :: t = b ++ 93 :: u → (93 : UInt8) ∉ a → (93 : UInt8) ∉ b → a = b
  | [], [], _, _, _, _, _ => rfl
  | [], y :: b, t, u, h, _, hb => by
    simp only [List.nil_append, List.cons_append, List.cons.injEq] at h
    exact absurd h.1 (fun e => hb (by rw [← e]; simp))
  | x :: a, [], t, u, h, ha, _ => by
    simp only [List.nil_append, List.cons_append, List.cons.injEq] at h
    exact absurd h.1 (fun e => ha (by rw [e]; simp))
  | x :: a, y :: b, t, u, h, ha, hb => by
    simp only [List.cons_append, List.cons.injEq] at h
    rw [h.1, first93 a b t u h.2 (fun e => ha (by simp [e])) (fun e => hb (by simp [e]))]
theorem ext_take (s : ByteArray) (n : Nat) : (s.extract 1 n).data.toList = (s.data.toList.drop 1).take (n - 1) := by rw [Lib.extract_data]
set_option maxHeartbeats 2000000 in
theorem readStep_ex (s : ByteArray) (h0 : s.size ≠ 0) (hs : s.size ≤ 4000) : ∃ t n, RdOk s t n := by
  have hl : s.data.toList.length = s.size := Array.length_toList
  cases p1 : pfx s [42, 42]
  case true =>
    refine ⟨⟨5, Pm.nul, 0⟩, 2, pfx_len p1, fun W _ _ _ => step_deep s p1 W, fun t0 rest hm hr he => ?_⟩
    unfold pfx at p1
    rw [he] at p1
    rcases form_of hm with ⟨c, k, e, h, hc, hi, p⟩ | ⟨q, e, hv, h24, hq, p⟩ | ⟨d, ds, e, hd, h9, ha, p⟩ | ⟨e, p⟩ | ⟨e, p⟩ | ⟨e, p⟩
    case inr.inr.inr.inr.inr => rw [p]; exact ⟨e.symm, rfl⟩
    all_goals (exfalso; rw [p] at p1; simp [Lib.hasPrefix, List.isPrefixOf] at p1)
  cases p2 : pfx s [46, 42]
  case true =>
    refine ⟨⟨3, Pm.nul, 0⟩, 2, pfx_len p2, fun W _ _ _ => step_anyKey s p1 p2 W, fun t0 rest hm hr he => ?_⟩
    unfold pfx at p1 p2
    rw [he] at p1 p2
    rcases form_of hm with ⟨c, k, e, h, hc, hi, p⟩ | ⟨q, e, hv, h24, hq, p⟩ | ⟨d, ds, e, hd, h9, ha, p⟩ | ⟨e, p⟩ | ⟨e, p⟩ | ⟨e, p⟩
    case inr.inr.inr.inl => rw [p]; exact ⟨e.symm, rfl⟩
    case inl => exfalso; rw [p] at p2; simp [Lib.hasPrefix, List.isPrefixOf] at p2; exact (let_no hc).1 p2.symm
    case inr.inr.inr.inr.inr => exfalso; rw [p] at p1; simp [Lib.hasPrefix, List.isPrefixOf] at p1
    all_goals (exfalso; rw [p] at p2; simp [Lib.hasPrefix, List.isPrefixOf] at p2)
  cases p3 : pfx s [91, 42, 93]
  case true =>
    refine ⟨⟨4, Pm.nul, 0⟩, 3, pfx_len p3, fun W _ _ _ => step_any s p1 p2 p3 W, fun t0 rest hm hr he => ?_⟩
    unfold pfx at p1 p2 p3
    rw [he] at p1 p2 p3
    rcases form_of hm with ⟨c, k, e, h, hc, hi, p⟩ | ⟨q, e, hv, h24, hq, p⟩ | ⟨d, ds, e, hd, h9, ha, p⟩ | ⟨e, p⟩ | ⟨e, p⟩ | ⟨e, p⟩
    case inr.inr.inr.inr.inl => rw [p]; exact ⟨e.symm, rfl⟩
    case inr.inr.inl => exfalso; rw [p] at p3; simp [Lib.hasPrefix, List.isPrefixOf] at p3; exact (dig_no hd).1 p3.1.symm
    all_goals (exfalso; rw [p] at p3; simp [Lib.hasPrefix, List.isPrefixOf] at p3)
  cases p4 : pfx s [46]
  case true =>
    have h1 : 1 ≤ s.size := pfx_len p4
    obtain ⟨r, hr⟩ : ∃ r, s.extract 1 s.size = r := ⟨_, rfl⟩
    have hrl : r.data.toList = s.data.toList.drop 1 := by rw [← hr]; exact ext_from s 1
    obtain ⟨i, hi⟩ : ∃ i, Lib.indexAny r.data.toList [46, 91, 42] = i := ⟨_, rfl⟩
    have hge := Lib.indexAny_ge [46, 91, 42] r.data.toList
    rw [hi] at hge
    have hrs : r.size = s.size - 1 := by rw [← hr, ByteArray.size_extract]; omega
    have hlt : i < (r.size : Int) := by
      have := idx_lt [46, 91, 42] r.data.toList
      rw [hi, Array.length_toList] at this
      show i < (r.data.size : Int)
      rcases this with h | h
      · rw [h]; have : (0 : Int) ≤ (r.data.size : Int) := by omega
        omega
      · exact h
    obtain ⟨len, hlen⟩ : ∃ len : Nat, (i = -1 ∧ len = s.size) ∨ (∃ j : Nat, i = (j : Int) ∧ len = j + 1 ∧ len ≤ s.size) := by
      by_cases hn : i = -1
      · exact ⟨s.size, .inl ⟨hn, rfl⟩⟩
      · exact ⟨i.toNat + 1, .inr ⟨i.toNat, by omega, rfl, by omega⟩⟩
    obtain ⟨k, hk⟩ : ∃ k, s.extract 1 len = k := ⟨_, rfl⟩
    have hls : len ≤ s.size := by rcases hlen with h | ⟨j, h⟩ <;> omega
    have CI := fun W => idx_any r (by omega) i hi W
    refine ⟨⟨1, k, 0⟩, len, hls, fun W _ _ _ => step_plain s p1 p2 p3 p4 ⟨1, k, 0⟩ len W (fun W' _ => plainKey_any s h1 (by omega) r hr i len hlen k hk CI W'), fun t0 rest hm hok he => ?_⟩
    unfold pfx at p1 p2 p3 p4
    rw [he] at p1 p2 p3 p4
    rcases form_of hm with ⟨c, q, e, h, hc, hin, p⟩ | ⟨q, e, hv, h24, hq, p⟩ | ⟨d, ds, e, hd, h9, ha, p⟩ | ⟨e, p⟩ | ⟨e, p⟩ | ⟨e, p⟩
    case inl =>
      have hd : s.data.toList.drop 1 = (c :: q) ++ rest := by rw [he, p]; rfl
      have hx := idx_key (c :: q) rest (in_no _ hin) hok
      rw [← hd, ← hrl, hi] at hx
      have hlen2 : len = (c :: q).length + 1 := by
        rcases hx with ⟨h1, h2⟩ | ⟨h1, h2⟩
        · rcases hlen with ⟨_, h⟩ | ⟨j, h, _⟩
          · have := congrArg List.length hd
            rw [List.length_drop, hl, h1, List.append_nil] at this
            omega
          · omega
        · rcases hlen with ⟨h, _⟩ | ⟨j, h3, h4, _⟩
          · rw [h] at h2; have : (0 : Int) ≤ ((c :: q).length : Int) := by omega
            omega
          · omega
      have hkk : k = t0.s := by
        refine pext ?_
        rw [← hk, ext_take, hd, hlen2, h, Nat.add_sub_cancel, List.take_left']
        rfl
      refine ⟨by rw [hkk]; exact e.symm, by rw [p, hlen2]; rfl⟩
    case inr.inr.inr.inl => exfalso; rw [p] at p2; simp [Lib.hasPrefix, List.isPrefixOf] at p2
    all_goals (exfalso; rw [p] at p4; simp [Lib.hasPrefix, List.isPrefixOf] at p4)
  cases p5 : pfx s [91, 34]
  case true =>
    have h2 : 2 ≤ s.size := pfx_len p5
    obtain ⟨r, hr⟩ : ∃ r, s.extract 1 s.size = r := ⟨_, rfl⟩
    have hrl : r.data.toList = s.data.toList.drop 1 := by rw [← hr]; exact ext_from s 1
    have hrs : r.data.toList.length = s.size - 1 := by rw [hrl, List.length_drop, hl]
    obtain ⟨u, n, e, hu, hn, he⟩ : ∃ (u : ByteArray) (n e : Nat), Qm.unquoteL r.data.toList = (u.data.toList, n, e) ∧ (e = 0 → n + 1 ≤ s.size) ∧ e ≤ 100 := by
      rcases Qm.unquote_shape r.data.toList with ⟨t, n, h, _, _, h3, _⟩ | h | h
      · exact ⟨⟨t.toArray⟩, n, 0, by rw [h], fun _ => by omega, by omega⟩
      · exact ⟨⟨#[]⟩, 0, 3, by rw [h], fun h => by omega, by omega⟩
      · exact ⟨⟨#[]⟩, 0, 6, by rw [h], fun h => by omega, by omega⟩
    obtain ⟨tl, htl⟩ : ∃ tl, s.extract (n + 1) s.size = tl := ⟨_, rfl⟩
    have htl2 : tl.data.toList = s.data.toList.drop (n + 1) := by rw [← htl]; exact ext_from s (n + 1)
    obtain ⟨z, hz⟩ : ∃ z, Lib.hasPrefix tl.data.toList [93] = z := ⟨_, rfl⟩
    have CQ := fun W hT => quotedKey_any s r u n e (by omega) (by omega) hr hu hn he tl htl z hz W hT
    have fin : ∀ t0 rest, mayB t0 = true → OkR rest → s.data.toList = prL t0 ++ rest → e = 0 ∧ z = true ∧ (⟨1, u, 0⟩ : Pm.St) = t0 ∧ n + 2 = (prL t0).length := by
      intro t0 rest hm hok heq
      have p5' := p5
      unfold pfx at p5'
      rw [heq] at p5'
      rcases form_of hm with ⟨c, k, e1, h, hc, hi, p⟩ | ⟨q, e1, hv, h24, hq, p⟩ | ⟨d, ds, e1, hd, h9, ha, p⟩ | ⟨e1, p⟩ | ⟨e1, p⟩ | ⟨e1, p⟩
      case inr.inl =>
        have hd1 : r.data.toList = Qm.quoteL t0.s.data.toList ++ (93 :: rest) := by rw [hrl, heq, p, hq]; simp
        have h4 : t0.s.data.toList.length ≤ 4096 := by rw [Array.length_toList]; show t0.s.size ≤ 4096; omega
        have hqq := Qm.unquote_quote t0.s.data.toList (93 :: rest) hv h4
        rw [← hd1, hu] at hqq
        obtain ⟨g1, g2⟩ := Prod.mk.inj hqq
        obtain ⟨g2, g3⟩ := Prod.mk.inj g2
        have hlq : (Qm.quoteL t0.s.data.toList).length = q.length + 1 := by rw [hq]; rfl
        have hdr : s.data.toList.drop (n + 1) = 93 :: rest := by
          rw [show s.data.toList.drop (n + 1) = (s.data.toList.drop 1).drop n by rw [List.drop_drop, Nat.add_comm], ← hrl, hd1, List.drop_left' g2.symm]
        refine ⟨g3, ?_, ?_, ?_⟩
        · rw [← hz, htl2, hdr]; rfl
        · rw [pext g1]; exact e1.symm
        · rw [p, g2, hlq]; simp
      case inr.inr.inl => exfalso; rw [p] at p5'; simp [Lib.hasPrefix, List.isPrefixOf] at p5'; exact (dig_no hd).2 p5'.symm
      all_goals (exfalso; rw [p] at p5'; simp [Lib.hasPrefix, List.isPrefixOf] at p5')
    by_cases hyes : e = 0 ∧ z = true
    · refine ⟨⟨1, u, 0⟩, n + 2, ?_, fun W hT _ _ => step_quoted s p1 p2 p3 p4 p5 ⟨1, u, 0⟩ (n + 2) W (fun W' hB => ?_), fun t0 rest hm hok heq => ⟨(fin t0 rest hm hok heq).2.2.1, (fin t0 rest hm hok heq).2.2.2⟩⟩
      · have := hz.trans hyes.2
        unfold Lib.hasPrefix at this
        have := (List.isPrefixOf_iff_prefix.1 this).length_le
        rw [htl2, List.length_drop, hl] at this
        simp only [List.length_cons, List.length_nil] at this
        omega
      · refine (CQ W' (tabs_step hT hB)).mono ?_
        rintro x w' ⟨hb, h⟩
        rcases h with ⟨_, _, hx⟩ | ⟨h, _⟩
        · exact ⟨hx, hb⟩
        · exact absurd hyes (by rintro ⟨a, b⟩; rcases h with h | h; exact h a; rw [b] at h; cases h)
    · refine ⟨⟨0, Pm.nul, 0⟩, 0, by omega, fun W hT _ _ => step_quoted s p1 p2 p3 p4 p5 ⟨0, Pm.nul, 0⟩ 0 W (fun W' hB => ?_), fun t0 rest hm hok heq => absurd ⟨(fin t0 rest hm hok heq).1, (fin t0 rest hm hok heq).2.1⟩ hyes⟩
      refine (CQ W' (tabs_step hT hB)).mono ?_
      rintro x w' ⟨hb, h⟩
      rcases h with ⟨a, b, _⟩ | ⟨_, hx⟩
      · exact absurd ⟨a, b⟩ hyes
      · exact ⟨hx, hb⟩
  cases p6 : pfx s [91]
  case true =>
    have h1 : 1 ≤ s.size := pfx_len p6
    obtain ⟨r, hr⟩ : ∃ r, s.extract 1 s.size = r := ⟨_, rfl⟩
    have hrl : r.data.toList = s.data.toList.drop 1 := by rw [← hr]; exact ext_from s 1
    have hrs : r.data.toList.length = s.size - 1 := by rw [hrl, List.length_drop, hl]
    have fin : ∀ t0 rest, mayB t0 = true → OkR rest → s.data.toList = prL t0 ++ rest → ∃ d ds, t0 = ⟨2, Pm.nul, t0.n⟩ ∧ (93 : UInt8) ∉ d :: ds ∧ Lib.atoiAll (d :: ds) = .ok t0.n ∧ r.data.toList = (d :: ds) ++ 93 :: rest ∧ (prL t0).length = ds.length + 3 := by
      intro t0 rest hm hok heq
      have p3' := p3
      have p5' := p5
      have p6' := p6
      unfold pfx at p3' p5' p6'
      rw [heq] at p3' p5' p6'
      rcases form_of hm with ⟨c, k, e1, h, hc, hi, p⟩ | ⟨q, e1, hv, h24, hq, p⟩ | ⟨d, ds, e1, hd, h9, ha, p⟩ | ⟨e1, p⟩ | ⟨e1, p⟩ | ⟨e1, p⟩
      case inr.inr.inl => exact ⟨d, ds, e1, h9, ha, by rw [hrl, heq, p]; simp, by rw [p]; simp⟩
      case inr.inl => exfalso; rw [p] at p5'; simp [Lib.hasPrefix, List.isPrefixOf] at p5'
      case inr.inr.inr.inr.inl => exfalso; rw [p] at p3'; simp [Lib.hasPrefix, List.isPrefixOf] at p3'
      all_goals (exfalso; rw [p] at p6'; simp [Lib.hasPrefix, List.isPrefixOf] at p6')
    rcases split93 r.data.toList with hno | ⟨a, tl, hc, h93⟩
    · refine ⟨⟨0, Pm.nul, 0⟩, 0, by omega, fun W _ _ hE => step_at s p1 p2 p3 p4 p5 p6 ⟨0, Pm.nul, 0⟩ 0 W (fun W' hB => readAt_miss s r h1 (by omega) hr hno W' (hE.next hB)), fun t0 rest hm hok heq => ?_⟩
      obtain ⟨d, ds, _, _, _, h4, _⟩ := fin t0 rest hm hok heq
      exact absurd (by rw [h4]; simp) hno
    · obtain ⟨dB, hdB⟩ : ∃ dB : ByteArray, a = dB.data.toList := ⟨⟨a.toArray⟩, by simp⟩
      obtain ⟨tB, htB⟩ : ∃ tB : ByteArray, tl = tB.data.toList := ⟨⟨tl.toArray⟩, by simp⟩
      rw [hdB, htB] at hc
      rw [hdB] at h93
      have hdl : dB.data.toList.length = dB.size := Array.length_toList
      have hsz : dB.size + 2 ≤ s.size := by
        have := congrArg List.length hc
        rw [hrs, List.length_append, List.length_cons, hdl] at this
        omega
      have CA := fun W hE => readAt_hit s r dB tB h1 (by omega) hr hc h93 W hE
      cases hat : Lib.atoiAll dB.data.toList with
      | ok v =>
        refine ⟨⟨2, Pm.nul, v⟩, dB.size + 2, hsz, fun W _ _ hE => step_at s p1 p2 p3 p4 p5 p6 ⟨2, Pm.nul, v⟩ (dB.size + 2) W (fun W' hB => ?_), fun t0 rest hm hok heq => ?_⟩
        · refine (CA W' (hE.next hB)).mono ?_
          rintro x w' ⟨hb, h⟩
          rcases h with ⟨v2, hv2, hx⟩ | ⟨hv2, _⟩
          · rw [hat] at hv2
            obtain rfl : v = v2 := by injection hv2
            exact ⟨hx, hb⟩
          · exact absurd hat (hv2 v)
        · obtain ⟨d, ds, e1, h9, ha, h4, h5⟩ := fin t0 rest hm hok heq
          have hu := first93 dB.data.toList (d :: ds) _ _ (hc.symm.trans h4) h93 h9
          rw [hu, ha] at hat
          have hv : t0.n = v := by injection hat
          refine ⟨by rw [e1, hv], ?_⟩
          rw [h5, ← hdl, hu]; rfl
      | «syntax» =>
        refine ⟨⟨0, Pm.nul, 0⟩, 0, by omega, fun W _ _ hE => step_at s p1 p2 p3 p4 p5 p6 ⟨0, Pm.nul, 0⟩ 0 W (fun W' hB => ?_), fun t0 rest hm hok heq => ?_⟩
        · refine (CA W' (hE.next hB)).mono ?_
          rintro x w' ⟨hb, h⟩
          rcases h with ⟨v2, hv2, _⟩ | ⟨_, hx⟩
          · rw [hat] at hv2; cases hv2
          · exact ⟨hx, hb⟩
        · obtain ⟨d, ds, e1, h9, ha, h4, h5⟩ := fin t0 rest hm hok heq
          have hu := first93 dB.data.toList (d :: ds) _ _ (hc.symm.trans h4) h93 h9
          rw [hu, ha] at hat; cases hat
      | range =>
        refine ⟨⟨0, Pm.nul, 0⟩, 0, by omega, fun W _ _ hE => step_at s p1 p2 p3 p4 p5 p6 ⟨0, Pm.nul, 0⟩ 0 W (fun W' hB => ?_), fun t0 rest hm hok heq => ?_⟩
        · refine (CA W' (hE.next hB)).mono ?_
          rintro x w' ⟨hb, h⟩
          rcases h with ⟨v2, hv2, _⟩ | ⟨_, hx⟩
          · rw [hat] at hv2; cases hv2
          · exact ⟨hx, hb⟩
        · obtain ⟨d, ds, e1, h9, ha, h4, h5⟩ := fin t0 rest hm hok heq
          have hu := first93 dB.data.toList (d :: ds) _ _ (hc.symm.trans h4) h93 h9
          rw [hu, ha] at hat; cases hat
  refine ⟨⟨0, Pm.nul, 0⟩, 0, by omega, fun W _ _ _ => step_none s p1 p2 p3 p4 p5 p6 W, fun t0 rest hm hr he => ?_⟩
  exfalso
  unfold pfx at p1 p4 p6
  rw [he] at p1 p4 p6
  rcases form_of hm with ⟨c, k, e, h, hc, hi, p⟩ | ⟨q, e, hv, h24, hq, p⟩ | ⟨d, ds, e, hd, h9, ha, p⟩ | ⟨e, p⟩ | ⟨e, p⟩ | ⟨e, p⟩
  case inl => rw [p] at p4; simp [Lib.hasPrefix, List.isPrefixOf] at p4
  case inr.inr.inr.inl => rw [p] at p4; simp [Lib.hasPrefix, List.isPrefixOf] at p4
  case inr.inr.inr.inr.inr => rw [p] at p1; simp [Lib.hasPrefix, List.isPrefixOf] at p1
  all_goals (rw [p] at p6; simp [Lib.hasPrefix, List.isPrefixOf] at p6)
end Go.Proofs.YtomhgafpjpnmdaaGreatDoor
