/- What is proved here: plain facts on patterns and places: which lead where, read from the front, in parts, by going back to the last step that may be any row, and by rows of answers; conditions: none. It imports nothing of any program. -/
import Derived.PlainAid
namespace Go.Proofs.YtomhgafpjpnmdaaGreatDoor.Pm
set_option linter.unusedVariables false
set_option linter.unusedSimpArgs false

structure St where
  k : Int
  s : ByteArray
  n : Int
deriving DecidableEq
def nul : ByteArray := ⟨#[]⟩
/-- A step with nothing but what one of its kind has. -/
def bareS (t : St) : St := if t.k = 1 then ⟨1, t.s, 0⟩ else if t.k = 2 then ⟨2, nul, t.n⟩ else ⟨t.k, nul, 0⟩
/-- Whether a step leads to one of a place. -/
def leadB (t x : St) : Bool := if t.k = 1 ∨ t.k = 2 then decide (bareS x = bareS t) else if t.k = 3 then decide (x.k = 1) else if t.k = 4 then decide (x.k = 2) else false
def oneB (t x : St) : Bool := if t.k = 3 then decide (x.k = 1) else if t.k = 4 then decide (x.k = 2) else decide (t = x)
/-- Whether a pattern leads to a place. -/
def stp (p : St → Bool) (f : List St → Bool) : List St → Bool
  | [] => false
  | x :: r => p x && f r
def mt : List St → List St → Bool
  | [], a => a.isEmpty
  | t :: l, a => if t.k = 5 then (List.range (a.length + 1)).any fun i => mt l (a.drop i) else stp (leadB t) (mt l) a
theorem mt_nil (a : List St) : mt [] a = true ↔ a = [] := by cases a <;> simp [mt]
theorem mt_deep {t : St} (ht : t.k = 5) (l a : List St) : mt (t :: l) a = true ↔ ∃ i, i ≤ a.length ∧ mt l (a.drop i) = true := by
  rw [mt, if_pos ht, List.any_eq_true]
  constructor
  · rintro ⟨i, hi, h⟩
    exact ⟨i, by have := List.mem_range.1 hi; omega, h⟩
  · rintro ⟨i, hi, h⟩
    exact ⟨i, List.mem_range.2 (by omega), h⟩
theorem mt_one {t : St} (ht : t.k ≠ 5) (l a : List St) : mt (t :: l) a = true ↔ ∃ x r, a = x :: r ∧ leadB t x = true ∧ mt l r = true := by
  rw [mt, if_neg ht]
  cases a with
  | nil => simp [stp]
  | cons y q =>
    constructor
    · intro h; rw [stp, Bool.and_eq_true] at h; exact ⟨y, q, rfl, h.1, h.2⟩
    · rintro ⟨x, r, e, h1, h2⟩
      obtain ⟨rfl, rfl⟩ := List.cons.inj e
      rw [stp, h1, h2]; rfl
theorem mt_app : ∀ (l1 l2 a : List St), mt (l1 ++ l2) a = true ↔ ∃ i, i ≤ a.length ∧ mt l1 (a.take i) = true ∧ mt l2 (a.drop i) = true
  | [], l2, a => by
    constructor
    · intro h; exact ⟨0, by omega, rfl, h⟩
    · rintro ⟨i, hi, h1, h2⟩
      have := (mt_nil _).1 h1
      have h0 : i = 0 ∨ a = [] := by
        cases a with
        | nil => exact .inr rfl
        | cons x r => cases i with
          | zero => exact .inl rfl
          | succ i => simp at this
      rcases h0 with rfl | rfl
      · exact h2
      · simpa using h2
  | t :: l, l2, a => by
    by_cases ht : t.k = 5
    · rw [List.cons_append, mt_deep ht]
      constructor
      · rintro ⟨i, hi, h⟩
        obtain ⟨j, hj, h1, h2⟩ := (mt_app l l2 _).1 h
        rw [List.length_drop] at hj
        rw [List.drop_drop] at h2
        refine ⟨i + j, by omega, (mt_deep ht _ _).2 ⟨i, by rw [List.length_take]; omega, ?_⟩, h2⟩
        rw [List.drop_take, Nat.add_sub_cancel_left]
        exact h1
      · rintro ⟨j, hj, h1, h2⟩
        obtain ⟨i, hi, h⟩ := (mt_deep ht _ _).1 h1
        rw [List.length_take] at hi
        refine ⟨i, by omega, (mt_app l l2 _).2 ⟨j - i, by rw [List.length_drop]; omega, by rwa [List.drop_take] at h, ?_⟩⟩
        rw [List.drop_drop, show i + (j - i) = j by omega]
        exact h2
    · rw [List.cons_append, mt_one ht]
      constructor
      · rintro ⟨x, r, rfl, hx, h⟩
        obtain ⟨j, hj, h1, h2⟩ := (mt_app l l2 _).1 h
        exact ⟨j + 1, by simp; omega, (mt_one ht _ _).2 ⟨x, r.take j, rfl, hx, h1⟩, h2⟩
      · rintro ⟨j, hj, h1, h2⟩
        obtain ⟨x, r, e, hx, h⟩ := (mt_one ht _ _).1 h1
        cases a with
        | nil => simp at e
        | cons y q =>
          cases j with
          | zero => simp at e
          | succ j =>
            simp only [List.take_succ_cons, List.cons.injEq] at e
            obtain ⟨rfl, rfl⟩ := e
            exact ⟨y, q, rfl, hx, (mt_app l l2 _).2 ⟨j, by simpa using hj, h, h2⟩⟩
def deepS : St := ⟨5, nul, 0⟩
theorem mt_any {t : St} (ht : t.k = 5) (a : List St) : mt [t] a = true := (mt_deep ht _ _).2 ⟨a.length, Nat.le_refl _, by rw [List.drop_length]; rfl⟩
/-- A step that may be any row, at the end. -/
theorem mt_end {t : St} (ht : t.k = 5) (l a : List St) : mt (l ++ [t]) a = true ↔ ∃ i, i ≤ a.length ∧ mt l (a.take i) = true := by
  rw [mt_app]
  constructor
  · rintro ⟨i, h, h1, _⟩; exact ⟨i, h, h1⟩
  · rintro ⟨i, h, h1⟩; exact ⟨i, h, h1, mt_any ht _⟩
theorem mt_end2 {t : St} (ht : t.k = 5) (l a : List St) : mt (l ++ [t, t]) a = mt (l ++ [t]) a := by
  rw [Bool.eq_iff_iff, mt_end ht, show l ++ [t, t] = (l ++ [t]) ++ [t] by simp, mt_end ht]
  constructor
  · rintro ⟨i, h, h1⟩
    obtain ⟨j, hj, h2⟩ := (mt_end ht _ _).1 h1
    rw [List.length_take] at hj
    refine ⟨j, by omega, ?_⟩
    rwa [List.take_take, Nat.min_eq_left (by omega)] at h2
  · rintro ⟨i, h, h1⟩
    exact ⟨i, h, (mt_end ht _ _).2 ⟨i, by rw [List.length_take]; omega, by rwa [List.take_take, Nat.min_self]⟩⟩

/-! ### a row of steps, each alone -/
def each : List St → List St → Bool
  | [], [] => true
  | t :: l, x :: r => leadB t x && each l r
  | _, _ => false
theorem mt_each : ∀ (l a : List St), (∀ t ∈ l, t.k ≠ 5) → mt l a = each l a
  | [], [], _ => rfl
  | [], x :: r, _ => rfl
  | t :: l, [], h => by rw [mt, if_neg (h t (by simp))]; rfl
  | t :: l, x :: r, h => by
    rw [mt, if_neg (h t (by simp)), each]
    show (leadB t x && mt l r) = _
    rw [mt_each l r (fun u hu => h u (by simp [hu]))]
theorem each_len : ∀ {l a : List St}, each l a = true → l.length = a.length
  | [], [], _ => rfl
  | t :: l, x :: r, h => by
    rw [each, Bool.and_eq_true] at h
    simp [each_len h.2]
theorem each_app : ∀ (l1 l2 a1 a2 : List St), l1.length = a1.length → each (l1 ++ l2) (a1 ++ a2) = (each l1 a1 && each l2 a2)
  | [], l2, [], a2, _ => by simp [each]
  | t :: l, l2, x :: r, a2, h => by
    rw [List.cons_append, List.cons_append, each, each, each_app l l2 r a2 (by simpa using h), Bool.and_assoc]
theorem each_snoc (l a : List St) (t x : St) (h : l.length = a.length) : each (l ++ [t]) (a ++ [x]) = (each l a && leadB t x) := by
  rw [each_app _ _ _ _ h]
  simp [each]

/-! ### the way back to the last step that may be any row -/
/-- What is left of both, from two places on. -/
def R (l a : List St) (i j : Nat) : Bool := mt (l.drop i) (a.drop j)
theorem R_end (l a : List St) : R l a l.length a.length = true := by unfold R; simp [mt]
theorem R_over (l a : List St) {j : Nat} (h : j < a.length) : R l a l.length j = false := by
  unfold R
  rw [List.drop_length]
  cases e : a.drop j with
  | nil => have := congrArg List.length e; rw [List.length_drop] at this; simp at this; omega
  | cons => rfl
theorem R_deep {l a : List St} {i j : Nat} (hi : i < l.length) (h5 : (l[i]'hi).k = 5) : R l a i j = true ↔ ∃ e, j ≤ e ∧ e ≤ max j a.length ∧ R l a (i + 1) e = true := by
  unfold R
  rw [List.drop_eq_getElem_cons hi, mt_deep h5]
  constructor
  · rintro ⟨e, h1, h2⟩
    rw [List.length_drop] at h1
    rw [List.drop_drop] at h2
    exact ⟨j + e, by omega, by omega, h2⟩
  · rintro ⟨e, h1, h2, h3⟩
    refine ⟨e - j, by rw [List.length_drop]; omega, ?_⟩
    rw [List.drop_drop, show j + (e - j) = e by omega]
    exact h3
theorem R_yes {l a : List St} {i j : Nat} (hi : i < l.length) (hj : j < a.length) (h5 : (l[i]'hi).k ≠ 5) : R l a i j = (leadB (l[i]'hi) (a[j]'hj) && R l a (i + 1) (j + 1)) := by
  unfold R
  rw [List.drop_eq_getElem_cons hi, List.drop_eq_getElem_cons hj, mt, if_neg h5]
  rfl
theorem R_none {l a : List St} {i : Nat} (hi : i < l.length) (h5 : (l[i]'hi).k ≠ 5) : R l a i a.length = false := by
  unfold R
  rw [List.drop_eq_getElem_cons hi, List.drop_length, mt, if_neg h5]
  rfl
/-- How far it has come: what is asked is what is left, or, behind a step that may be any row, what lies further down. -/
def Inv (l a : List St) (i j d e : Nat) : Prop :=
  i ≤ l.length ∧ j ≤ a.length ∧ (d = 0 → e = 0 ∧ mt l a = R l a i j) ∧
  (0 < d → d ≤ i ∧ e ≤ j ∧ i - d = j - e ∧ (∀ q, ∀ h : q < l.length, d ≤ q → q < i → (l[q]'h).k ≠ 5) ∧ (∃ h : d - 1 < l.length, (l[d - 1]'h).k = 5) ∧ mt l a = R l a (d - 1) e ∧
    (∀ e', R l a d e' = true → R l a i (e' + (i - d)) = true ∧ e' + (i - d) ≤ max e' a.length) ∧ R l a d e = R l a i j)
theorem Inv.start (l a : List St) : Inv l a 0 0 0 0 := ⟨by omega, by omega, fun _ => ⟨rfl, rfl⟩, fun h => absurd h (by omega)⟩
theorem R_back {l a : List St} {d e : Nat} (h : d - 1 < l.length) (hd : 0 < d) (h5 : (l[d - 1]'h).k = 5) (he : e ≤ a.length) : R l a (d - 1) e = (R l a d e || (decide (e < a.length) && R l a (d - 1) (e + 1))) := by
  rw [Bool.eq_iff_iff, R_deep h h5, show d - 1 + 1 = d by omega, Bool.or_eq_true, Bool.and_eq_true, decide_eq_true_eq, R_deep h h5, show d - 1 + 1 = d by omega]
  constructor
  · rintro ⟨q, h1, h2, h3⟩
    by_cases hq : q = e
    · exact .inl (hq ▸ h3)
    · exact .inr ⟨by omega, q, by omega, by omega, h3⟩
  · rintro (h1 | ⟨h0, q, h1, h2, h3⟩)
    · exact ⟨e, by omega, by omega, h1⟩
    · exact ⟨q, by omega, by omega, h3⟩
/-- A step that may be any row comes: it is the last one from now on. -/
theorem Inv.deep {l a : List St} {i j d e : Nat} (h : Inv l a i j d e) (hi : i < l.length) (h5 : (l[i]'hi).k = 5) : Inv l a (i + 1) j (i + 1) j := by
  obtain ⟨h1, h2, h3, h4⟩ := h
  have key : mt l a = R l a i j := by
    by_cases hd : d = 0
    · exact (h3 hd).2
    · obtain ⟨g1, g2, g3, g4, ⟨hl, g5⟩, g6, g7, g8⟩ := h4 (by omega)
      rw [g6, R_back hl (by omega) g5 (by omega), g8]
      cases hr : R l a i j with
      | true => rfl
      | false =>
        rw [Bool.false_or]
        by_cases he : e < a.length
        case neg => rw [decide_eq_false he]; rfl
        rw [Bool.and_eq_false_iff]
        right
        cases hb : R l a (d - 1) (e + 1) with
        | false => rfl
        | true =>
          exfalso
          obtain ⟨q, k1, k2, k3⟩ := (R_deep hl g5).1 hb
          rw [show d - 1 + 1 = d by omega] at k3
          obtain ⟨m1, m2⟩ := g7 q k3
          obtain ⟨p, n1, n2, n3⟩ := (R_deep hi h5).1 m1
          have : R l a i j = true := (R_deep hi h5).2 ⟨p, by omega, by omega, n3⟩
          rw [hr] at this; cases this
  refine ⟨hi, h2, fun h => absurd h (by omega), fun _ => ⟨Nat.le_refl _, Nat.le_refl _, by omega, fun q _ a b => absurd a (by omega), ⟨by simpa using hi, by simpa using h5⟩, by simpa using key, fun e' he => ⟨by simpa using he, by omega⟩, rfl⟩⟩
theorem Inv.yes {l a : List St} {i j d e : Nat} (h : Inv l a i j d e) (hi : i < l.length) (hj : j < a.length) (h5 : (l[i]'hi).k ≠ 5) (hy : leadB (l[i]'hi) (a[j]'hj) = true) : Inv l a (i + 1) (j + 1) d e := by
  obtain ⟨h1, h2, h3, h4⟩ := h
  have hR := R_yes hi hj h5
  rw [hy, Bool.true_and] at hR
  refine ⟨hi, hj, fun hd => ⟨(h3 hd).1, by rw [(h3 hd).2, hR]⟩, fun hd => ?_⟩
  obtain ⟨g1, g2, g3, g4, g5, g6, g7, g8⟩ := h4 hd
  refine ⟨by omega, by omega, by omega, fun q hq a b => ?_, g5, g6, fun e' he => ?_, by rw [g8, hR]⟩
  · by_cases hqi : q = i
    · subst hqi; exact h5
    · exact g4 q hq a (by omega)
  · obtain ⟨m1, m2⟩ := g7 e' he
    by_cases hlt : e' + (i - d) < a.length
    · rw [R_yes hi hlt h5, Bool.and_eq_true] at m1
      exact ⟨by rw [show e' + (i + 1 - d) = e' + (i - d) + 1 by omega]; exact m1.2, by omega⟩
    · exfalso
      unfold R at m1
      rw [List.drop_eq_getElem_cons hi, show a.drop (e' + (i - d)) = [] from List.drop_of_length_le (by omega), mt, if_neg h5] at m1
      cases m1
/-- It does not go on here. -/
theorem Inv.no {l a : List St} {i j d e : Nat} (h : Inv l a i j d e) (hj : j < a.length) (hn : R l a i j = false) : (d = 0 → mt l a = false) ∧ (0 < d → Inv l a d (e + 1) d (e + 1)) := by
  obtain ⟨h1, h2, h3, h4⟩ := h
  refine ⟨fun hd => by rw [(h3 hd).2, hn], fun hd => ?_⟩
  obtain ⟨g1, g2, g3, g4, ⟨hl, g5⟩, g6, g7, g8⟩ := h4 hd
  refine ⟨by omega, by omega, fun h => absurd h (by omega), fun _ => ⟨Nat.le_refl _, Nat.le_refl _, by omega, fun q _ a b => absurd a (by omega), ⟨hl, g5⟩, ?_, fun e' he => ⟨by simpa using he, by omega⟩, rfl⟩⟩
  rw [g6, R_back hl hd g5 (by omega), g8, hn, decide_eq_true (show e < a.length by omega)]
  simp
theorem R_no {l a : List St} {i j : Nat} (hj : j < a.length) (h : i ≤ l.length) (hn : ∀ hi : i < l.length, (l[i]'hi).k ≠ 5 ∧ leadB (l[i]'hi) (a[j]'hj) = false) : R l a i j = false := by
  by_cases hi : i < l.length
  · rw [R_yes hi hj (hn hi).1, (hn hi).2]; rfl
  · rw [show i = l.length by omega]; exact R_over l a hj
/-- All of the place is behind it. -/
theorem Inv.last {l a : List St} {i d e : Nat} (h : Inv l a i a.length d e) : mt l a = R l a i a.length := by
  obtain ⟨h1, h2, h3, h4⟩ := h
  by_cases hd : d = 0
  · exact (h3 hd).2
  · obtain ⟨g1, g2, g3, g4, ⟨hl, g5⟩, g6, g7, g8⟩ := h4 (by omega)
    rw [g6, R_back hl (by omega) g5 (by omega), g8]
    have : (decide (e < a.length) && R l a (d - 1) (e + 1)) = false := by
      rw [Bool.and_eq_false_iff]
      by_cases he : e < a.length
      · right
        cases hb : R l a (d - 1) (e + 1) with
        | false => rfl
        | true =>
          exfalso
          obtain ⟨q, k1, k2, k3⟩ := (R_deep hl g5).1 hb
          rw [show d - 1 + 1 = d by omega] at k3
          obtain ⟨m1, m2⟩ := g7 q k3
          omega
      · exact .inl (decide_eq_false he)
    rw [this, Bool.or_false]
theorem R_last {l a : List St} {i : Nat} (hi : i < l.length) (h5 : (l[i]'hi).k = 5) : R l a i a.length = R l a (i + 1) a.length := by
  rw [Bool.eq_iff_iff, R_deep hi h5]
  constructor
  · rintro ⟨e, h1, h2, h3⟩
    rwa [show e = a.length by omega] at h3
  · intro h; exact ⟨a.length, by omega, by omega, h⟩
/-- How much is left to do. -/
def left (L N d e j : Nat) : Nat := (L - d) * ((N + 2) * (N + 2)) + (N - e) * (N + 2) + (N - j)
theorem left_deep {L N d e i j : Nat} (hd : d ≤ i) (hi : i < L) (he : e ≤ j) : left L N (i + 1) j j < left L N d e j := by
  unfold left
  have h1 : (L - (i + 1) + 1) * ((N + 2) * (N + 2)) ≤ (L - d) * ((N + 2) * (N + 2)) := Nat.mul_le_mul_right _ (by omega)
  have h2 : (N - j) * (N + 2) ≤ (N - e) * (N + 2) := Nat.mul_le_mul_right _ (by omega)
  rw [Nat.add_mul] at h1
  have h3 : 1 ≤ (N + 2) * (N + 2) := Nat.mul_pos (by omega) (by omega)
  omega
theorem left_yes {L N d e j : Nat} (hj : j < N) : left L N d e (j + 1) < left L N d e j := by unfold left; omega
theorem left_no {L N d e j : Nat} (he : e < N) : left L N d (e + 1) (e + 1) < left L N d e j := by
  unfold left
  have h1 : (N - (e + 1) + 1) * (N + 2) = (N - e) * (N + 2) := by rw [show N - (e + 1) + 1 = N - e by omega]
  rw [Nat.add_mul] at h1
  omega

/-! ### rows of answers -/
/-- Whether the first i steps lead to the first k of a place. -/
def pre (l a : List St) (i k : Nat) : Bool := mt (l.take i) (a.take k)
theorem pre_zero (l a : List St) (k : Nat) (hk : k ≤ a.length) : pre l a 0 k = decide (k = 0) := by
  unfold pre
  rw [Bool.eq_iff_iff, List.take_zero, mt_nil, decide_eq_true_eq]
  constructor
  · intro h
    have := congrArg List.length h
    rw [List.length_take, List.length_nil] at this
    omega
  · rintro rfl; rfl
theorem take_snoc {α : Type} (l : List α) (i : Nat) (h : i < l.length) : l.take (i + 1) = l.take i ++ [l[i]'h] := List.take_succ_eq_append_getElem h
theorem pre_deep (l a : List St) (i k : Nat) (hi : i < l.length) (hk : k ≤ a.length) (h5 : (l[i]'hi).k = 5) : pre l a (i + 1) k = (pre l a i k || (decide (0 < k) && pre l a (i + 1) (k - 1))) := by
  have hm : ∀ n, n ≤ a.length → (pre l a (i + 1) n = true ↔ ∃ j, j ≤ n ∧ pre l a i j = true) := by
    intro n hn
    unfold pre
    rw [take_snoc l i hi, mt_end h5]
    constructor
    · rintro ⟨j, h1, h2⟩
      rw [List.length_take] at h1
      rw [List.take_take, Nat.min_eq_left (by omega)] at h2
      exact ⟨j, by omega, h2⟩
    · rintro ⟨j, h1, h2⟩
      exact ⟨j, by rw [List.length_take]; omega, by rwa [List.take_take, Nat.min_eq_left h1]⟩
  rw [Bool.eq_iff_iff, hm k hk, Bool.or_eq_true, Bool.and_eq_true, decide_eq_true_eq]
  constructor
  · rintro ⟨j, h1, h2⟩
    by_cases hj : j = k
    · exact .inl (hj ▸ h2)
    · exact .inr ⟨by omega, (hm _ (by omega)).2 ⟨j, by omega, h2⟩⟩
  · rintro (h | ⟨h0, h⟩)
    · exact ⟨k, Nat.le_refl _, h⟩
    · obtain ⟨j, h1, h2⟩ := (hm _ (by omega)).1 h
      exact ⟨j, by omega, h2⟩
theorem pre_one0 (l a : List St) (i : Nat) (hi : i < l.length) (h5 : (l[i]'hi).k ≠ 5) : pre l a (i + 1) 0 = false := by
  unfold pre
  rw [← Bool.not_eq_true, take_snoc l i hi, mt_app]
  rintro ⟨j, h1, h2, h3⟩
  rw [mt_one h5] at h3
  obtain ⟨x, r, e, _⟩ := h3
  simp at e
theorem pre_one (l a : List St) (i k : Nat) (hi : i < l.length) (hk : k < a.length) (h5 : (l[i]'hi).k ≠ 5) : pre l a (i + 1) (k + 1) = (pre l a i k && leadB (l[i]'hi) (a[k]'hk)) := by
  unfold pre
  rw [Bool.eq_iff_iff, take_snoc l i hi, take_snoc a k hk, mt_app, Bool.and_eq_true]
  have hlen : (a.take k ++ [a[k]'hk]).length = k + 1 := by rw [List.length_append, List.length_take]; simp; omega
  constructor
  · rintro ⟨j, h1, h2, h3⟩
    obtain ⟨x, r, e, hx, hr⟩ := (mt_one h5 _ _).1 h3
    have hl := congrArg List.length e
    rw [(mt_nil _).1 hr, List.length_drop, hlen] at hl
    simp at hl
    obtain rfl : j = k := by omega
    rw [List.take_append_of_le_length (by rw [List.length_take]; omega), List.take_take, Nat.min_self] at h2
    rw [List.drop_append_of_le_length (by rw [List.length_take]; omega), List.drop_of_length_le (by rw [List.length_take]; omega)] at e
    simp at e
    exact ⟨h2, by rw [e.1]; exact hx⟩
  · rintro ⟨h1, h2⟩
    refine ⟨k, by omega, ?_, ?_⟩
    · rw [List.take_append_of_le_length (by rw [List.length_take]; omega), List.take_take, Nat.min_self]
      exact h1
    · rw [List.drop_append_of_le_length (by rw [List.length_take]; omega), List.drop_of_length_le (by rw [List.length_take]; omega)]
      exact (mt_one h5 _ _).2 ⟨_, [], rfl, h2, rfl⟩
theorem pre_all (l a : List St) : pre l a l.length a.length = mt l a := by unfold pre; rw [List.take_length, List.take_length]

/-! ### places -/
/-- A step of a place. -/
def Pl (x : St) : Prop := (x.k = 1 ∧ x.n = 0) ∨ (x.k = 2 ∧ x.s = nul)
theorem Pl.bare {x : St} (h : Pl x) : bareS x = x := by
  obtain ⟨k, s, n⟩ := x
  rcases h with ⟨h1, h2⟩ | ⟨h1, h2⟩
  · simp only at h1 h2; subst h1 h2; rfl
  · simp only at h1 h2; subst h1 h2; rfl
theorem Pl.kind {x : St} (h : Pl x) : x.k = 1 ∨ x.k = 2 := by rcases h with h | h; exact .inl h.1; exact .inr h.1
theorem lead_pl {t x : St} (ht : Pl t) (hx : Pl x) : leadB t x = decide (t = x) := by
  unfold leadB
  rw [if_pos ht.kind, hx.bare, ht.bare, Bool.eq_iff_iff, decide_eq_true_eq, decide_eq_true_eq]
  exact eq_comm
theorem each_pl : ∀ (l a : List St), (∀ t ∈ l, Pl t) → (∀ x ∈ a, Pl x) → each l a = decide (l = a)
  | [], [], _, _ => rfl
  | [], x :: r, _, _ => by simp [each]
  | t :: l, [], _, _ => by simp [each]
  | t :: l, x :: r, h1, h2 => by
    rw [each, lead_pl (h1 t (by simp)) (h2 x (by simp)), each_pl l r (fun u hu => h1 u (by simp [hu])) (fun u hu => h2 u (by simp [hu])), Bool.eq_iff_iff]
    simp
theorem pl_no5 {l : List St} (h : ∀ t ∈ l, Pl t) : ∀ t ∈ l, t.k ≠ 5 := fun t ht e => by rcases (h t ht).kind with h | h <;> omega
theorem mt_pl (l a : List St) (h1 : ∀ t ∈ l, Pl t) (h2 : ∀ x ∈ a, Pl x) : mt l a = decide (l = a) := by rw [mt_each l a (pl_no5 h1), each_pl l a h1 h2]
/-- A pattern behind a place leads where it leads, below it. -/
theorem mt_below (a b l : List St) (ha : ∀ x ∈ a, Pl x) : mt (a ++ l) (a ++ b) = mt l b := by
  induction a with
  | nil => rfl
  | cons x r ih =>
    have hx := ha x (by simp)
    have h5 : x.k ≠ 5 := by rcases hx.kind with h | h <;> omega
    rw [List.cons_append, List.cons_append, mt, if_neg h5]
    show (leadB x x && mt (r ++ l) (r ++ b)) = _
    rw [lead_pl hx hx, ih (fun u hu => ha u (by simp [hu]))]
    simp
/-- What leads to whatever a step of a place is. -/
def anyS (x : St) : St := ⟨if x.k = 1 then 3 else 4, nul, 0⟩
theorem lead_any {x : St} (h : Pl x) : leadB (anyS x) x = true ∧ (anyS x).k ≠ 5 := by
  unfold leadB anyS
  rcases h.kind with h | h <;> simp [h]
theorem mt_anys (a : List St) (ha : ∀ x ∈ a, Pl x) : mt (a.map anyS) a = true := by
  induction a with
  | nil => rfl
  | cons x r ih =>
    obtain ⟨h1, h2⟩ := lead_any (ha x (by simp))
    rw [List.map_cons, mt, if_neg h2]
    show (leadB (anyS x) x && mt (r.map anyS) r) = true
    rw [h1, ih (fun u hu => ha u (by simp [hu]))]
    rfl
/-- A step that may be, but for its key. -/
def Cl (t : St) : Prop := bareS t = t ∧ 1 ≤ t.k ∧ t.k ≤ 5
theorem one_lead {t x : St} (ht : Cl t) (h5 : t.k ≠ 5) (hx : Pl x) : oneB t x = leadB t x := by
  obtain ⟨h1, h2, h3⟩ := ht
  unfold oneB leadB
  by_cases a : t.k = 3
  · simp [a]
  by_cases b : t.k = 4
  · simp [b]
  have c : t.k = 1 ∨ t.k = 2 := by omega
  rw [if_neg a, if_neg b, if_pos c, hx.bare, h1, Bool.eq_iff_iff, decide_eq_true_eq, decide_eq_true_eq]
  exact eq_comm
/-- A place of steps, of those that are some. -/
def plS (x : St) : List St := if x.k = 1 then [⟨1, x.s, 0⟩] else if x.k = 2 ∧ 0 ≤ x.n then [⟨2, nul, x.n⟩] else []
def plL (L : List St) : List St := (L.take 12).flatMap plS
theorem plS_pl (x : St) : ∀ y ∈ plS x, Pl y := by
  intro y hy
  unfold plS at hy
  split at hy
  · rw [List.mem_singleton.1 hy]; exact .inl ⟨rfl, rfl⟩
  · split at hy
    · rw [List.mem_singleton.1 hy]; exact .inr ⟨rfl, rfl⟩
    · simp at hy
theorem plL_pl (L : List St) : ∀ y ∈ plL L, Pl y := by
  intro y hy
  obtain ⟨x, _, h⟩ := List.mem_flatMap.1 hy
  exact plS_pl x y h
theorem plS_len (x : St) : (plS x).length ≤ 1 := by unfold plS; split <;> (try split) <;> simp
theorem flat_le : ∀ (l : List St), (l.flatMap plS).length ≤ l.length
  | [] => by simp
  | x :: r => by
    rw [List.flatMap_cons, List.length_append, List.length_cons]
    have := plS_len x
    have := flat_le r
    omega
theorem plL_len (L : List St) : (plL L).length ≤ 12 := by
  unfold plL
  have := flat_le (L.take 12)
  rw [List.length_take] at this
  omega
end Go.Proofs.YtomhgafpjpnmdaaGreatDoor.Pm
