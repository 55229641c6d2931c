/- What is proved here: plain facts on names, rows of names, and masks; conditions: none. It imports nothing of any program. What is proved here: plain facts on what the map from names to bits holds, round by round; conditions: none. It imports nothing of any program. What is proved here: plain facts on the names of masks, and on texts that are joined by blanks; conditions: none. It imports nothing of any program. What is proved here: plain facts on the texts between blanks, and on the masks of names; conditions: none. It imports nothing of any program. What is proved here: plain facts on patterns and places: which lead where, read from the front, in parts, by going back to the last step that may be any row, and by rows of answers; conditions: none. It imports nothing of any program. What is proved here: plain facts on the runes of texts, on how texts are quoted, and read again; conditions: none. It imports nothing of any program but plain facts. What is proved here: plain facts on how quoted texts are read, and that what was quoted is read as it was; conditions: none. It imports nothing of any program but plain facts. What is proved here: plain facts on quoted texts that stand together, on their bytes and their length; conditions: none. It imports nothing of any program but plain facts. What is proved here: plain facts on cuts of texts, on what is read, and on quoted texts one behind the other; conditions: none. It imports nothing of any program but plain facts. What is proved here: plain facts on what stands between two runes that are read: what is read so far, what is held of it, and what is left; conditions: none. It imports nothing of any program but plain facts. What is proved here: plain facts on how the document's own answer reads a rune, byte by byte, and quotes a text; conditions: none. It imports nothing of any program but plain facts. -/
import Derived.PlainAid
import Derived.Maps.OwnSet
import Derived.Lib.MapLaws
import Derived.Lib.ValidLaws
import Derived.Lib.TrimAscii
namespace Go.Proofs.YtppkknmgdahniaaDoor.Cm
set_option maxRecDepth 100000
set_option linter.unusedVariables false

abbrev Tx := List UInt8
def letB (c : UInt8) : Bool := decide (97 ≤ c.toNat) && decide (c.toNat ≤ 122)
def inB (c : UInt8) : Bool := letB c || (decide (48 ≤ c.toNat) && decide (c.toNat ≤ 57)) || decide (c.toNat = 95)
/-- Whether a text may be a name. -/
def nameB (l : Tx) : Bool := decide (1 ≤ l.length) && decide (l.length ≤ 24) && letB (l.getD 0 0) && l.all inB
/-- The bit of the category at a place; none behind the 64th. -/
def bitN (i : Nat) : Nat := if i < 64 then 2 ^ i else 0
/-- Whether a row of categories may be. -/
def mayE (L : List Tx) : Nat := if 64 < L.length then 3 else if L.all nameB && decide L.Nodup then 0 else 20
/-- The names of a mask, of the first k categories. -/
def selK (L : List Tx) (m k : Nat) : List Tx := ((List.range k).filter fun i => m.testBit i).map fun i => L.getD i []
/-- Texts, a blank ahead of each. -/
def flatB (ws : List Tx) : Tx := (ws.map fun x => 32 :: x).flatten
/-- Texts, a blank between two. -/
def joinB (ws : List Tx) : Tx := (flatB ws).drop 1
/-- Whether each bit of a is one of b. -/
def subB (a b : Nat) : Bool := (a &&& b) == a
theorem subB_iff {a b : Nat} (ha : a < 18446744073709551616) (hb : b < 18446744073709551616) : subB a b = true ↔ a &&& (18446744073709551615 - b) = 0 := by
  unfold subB
  rw [beq_iff_eq]
  have h2 : ∀ i, (18446744073709551615 - b).testBit i = (decide (i < 64) && !b.testBit i) := by
    intro i
    have := Nat.testBit_two_pow_sub_succ (n := 64) (x := b) hb i
    rw [← this]
    congr 1
    omega
  have h3 : ∀ i, a.testBit i = true → i < 64 := by
    intro i hi
    rcases Nat.lt_or_ge i 64 with g | g
    · exact g
    · rw [Nat.testBit_lt_two_pow (Nat.lt_of_lt_of_le (show a < 2 ^ 64 from ha) (Nat.pow_le_pow_right (n := 2) (by omega) g))] at hi
      cases hi
  constructor
  · intro h
    apply Nat.eq_of_testBit_eq
    intro i
    have := congrArg (fun x => x.testBit i) h
    simp only [Nat.testBit_and, h2, Nat.zero_testBit] at this ⊢
    cases ha : a.testBit i <;> cases hb : b.testBit i <;> simp_all
  · intro h
    apply Nat.eq_of_testBit_eq
    intro i
    have := congrArg (fun x => x.testBit i) h
    simp only [Nat.testBit_and, h2, Nat.zero_testBit] at this ⊢
    cases ha : a.testBit i
    · simp
    · have := h3 i ha
      cases hb : b.testBit i <;> simp_all
end Go.Proofs.YtppkknmgdahniaaDoor.Cm

namespace Go.Proofs.YtppkknmgdahniaaDoor.Cm
set_option maxRecDepth 100000
open Go.Maps
set_option linter.unusedVariables false

/-- The bits of a name among the first k categories. -/
def valK (L : List Tx) : Nat → Tx → Nat
  | 0, _ => 0
  | k + 1, x => if L[k]? = some x then valK L k x ||| bitN k else valK L k x
/-- What the map holds behind k rounds. -/
def BitsAt (D : DataW Unit) (L : List Tx) (k : Nat) : Prop :=
  (∀ x, has D (.string x) = decide (x ∈ L.take k)) ∧ (∀ x, D.atKey (.string x) (.lit (.int .u64 0)) = .lit (.int .u64 (valK L k x : Int))) ∧ size D ≤ k ∧ (size D = k ↔ (L.take k).Nodup)
theorem BitsAt.start (L : List Tx) : BitsAt (.map []) L 0 := ⟨fun x => by simp [has], fun x => rfl, Nat.le_refl _, by simp [size]⟩
theorem BitsAt.next {D : DataW Unit} {L : List Tx} {k : Nat} {x : Tx} (h : BitsAt D L k) (ht : Tidy D) (hx : L[k]? = some x) :
    BitsAt (D.put (.string x) (.lit (.int .u64 ((valK L k x ||| bitN k : Nat) : Int)))) L (k + 1) := by
  obtain ⟨h1, h2, h3, h4⟩ := h
  have hk : WideAt.IsKeyLit (.string x) := by first | trivial | exact ⟨_, rfl⟩ | simp [WideAt.IsKeyLit]
  have htk : L.take (k + 1) = L.take k ++ [x] := by rw [List.take_add_one, hx]; rfl
  refine ⟨fun y => ?_, fun y => ?_, ?_, ?_⟩
  · by_cases e : y = x
    · subst e
      rw [has_put_same ht.isMap hk, htk]
      simp
    · rw [has_put_other (by intro q; exact e (by injection q)), h1 y, htk]
      simp [e]
  · have hv : valK L (k + 1) y = if L[k]? = some y then valK L k y ||| bitN k else valK L k y := rfl
    rw [hv]
    by_cases e : y = x
    · subst e
      rw [atKey_put_same ht.isMap hk, if_pos hx]
    · rw [atKey_put_other (by intro q; exact e (by injection q)), h2 y, if_neg (by rw [hx]; intro q; exact e (by injection q with q; exact q.symm))]
  · rw [size_put ht]
    split <;> omega
  · rw [size_put ht, h1 x, htk, List.nodup_append]
    by_cases hm : x ∈ L.take k
    · rw [decide_eq_true hm, if_pos rfl]
      constructor
      · intro e; omega
      · rintro ⟨_, _, e⟩
        exact absurd rfl (e x hm x (by simp))
    · rw [decide_eq_false hm, if_neg (by simp)]
      constructor
      · intro e
        refine ⟨h4.1 (by omega), by simp, ?_⟩
        intro a ha b hb
        rw [List.mem_singleton.1 hb]
        rintro rfl
        exact hm ha
      · rintro ⟨e, _⟩
        rw [h4.2 e]
end Go.Proofs.YtppkknmgdahniaaDoor.Cm

namespace Go.Proofs.YtppkknmgdahniaaDoor.Cm
set_option maxRecDepth 100000
set_option linter.unusedVariables false
set_option linter.unusedSimpArgs false

theorem flatB_snoc (ws : List Tx) (x : Tx) : flatB (ws ++ [x]) = flatB ws ++ 32 :: x := by
  unfold flatB
  simp
theorem flatB_cons (ws : List Tx) (x : Tx) : flatB (x :: ws) = 32 :: (x ++ flatB ws) := by
  unfold flatB
  simp
theorem selK_mem {L : List Tx} {m k : Nat} (hk : k ≤ L.length) {x : Tx} (hx : x ∈ selK L m k) : x ∈ L := by
  unfold selK at hx
  obtain ⟨i, hi, rfl⟩ := List.mem_map.1 hx
  have hi2 := List.mem_range.1 (List.mem_filter.1 hi).1
  rw [List.getD, List.getElem?_eq_getElem (by omega)]
  exact List.getElem_mem _
end Go.Proofs.YtppkknmgdahniaaDoor.Cm

namespace Go.Proofs.YtppkknmgdahniaaDoor.Cm
set_option maxRecDepth 100000
set_option linter.unusedVariables false
set_option linter.unusedSimpArgs false

/-- A word: not empty, no blank in it. -/
def Word (x : Tx) : Prop := x ≠ [] ∧ (32 : UInt8) ∉ x
theorem name_word {x : Tx} (h : nameB x = true) : Word x := by
  unfold nameB at h
  simp only [Bool.and_eq_true, decide_eq_true_eq] at h
  refine ⟨fun e => ?_, fun e => ?_⟩
  · rw [e] at h; simp at h
  · have := List.all_eq_true.1 h.2 32 e
    revert this
    decide
end Go.Proofs.YtppkknmgdahniaaDoor.Cm

namespace Go.Proofs.YtppkknmgdahniaaDoor.Pm
set_option maxRecDepth 100000
set_option linter.unusedVariables false
set_option linter.unusedSimpArgs false

structure St where
  k : Int
  s : ByteArray
  n : Int
deriving DecidableEq
def nul : ByteArray := ⟨#[]⟩
/-- A step with nothing but what one of its kind has. -/
def bareS (t : St) : St := if t.k = 1 then ⟨1, t.s, 0⟩ else if t.k = 2 then ⟨2, nul, t.n⟩ else ⟨t.k, nul, 0⟩
/-- Whether a step leads to one of a place. -/
def leadB (t x : St) : Bool := if t.k = 1 ∨ t.k = 2 then decide (bareS x = bareS t) else if t.k = 3 then decide (x.k = 1) else if t.k = 4 then decide (x.k = 2) else false
/-- Whether a pattern leads to a place. -/
def stp (p : St → Bool) (f : List St → Bool) : List St → Bool
  | [] => false
  | x :: r => p x && f r
def mt : List St → List St → Bool
  | [], a => a.isEmpty
  | t :: l, a => if t.k = 5 then (List.range (a.length + 1)).any fun i => mt l (a.drop i) else stp (leadB t) (mt l) a
theorem mt_deep {t : St} (ht : t.k = 5) (l a : List St) : mt (t :: l) a = true ↔ ∃ i, i ≤ a.length ∧ mt l (a.drop i) = true := by
  rw [mt, if_pos ht, List.any_eq_true]
  constructor
  · rintro ⟨i, hi, h⟩
    exact ⟨i, by have := List.mem_range.1 hi; omega, h⟩
  · rintro ⟨i, hi, h⟩
    exact ⟨i, List.mem_range.2 (by omega), h⟩
/-! ### a row of steps, each alone -/
def each : List St → List St → Bool
  | [], [] => true
  | t :: l, x :: r => leadB t x && each l r
  | _, _ => false
/-! ### the way back to the last step that may be any row -/
/-- What is left of both, from two places on. -/
def R (l a : List St) (i j : Nat) : Bool := mt (l.drop i) (a.drop j)
theorem R_deep {l a : List St} {i j : Nat} (hi : i < l.length) (h5 : (l[i]'hi).k = 5) : R l a i j = true ↔ ∃ e, j ≤ e ∧ e ≤ max j a.length ∧ R l a (i + 1) e = true := by
  unfold R
  rw [List.drop_eq_getElem_cons hi, mt_deep h5]
  constructor
  · rintro ⟨e, h1, h2⟩
    rw [List.length_drop] at h1
    rw [List.drop_drop] at h2
    exact ⟨j + e, by omega, by omega, h2⟩
  · rintro ⟨e, h1, h2, h3⟩
    refine ⟨e - j, by rw [List.length_drop]; omega, ?_⟩
    rw [List.drop_drop, show j + (e - j) = e by omega]
    exact h3
/-- How far it has come: what is asked is what is left, or, behind a step that may be any row, what lies further down. -/
def Inv (l a : List St) (i j d e : Nat) : Prop :=
  i ≤ l.length ∧ j ≤ a.length ∧ (d = 0 → e = 0 ∧ mt l a = R l a i j) ∧
  (0 < d → d ≤ i ∧ e ≤ j ∧ i - d = j - e ∧ (∀ q, ∀ h : q < l.length, d ≤ q → q < i → (l[q]'h).k ≠ 5) ∧ (∃ h : d - 1 < l.length, (l[d - 1]'h).k = 5) ∧ mt l a = R l a (d - 1) e ∧
    (∀ e', R l a d e' = true → R l a i (e' + (i - d)) = true ∧ e' + (i - d) ≤ max e' a.length) ∧ R l a d e = R l a i j)
theorem Inv.start (l a : List St) : Inv l a 0 0 0 0 := ⟨by omega, by omega, fun _ => ⟨rfl, rfl⟩, fun h => absurd h (by omega)⟩
theorem R_back {l a : List St} {d e : Nat} (h : d - 1 < l.length) (hd : 0 < d) (h5 : (l[d - 1]'h).k = 5) (he : e ≤ a.length) : R l a (d - 1) e = (R l a d e || (decide (e < a.length) && R l a (d - 1) (e + 1))) := by
  rw [Bool.eq_iff_iff, R_deep h h5, show d - 1 + 1 = d by omega, Bool.or_eq_true, Bool.and_eq_true, decide_eq_true_eq, R_deep h h5, show d - 1 + 1 = d by omega]
  constructor
  · rintro ⟨q, h1, h2, h3⟩
    by_cases hq : q = e
    · exact .inl (hq ▸ h3)
    · exact .inr ⟨by omega, q, by omega, by omega, h3⟩
  · rintro (h1 | ⟨h0, q, h1, h2, h3⟩)
    · exact ⟨e, by omega, by omega, h1⟩
    · exact ⟨q, by omega, by omega, h3⟩
/-- A step that may be any row comes: it is the last one from now on. -/
theorem Inv.deep {l a : List St} {i j d e : Nat} (h : Inv l a i j d e) (hi : i < l.length) (h5 : (l[i]'hi).k = 5) : Inv l a (i + 1) j (i + 1) j := by
  obtain ⟨h1, h2, h3, h4⟩ := h
  have key : mt l a = R l a i j := by
    by_cases hd : d = 0
    · exact (h3 hd).2
    · obtain ⟨g1, g2, g3, g4, ⟨hl, g5⟩, g6, g7, g8⟩ := h4 (by omega)
      rw [g6, R_back hl (by omega) g5 (by omega), g8]
      cases hr : R l a i j with
      | true => rfl
      | false =>
        rw [Bool.false_or]
        by_cases he : e < a.length
        case neg => rw [decide_eq_false he]; rfl
        rw [Bool.and_eq_false_iff]
        right
        cases hb : R l a (d - 1) (e + 1) with
        | false => rfl
        | true =>
          exfalso
          obtain ⟨q, k1, k2, k3⟩ := (R_deep hl g5).1 hb
          rw [show d - 1 + 1 = d by omega] at k3
          obtain ⟨m1, m2⟩ := g7 q k3
          obtain ⟨p, n1, n2, n3⟩ := (R_deep hi h5).1 m1
          have : R l a i j = true := (R_deep hi h5).2 ⟨p, by omega, by omega, n3⟩
          rw [hr] at this; cases this
  refine ⟨hi, h2, fun h => absurd h (by omega), fun _ => ⟨Nat.le_refl _, Nat.le_refl _, by omega, fun q _ a b => absurd a (by omega), ⟨by simpa using hi, by simpa using h5⟩, by simpa using key, fun e' he => ⟨by simpa using he, by omega⟩, rfl⟩⟩
/-- How much is left to do. -/
def left (L N d e j : Nat) : Nat := (L - d) * ((N + 2) * (N + 2)) + (N - e) * (N + 2) + (N - j)
/-! ### rows of answers -/
/-- Whether the first i steps lead to the first k of a place. -/
def pre (l a : List St) (i k : Nat) : Bool := mt (l.take i) (a.take k)
/-! ### places -/
/-- A step of a place. -/
def Pl (x : St) : Prop := (x.k = 1 ∧ x.n = 0) ∨ (x.k = 2 ∧ x.s = nul)
theorem Pl.bare {x : St} (h : Pl x) : bareS x = x := by
  obtain ⟨k, s, n⟩ := x
  rcases h with ⟨h1, h2⟩ | ⟨h1, h2⟩
  · simp only at h1 h2; subst h1 h2; rfl
  · simp only at h1 h2; subst h1 h2; rfl
/-- A step that may be, but for its key. -/
def Cl (t : St) : Prop := bareS t = t ∧ 1 ≤ t.k ∧ t.k ≤ 5
end Go.Proofs.YtppkknmgdahniaaDoor.Pm

set_option linter.unusedSimpArgs false
set_option linter.unusedVariables false
namespace Go.Proofs.YtppkknmgdahniaaDoor
set_option maxRecDepth 100000
namespace Qm
open Go.Lib

/-! ### runes -/
/-- What stands first is UTF-8. -/
def good (l : List UInt8) : Prop := ¬ ((decodeL l).1 = 65533 ∧ (decodeL l).2 = 1)
/-- A rune that has a form in UTF-8. -/
def Sc (r : Nat) : Prop := r ≤ 1114111 ∧ ¬ (55296 ≤ r ∧ r ≤ 57343)

theorem byteN (z : Int) (h0 : 0 ≤ z) (h1 : z < 256) : (z.toNat.toUInt8).toNat = z.toNat := by
  simp [Nat.toUInt8]
  omega
theorem decode_sc (l : List UInt8) : Sc (decodeL l).1 := by
  rw [decodeL_N]
  have k0 := (l.getD 0 0).toNat_lt
  unfold Sc
  rcases decodeN_shape l.length (l.getD 0 0).toNat (l.getD 1 0).toNat (l.getD 2 0).toNat (l.getD 3 0).toNat with ⟨c, e⟩ | ⟨c1, c2, c3, cv, e⟩ | ⟨c1, c2, c3, c4, cv, cs, e⟩ | ⟨c1, c2, c3, c4, c5, cv, cw, e⟩ | e
  all_goals (rw [e]; dsimp only; omega)
theorem piece (l : List UInt8) (hne : l ≠ []) (hv : good l) : encodeRune ((decodeL l).1 : Int) = l.take (decodeL l).2 := encode_decode l hne hv
theorem piece_len (l : List UInt8) (hne : l ≠ []) : (l.take (decodeL l).2).length = (decodeL l).2 := by
  have := decodeL_le l hne
  rw [List.length_take]; omega
theorem enc_len (r : Int) : 1 ≤ (encodeRune r).length ∧ (encodeRune r).length ≤ 4 := by
  have := encodeRuneZ_length r
  simpa [encodeRune] using this
theorem ind {P : List UInt8 → Prop} (h0 : P []) (h1 : ∀ l, l ≠ [] → P (l.drop (decodeL l).2) → P l) : ∀ (n : Nat) (l : List UInt8), l.length ≤ n → P l
  | 0, l, h => by
    have : l = [] := List.eq_nil_of_length_eq_zero (by omega)
    subst this; exact h0
  | n + 1, l, h => by
    by_cases hne : l = []
    · subst hne; exact h0
    · have hw := decodeL_width l
      have hl : 0 < l.length := List.length_pos_iff.2 hne
      exact h1 l hne (ind h0 h1 n _ (by rw [List.length_drop]; omega))
/-- Rune by rune. -/
theorem runes {P : List UInt8 → Prop} (h0 : P []) (h1 : ∀ l, l ≠ [] → P (l.drop (decodeL l).2) → P l) (l : List UInt8) : P l := ind h0 h1 l.length l (Nat.le_refl _)

theorem valid_good (l : List UInt8) (hne : l ≠ []) (h : validD l = true) : good l ∧ validD (l.drop (decodeL l).2) = true := by
  rw [validD_step l hne] at h
  by_cases g : (decodeL l).1 = 65533 ∧ (decodeL l).2 = 1
  · rw [if_pos g] at h; cases h
  · rw [if_neg g] at h; exact ⟨g, h⟩
/-! ### the pieces of a text: the bytes of each rune -/
/-! ### quotes -/
def hexd (n : Nat) : UInt8 := if n < 10 then UInt8.ofNat (48 + n) else UInt8.ofNat (87 + n)
/-- How a rune is written behind a backslash; empty: as itself. -/
def esc (r : Nat) : List UInt8 :=
  if r = 34 then [92, 34] else if r = 92 then [92, 92] else if r = 10 then [92, 110] else if r = 13 then [92, 114] else if r = 9 then [92, 116]
  else if r < 32 ∨ r = 127 then [92, 117, 48, 48, hexd (r / 16), hexd (r % 16)] else []
theorem esc_small {r : Nat} (h : esc r ≠ []) : r < 128 := by
  by_cases g : r < 128
  · exact g
  · exact absurd (by unfold esc; repeat' split
                     all_goals first | rfl | omega) h
/-- A rune, quoted. -/
def sign (l : List UInt8) : List UInt8 := if esc (decodeL l).1 = [] then l.take (decodeL l).2 else esc (decodeL l).1
def quos : Nat → List UInt8 → List UInt8
  | 0, _ => []
  | n + 1, l => if l = [] then [] else sign l ++ quos n (l.drop (decodeL l).2)
/-- A text, quoted, without the quotes. -/
def quo (l : List UInt8) : List UInt8 := quos l.length l
theorem quos_nil : ∀ n, quos n [] = []
  | 0 => rfl
  | _ + 1 => by simp [quos]
theorem quos_fuel : ∀ (n m : Nat) (l : List UInt8), l.length ≤ n → l.length ≤ m → quos n l = quos m l
  | 0, m, l, hn, _ => by
    have : l = [] := List.eq_nil_of_length_eq_zero (by omega)
    subst this; rw [quos_nil, quos_nil]
  | n + 1, 0, l, _, hm => by
    have : l = [] := List.eq_nil_of_length_eq_zero (by omega)
    subst this; rw [quos_nil, quos_nil]
  | n + 1, m + 1, l, hn, hm => by
    by_cases hne : l = []
    · subst hne; rw [quos_nil, quos_nil]
    · have hw := decodeL_width l
      have hl : 0 < l.length := List.length_pos_iff.2 hne
      simp only [quos, if_neg hne]
      rw [quos_fuel n m _ (by rw [List.length_drop]; omega) (by rw [List.length_drop]; omega)]
theorem quo_nil : quo [] = [] := rfl
theorem quo_step (l : List UInt8) (hne : l ≠ []) : quo l = sign l ++ quo (l.drop (decodeL l).2) := by
  have hw := decodeL_width l
  have hl : 0 < l.length := List.length_pos_iff.2 hne
  unfold quo
  obtain ⟨n, hn⟩ : ∃ n, l.length = n + 1 := ⟨l.length - 1, by omega⟩
  rw [hn]
  simp only [quos, if_neg hne]
  rw [quos_fuel n _ _ (by rw [List.length_drop]; omega) (Nat.le_refl _)]
def quoteL (l : List UInt8) : List UInt8 := 34 :: (quo l ++ [34])
end Qm
end Go.Proofs.YtppkknmgdahniaaDoor

set_option linter.unusedSimpArgs false
set_option linter.unusedVariables false
namespace Go.Proofs.YtppkknmgdahniaaDoor
set_option maxRecDepth 100000
namespace Qm
open Go.Lib

/-! ### reading -/
/-- The worth of a hexadecimal digit. -/
def worth (c : Nat) : Option Nat := if 48 ≤ c ∧ c ≤ 57 then some (c - 48) else if 97 ≤ c ∧ c ≤ 102 then some (c - 87) else if 65 ≤ c ∧ c ≤ 70 then some (c - 55) else none
def digs : List UInt8 → Nat → Option Nat
  | [], n => some n
  | c :: t, n => match worth c.toNat with | none => none | some v => digs t (16 * n + v)
/-- A backslash, u, and four digits. -/
def unitL (l : List UInt8) : Option Nat := if 6 ≤ l.length ∧ l.getD 0 0 = 92 ∧ l.getD 1 0 = 117 then digs ((l.drop 2).take 4) 0 else none
/-- .. or both halves of a rune. -/
def numL (l : List UInt8) : Option (Nat × Nat) :=
  match unitL l with
  | none => none
  | some a => if a < 55296 ∨ 57344 ≤ a then some (a, 6) else
    match unitL (l.drop 6) with
    | none => none
    | some b => if a < 56320 ∧ 56320 ≤ b ∧ b < 57344 then some (65536 + (a - 55296) * 1024 + (b - 56320), 12) else none
def escL (c : Nat) : Option Nat :=
  if c = 34 ∨ c = 92 ∨ c = 47 then some c else if c = 98 then some 8 else if c = 102 then some 12 else if c = 110 then some 10 else if c = 114 then some 13 else if c = 116 then some 9 else none
/-- The rune that is written first, and how many bytes are written for it. -/
def nextL (l : List UInt8) : Option (Nat × Nat) :=
  if l = [] then none
  else if l.getD 0 0 = 92 then
    (if l.length < 2 then none else match escL (l.getD 1 0).toNat with | some r => some (r, 2) | none => numL l)
  else if (decodeL l).1 < 32 ∨ ((decodeL l).1 = 65533 ∧ (decodeL l).2 ≤ 1) then none
  else some (decodeL l)

theorem worth_lt {c v : Nat} (h : worth c = some v) : v < 16 := by
  unfold worth at h
  repeat' split at h
  all_goals first | (cases h; done) | (cases h; omega)
theorem digs_lt : ∀ (l : List UInt8) (n v : Nat), digs l n = some v → v < (n + 1) * 16 ^ l.length
  | [], n, v, h => by simp [digs] at h; subst h; simp
  | c :: t, n, v, h => by
    unfold digs at h
    cases hw : worth c.toNat with
    | none => rw [hw] at h; cases h
    | some x =>
      rw [hw] at h
      have := digs_lt t _ v h
      have hx := worth_lt hw
      have h2 : (16 * n + x + 1) * 16 ^ t.length ≤ (16 * (n + 1)) * 16 ^ t.length := Nat.mul_le_mul_right _ (by omega)
      rw [List.length_cons, Nat.pow_succ, Nat.mul_comm (16 ^ t.length) 16, ← Nat.mul_assoc, Nat.mul_comm (n + 1) 16]
      omega
theorem unit_lt {l : List UInt8} {a : Nat} (h : unitL l = some a) : a < 65536 ∧ 6 ≤ l.length := by
  unfold unitL at h
  split at h
  · rename_i g
    have h1 := digs_lt _ _ _ h
    have h2 : ((l.drop 2).take 4).length = 4 := by rw [List.length_take, List.length_drop]; omega
    rw [h2] at h1
    exact ⟨by omega, g.1⟩
  · cases h
theorem num_ok {l : List UInt8} {r k : Nat} (h : numL l = some (r, k)) : 1 ≤ k ∧ k ≤ l.length ∧ Sc r := by
  unfold numL at h
  cases ha : unitL l with
  | none => rw [ha] at h; cases h
  | some a =>
    rw [ha] at h
    dsimp only at h
    obtain ⟨u1, u2⟩ := unit_lt ha
    split at h
    · rename_i g
      have e1 := congrArg Prod.fst (Option.some.inj h)
      have e2 := congrArg Prod.snd (Option.some.inj h)
      dsimp only at e1 e2
      exact ⟨by omega, by omega, by unfold Sc; omega⟩
    · cases hb : unitL (l.drop 6) with
      | none => rw [hb] at h; cases h
      | some b =>
        rw [hb] at h
        dsimp only at h
        obtain ⟨w1, w2⟩ := unit_lt hb
        rw [List.length_drop] at w2
        split at h
        · rename_i g
          have e1 := congrArg Prod.fst (Option.some.inj h)
          have e2 := congrArg Prod.snd (Option.some.inj h)
          dsimp only at e1 e2
          exact ⟨by omega, by omega, by unfold Sc; omega⟩
        · cases h
theorem esc_sc {c r : Nat} (h : escL c = some r) : Sc r ∧ r < 128 := by
  unfold escL at h
  repeat' split at h
  all_goals first | (cases h; done) | (have e := Option.some.inj h; unfold Sc; omega)
theorem next_ok {l : List UInt8} {r k : Nat} (h : nextL l = some (r, k)) : 1 ≤ k ∧ k ≤ l.length ∧ Sc r := by
  unfold nextL at h
  split at h
  · cases h
  · rename_i hne
    split at h
    · split at h
      · cases h
      · rename_i hl
        cases he : escL (l.getD 1 0).toNat with
        | some x =>
          rw [he] at h
          cases h
          exact ⟨by omega, by omega, (esc_sc he).1⟩
        | none => rw [he] at h; exact num_ok h
    · split at h
      · cases h
      · have e1 := congrArg Prod.fst (Option.some.inj h)
        have e2 := congrArg Prod.snd (Option.some.inj h)
        dsimp only at e1 e2
        subst e1; subst e2
        exact ⟨decodeL_width l, decodeL_le l hne, decode_sc l⟩

/-- The text that is read up to the quote, and how many bytes are written for it, with the quote. -/
def unqs : Nat → List UInt8 → Option (List UInt8 × Nat)
  | 0, _ => none
  | n + 1, l => if l.getD 0 0 = 34 then some ([], 1) else
    match nextL l with
    | none => none
    | some (r, k) => match unqs n (l.drop k) with | none => none | some (t, m) => some (encodeRune (r : Int) ++ t, k + m)
def unq (l : List UInt8) : Option (List UInt8 × Nat) := unqs l.length l
theorem next_nil : nextL [] = none := rfl
theorem unqs_nil : ∀ n, unqs n [] = none
  | 0 => rfl
  | _ + 1 => by simp [unqs, next_nil]
theorem unqs_fuel : ∀ (n m : Nat) (l : List UInt8), l.length ≤ n → l.length ≤ m → unqs n l = unqs m l
  | 0, m, l, hn, _ => by
    have : l = [] := List.eq_nil_of_length_eq_zero (by omega)
    subst this; rw [unqs_nil, unqs_nil]
  | n + 1, 0, l, _, hm => by
    have : l = [] := List.eq_nil_of_length_eq_zero (by omega)
    subst this; rw [unqs_nil, unqs_nil]
  | n + 1, m + 1, l, hn, hm => by
    unfold unqs
    cases hx : nextL l with
    | none => rfl
    | some p =>
      obtain ⟨r, k⟩ := p
      have := next_ok hx
      dsimp only
      rw [unqs_fuel n m _ (by rw [List.length_drop]; omega) (by rw [List.length_drop]; omega)]
theorem unq_end (l : List UInt8) (h : l.getD 0 0 = 34) : unq l = some ([], 1) := by
  cases l with
  | nil => simp at h
  | cons c t => unfold unq; simp only [List.length_cons, unqs]; rw [if_pos h]
theorem unq_none (l : List UInt8) (h : l.getD 0 0 ≠ 34) (hx : nextL l = none) : unq l = none := by
  cases l with
  | nil => rfl
  | cons c t => unfold unq; simp only [List.length_cons, unqs]; rw [if_neg h, hx]
theorem unq_step (l : List UInt8) (h : l.getD 0 0 ≠ 34) {r k : Nat} (hx : nextL l = some (r, k)) :
    unq l = match unq (l.drop k) with | none => none | some (t, m) => some (encodeRune (r : Int) ++ t, k + m) := by
  cases l with
  | nil => cases hx
  | cons c t =>
    have := next_ok hx
    unfold unq
    simp only [List.length_cons, unqs]
    rw [if_neg h, hx]
    dsimp only
    rw [unqs_fuel t.length _ _ (by rw [List.length_drop, List.length_cons] at *; omega) (Nat.le_refl _)]

/-- What Unquote tells of what stands behind the first quote: the text, how many bytes with both quotes, the error. -/
def unquoteL (l : List UInt8) : List UInt8 × Nat × Nat :=
  if l.getD 0 0 = 34 then
    match unq (l.drop 1) with
    | none => ([], 0, 6)
    | some (t, m) => if 4096 < t.length then ([], 0, 3) else (t, m + 1, 0)
  else ([], 0, 6)

/-! ### what was quoted -/
theorem esc_form (r : Nat) (h : esc r ≠ []) : (∃ c, esc r = [92, c] ∧ escL c.toNat = some r) ∨ (∃ x y, esc r = [92, 117, 48, 48, x, y] ∧ digs [48, 48, x, y] 0 = some r ∧ r < 55296 ∧ escL (117 : UInt8).toNat = none) := by
  have hr := esc_small h
  unfold esc at h ⊢
  split
  · rename_i e; subst e; exact .inl ⟨34, rfl, by decide⟩
  split
  · rename_i e; subst e; exact .inl ⟨92, rfl, by decide⟩
  split
  · rename_i e; subst e; exact .inl ⟨110, rfl, by decide⟩
  split
  · rename_i e; subst e; exact .inl ⟨114, rfl, by decide⟩
  split
  · rename_i e; subst e; exact .inl ⟨116, rfl, by decide⟩
  split
  · refine .inr ⟨_, _, rfl, ?_, by omega, by decide⟩
    have key : ∀ r : Fin 128, digs [48, 48, hexd (r.val / 16), hexd (r.val % 16)] 0 = some r.val := by decide
    exact key ⟨r, hr⟩
  · rename_i e1 e2 e3 e4 e5 e6
    exact absurd (by simp [e1, e2, e3, e4, e5, e6]) h
/-! ### what was quoted, and is cut -/
end Qm
end Go.Proofs.YtppkknmgdahniaaDoor

set_option linter.unusedSimpArgs false
set_option linter.unusedVariables false
namespace Go.Proofs.YtppkknmgdahniaaDoor
set_option maxRecDepth 100000
namespace Qm
open Go.Lib

theorem esc_length (r : Nat) (h : esc r ≠ []) : 2 ≤ (esc r).length ∧ (esc r).length ≤ 6 := by
  rcases esc_form r h with ⟨c, e, _⟩ | ⟨x, y, e, _⟩ <;> rw [e] <;> simp
theorem enc_high (r : Nat) (hr : 128 ≤ r) (hs : Sc r) : ∀ c ∈ encodeRune (r : Int), 128 ≤ c.toNat := by
  obtain ⟨h1, h2⟩ := hs
  intro c hc
  unfold encodeRune at hc
  obtain ⟨z, hz, rfl⟩ := List.mem_map.1 hc
  have hb := encodeRuneZ_byte _ z hz
  rw [byteN z (by omega) (by omega)]
  have : 128 ≤ z := by
    by_cases b : r ≤ 2047
    · rw [encodeRuneZ_two (by omega) (by omega)] at hz
      simp at hz; omega
    by_cases c : r ≤ 65535
    · rw [encodeRuneZ_three (by omega)] at hz
      simp at hz; omega
    · rw [encodeRuneZ_four (by omega) (by omega)] at hz
      simp at hz; omega
  omega
theorem enc_low (r : Nat) (hr : r < 128) : encodeRune (r : Int) = [UInt8.ofNat r] := by
  unfold encodeRune
  rw [encodeRuneZ_one (by omega) (by omega)]
  simp [Nat.toUInt8]
theorem ascii_valid : ∀ (e m : List UInt8), (∀ c ∈ e, c.toNat < 128) → validD (e ++ m) = validD m
  | [], m, _ => rfl
  | c :: t, m, h => by
    rw [List.cons_append, validD_cons c _ (h c (by simp)), ascii_valid t m (fun x hx => h x (by simp [hx]))]
/-- A byte that stands for itself. -/
def bare (c : UInt8) : Bool := decide (32 ≤ c.toNat) && decide (c.toNat ≠ 34) && decide (c.toNat ≠ 92) && decide (c.toNat ≠ 127)
theorem sign_bare (l : List UInt8) (hne : l ≠ []) (hv : good l) : (l.take (decodeL l).2).all bare = decide (esc (decodeL l).1 = []) := by
  rw [← piece l hne hv]
  by_cases hr : (decodeL l).1 < 128
  · have key : ∀ r : Fin 128, ([UInt8.ofNat r.val].all bare) = decide (esc r.val = []) := by decide
    rw [enc_low _ hr]
    exact key ⟨_, hr⟩
  · have h1 : esc (decodeL l).1 = [] := by
      by_cases g : esc (decodeL l).1 = []
      · exact g
      · exact absurd (esc_small g) hr
    rw [decide_eq_true h1, List.all_eq_true]
    intro c hc
    have := enc_high _ (by omega) (decode_sc l) c hc
    unfold bare
    simp
    omega
theorem quo_len (l : List UInt8) (h : validD l = true) : l.length ≤ (quo l).length ∧ (quo l).length ≤ 6 * l.length ∧ (l.all bare = true ↔ quo l = l) ∧ (l.all bare = false → l.length < (quo l).length) := by
  revert h
  refine runes (P := fun l => validD l = true → l.length ≤ (quo l).length ∧ (quo l).length ≤ 6 * l.length ∧ (l.all bare = true ↔ quo l = l) ∧ (l.all bare = false → l.length < (quo l).length)) (fun _ => by simp [quo_nil]) ?_ l
  intro l hne ih h
  obtain ⟨hg, hr⟩ := valid_good l hne h
  obtain ⟨i1, i2, i3, i4⟩ := ih hr
  have w1 := decodeL_width l
  have w2 := decodeL_le l hne
  rw [List.length_drop] at i1 i2 i4
  have hb := sign_bare l hne hg
  have hall : l.all bare = ((l.take (decodeL l).2).all bare && (l.drop (decodeL l).2).all bare) := by
    rw [← List.all_append, List.take_append_drop]
  show l.length ≤ (quo l).length ∧ (quo l).length ≤ 6 * l.length ∧ (l.all bare = true ↔ quo l = l) ∧ (l.all bare = false → l.length < (quo l).length)
  rw [hall, hb, quo_step l hne, List.length_append]
  by_cases he : esc (decodeL l).1 = []
  · have hs : sign l = l.take (decodeL l).2 := by unfold sign; rw [if_pos he]
    rw [hs, piece_len l hne, decide_eq_true he, Bool.true_and]
    refine ⟨by omega, by omega, ?_, fun g => by have := i4 g; omega⟩
    rw [i3]
    constructor
    · intro g; rw [g, List.take_append_drop]
    · intro g
      have := congrArg (List.drop (decodeL l).2) g
      rwa [List.drop_left' (piece_len l hne)] at this
  · have hs : sign l = esc (decodeL l).1 := by unfold sign; rw [if_neg he]
    have hl := esc_length _ he
    have hw : (decodeL l).2 = 1 := by
      have hr := esc_small he
      have := piece l hne hg
      rw [enc_low _ hr] at this
      have h2 := congrArg List.length this
      rw [piece_len l hne] at h2
      simpa using h2.symm
    rw [hs, decide_eq_false he, Bool.false_and]
    refine ⟨by omega, by omega, ⟨fun g => (by cases g), fun g => ?_⟩, fun _ => by omega⟩
    have := congrArg List.length g
    rw [List.length_append] at this
    omega
theorem quote_len (l : List UInt8) (h : validD l = true) : l.length + 2 ≤ (quoteL l).length ∧ (quoteL l).length ≤ 6 * l.length + 2 ∧ (l.all bare = true ↔ quoteL l = 34 :: (l ++ [34])) := by
  obtain ⟨h1, h2, h3, _⟩ := quo_len l h
  unfold quoteL
  simp only [List.length_cons, List.length_append, List.length_nil]
  refine ⟨by omega, by omega, h3.trans ⟨fun e => by rw [e], fun e => ?_⟩⟩
  have := (List.cons.inj e).2
  exact List.append_cancel_right this
end Qm
end Go.Proofs.YtppkknmgdahniaaDoor

set_option linter.unusedSimpArgs false
set_option linter.unusedVariables false
namespace Go.Proofs.YtppkknmgdahniaaDoor
set_option maxRecDepth 100000
namespace Qm
open Go.Lib

end Qm
end Go.Proofs.YtppkknmgdahniaaDoor

set_option linter.unusedSimpArgs false
set_option linter.unusedVariables false
namespace Go.Proofs.YtppkknmgdahniaaDoor
set_option maxRecDepth 100000
namespace Qm
open Go.Lib

/-- At the p-th byte, what was read is acc, what is held of it bs. -/
def UI (l : List UInt8) (p : Nat) (acc bs : List UInt8) : Prop :=
  1 ≤ p ∧ p ≤ l.length ∧ (bs = acc ∨ (4096 < bs.length ∧ 4096 < acc.length)) ∧ bs.length ≤ 4100 ∧
  unq (l.drop 1) = (match unq (l.drop p) with | none => none | some (t, m) => some (acc ++ t, (p - 1) + m))
theorem UI.start (l : List UInt8) (h : 1 ≤ l.length) : UI l 1 [] [] := by
  refine ⟨Nat.le_refl _, h, .inl rfl, by simp, ?_⟩
  cases unq (l.drop 1) with
  | none => rfl
  | some q => simp
theorem UI.more {l : List UInt8} {p : Nat} {acc bs : List UInt8} (h : UI l p acc bs) (hh : (l.drop p).getD 0 0 ≠ 34) {r k : Nat} (hx : nextL (l.drop p) = some (r, k)) (cs : List UInt8)
    (hc : (bs.length ≤ 4096 ∧ cs = bs ++ encodeRune (r : Int)) ∨ (4096 < bs.length ∧ cs = bs)) : UI l (p + k) (acc ++ encodeRune (r : Int)) cs := by
  obtain ⟨h1, h2, h3, h4, h5⟩ := h
  obtain ⟨k1, k2, k3⟩ := next_ok hx
  have he := enc_len (r : Int)
  rw [List.length_drop] at k2
  refine ⟨by omega, by omega, ?_, ?_, ?_⟩
  · rcases hc with ⟨g, rfl⟩ | ⟨g, rfl⟩
    · rcases h3 with rfl | h3
      · exact .inl rfl
      · exact absurd h3.1 (by omega)
    · refine .inr ⟨g, ?_⟩
      rw [List.length_append]
      rcases h3 with rfl | h3 <;> omega
  · rcases hc with ⟨g, rfl⟩ | ⟨g, rfl⟩
    · rw [List.length_append]; omega
    · exact h4
  · rw [h5, unq_step _ hh hx, List.drop_drop]
    cases unq (l.drop (p + k)) with
    | none => rfl
    | some q =>
      obtain ⟨t, m⟩ := q
      dsimp only
      rw [List.append_assoc, show p - 1 + (k + m) = p + k - 1 + m by omega]
theorem UI.none {l : List UInt8} {p : Nat} {acc bs : List UInt8} (h : UI l p acc bs) (h0 : l.getD 0 0 = 34) (hh : (l.drop p).getD 0 0 ≠ 34) (hx : nextL (l.drop p) = none) : unquoteL l = ([], 0, 6) := by
  obtain ⟨h1, h2, h3, h4, h5⟩ := h
  unfold unquoteL
  rw [if_pos h0, h5, unq_none _ hh hx]
end Qm
end Go.Proofs.YtppkknmgdahniaaDoor

set_option linter.unusedSimpArgs false
set_option linter.unusedVariables false
namespace Go.Proofs.YtppkknmgdahniaaDoor
set_option maxRecDepth 100000
namespace Qm
open Go.Lib

/-- The rune that stands first, and its bytes; none: 0, 0. -/
def runeV (l : List UInt8) : Nat × Nat := if (decodeL l).1 = 65533 ∧ (decodeL l).2 = 1 then (0, 0) else decodeL l
/-- A first byte of a longer rune: so many bytes, the least such rune, what the byte is worth. -/
def lead (c n least x : Nat) : Prop := (194 ≤ c ∧ c < 224 ∧ n = 2 ∧ least = 128 ∧ x = c - 192) ∨ (224 ≤ c ∧ c < 240 ∧ n = 3 ∧ least = 2048 ∧ x = c - 224) ∨ (240 ≤ c ∧ c < 245 ∧ n = 4 ∧ least = 65536 ∧ x = c - 240)
/-- What the first byte and the k behind it are worth. -/
def valX (l : List UInt8) (x : Nat) : Nat → Nat
  | 0 => x
  | k + 1 => 64 * valX l x k + (l.getD (k + 1) 0).toNat - 128

theorem runeV_ascii (l : List UInt8) (h : (l.getD 0 0).toNat < 128) : runeV l = ((l.getD 0 0).toNat, 1) := by
  unfold runeV
  rw [decodeL_N]
  unfold decodeN
  rw [if_pos h, if_neg (by dsimp only; omega)]
theorem runeV_of {l : List UInt8} {a b : Nat} (h : decodeN l.length (l.getD 0 0).toNat (l.getD 1 0).toNat (l.getD 2 0).toNat (l.getD 3 0).toNat = (a, b)) (hn : ¬ (a = 65533 ∧ b = 1)) : runeV l = (a, b) := by
  unfold runeV
  rw [decodeL_N, h, if_neg hn]
theorem runeV_bad {l : List UInt8} (h : decodeN l.length (l.getD 0 0).toNat (l.getD 1 0).toNat (l.getD 2 0).toNat (l.getD 3 0).toNat = (65533, 1)) : runeV l = (0, 0) := by
  unfold runeV
  rw [decodeL_N, h, if_pos ⟨rfl, rfl⟩]
theorem runeV_none (l : List UInt8) (h0 : ¬ (l.getD 0 0).toNat < 128) (h1 : ¬ (194 ≤ (l.getD 0 0).toNat ∧ (l.getD 0 0).toNat < 245)) : runeV l = (0, 0) := by
  apply runeV_bad
  have k0 := (l.getD 0 0).toNat_lt
  have k1 := (l.getD 1 0).toNat_lt
  have k2 := (l.getD 2 0).toNat_lt
  have k3 := (l.getD 3 0).toNat_lt
  rcases decodeN_shape l.length (l.getD 0 0).toNat (l.getD 1 0).toNat (l.getD 2 0).toNat (l.getD 3 0).toNat with ⟨c, e⟩ | ⟨c1, c2, c3, cv, e⟩ | ⟨c1, c2, c3, c4, cv, cs, e⟩ | ⟨c1, c2, c3, c4, c5, cv, cw, e⟩ | e
  all_goals first | exact e | (exfalso; omega)
theorem runeV_short (l : List UInt8) {n least x : Nat} (hl : lead (l.getD 0 0).toNat n least x) (h : l.length < n) : runeV l = (0, 0) := by
  apply runeV_bad
  unfold lead at hl
  rcases decodeN_shape l.length (l.getD 0 0).toNat (l.getD 1 0).toNat (l.getD 2 0).toNat (l.getD 3 0).toNat with ⟨c, e⟩ | ⟨c1, c2, c3, cv, e⟩ | ⟨c1, c2, c3, c4, cv, cs, e⟩ | ⟨c1, c2, c3, c4, c5, cv, cw, e⟩ | e
  all_goals first | exact e | (exfalso; omega)
theorem runeV_cont (l : List UInt8) {n least x : Nat} (hl : lead (l.getD 0 0).toNat n least x) (k : Nat) (hk : 1 ≤ k) (hkn : k < n) (h : ¬ (128 ≤ (l.getD k 0).toNat ∧ (l.getD k 0).toNat < 192)) : runeV l = (0, 0) := by
  apply runeV_bad
  unfold lead at hl
  have h3 : k = 1 ∨ k = 2 ∨ k = 3 := by omega
  rcases decodeN_shape l.length (l.getD 0 0).toNat (l.getD 1 0).toNat (l.getD 2 0).toNat (l.getD 3 0).toNat with ⟨c, e⟩ | ⟨c1, c2, c3, cv, e⟩ | ⟨c1, c2, c3, c4, cv, cs, e⟩ | ⟨c1, c2, c3, c4, c5, cv, cw, e⟩ | e
  all_goals rcases h3 with rfl | rfl | rfl
  all_goals first | exact e | (exfalso; omega)
set_option maxRecDepth 100000 in
/-- All bytes are as they should: what they are worth. -/
theorem runeV_end (l : List UInt8) {n least x : Nat} (hl : lead (l.getD 0 0).toNat n least x) (hn : n ≤ l.length) (h : ∀ k, 1 ≤ k → k < n → 128 ≤ (l.getD k 0).toNat ∧ (l.getD k 0).toNat < 192) :
    ((valX l x (n - 1) < least ∨ 1114111 < valX l x (n - 1) ∨ (55296 ≤ valX l x (n - 1) ∧ valX l x (n - 1) < 57344)) → runeV l = (0, 0)) ∧
    (¬ (valX l x (n - 1) < least ∨ 1114111 < valX l x (n - 1) ∨ (55296 ≤ valX l x (n - 1) ∧ valX l x (n - 1) < 57344)) → runeV l = (valX l x (n - 1), n)) := by
  unfold lead at hl
  rcases hl with ⟨a1, a2, rfl, rfl, rfl⟩ | ⟨a1, a2, rfl, rfl, rfl⟩ | ⟨a1, a2, rfl, rfl, rfl⟩
  · have b1 := h 1 (by omega) (by omega)
    have e : valX l ((l.getD 0 0).toNat - 192) 1 = (l.getD 0 0).toNat % 32 * 64 + (l.getD 1 0).toNat % 64 := by
      show 64 * ((l.getD 0 0).toNat - 192) + (l.getD 1 0).toNat - 128 = _
      omega
    have e2 : decodeN l.length (l.getD 0 0).toNat (l.getD 1 0).toNat (l.getD 2 0).toNat (l.getD 3 0).toNat = ((l.getD 0 0).toNat % 32 * 64 + (l.getD 1 0).toNat % 64, 2) := by
      unfold decodeN
      rw [if_neg (by omega), if_pos (by omega), if_pos (by omega)]
    rw [show 2 - 1 = 1 from rfl, e]
    refine ⟨fun g => by exfalso; omega, fun g => runeV_of e2 (by omega)⟩
  · have b1 := h 1 (by omega) (by omega)
    have b2 := h 2 (by omega) (by omega)
    have e : valX l ((l.getD 0 0).toNat - 224) 2 = (l.getD 0 0).toNat % 16 * 4096 + (l.getD 1 0).toNat % 64 * 64 + (l.getD 2 0).toNat % 64 := by
      show 64 * (64 * ((l.getD 0 0).toNat - 224) + (l.getD 1 0).toNat - 128) + (l.getD 2 0).toNat - 128 = _
      omega
    rw [show 3 - 1 = 2 from rfl, e]
    refine ⟨fun g => runeV_bad ?_, fun g => runeV_of ?_ (by omega)⟩
    · unfold decodeN
      rw [if_neg (by omega), if_neg (by omega), if_pos (by omega), if_neg (by omega)]
    · unfold decodeN
      rw [if_neg (by omega), if_neg (by omega), if_pos (by omega), if_pos (by omega)]
  · have b1 := h 1 (by omega) (by omega)
    have b2 := h 2 (by omega) (by omega)
    have b3 := h 3 (by omega) (by omega)
    have e : valX l ((l.getD 0 0).toNat - 240) 3 = (l.getD 0 0).toNat % 8 * 262144 + (l.getD 1 0).toNat % 64 * 4096 + (l.getD 2 0).toNat % 64 * 64 + (l.getD 3 0).toNat % 64 := by
      show 64 * (64 * (64 * ((l.getD 0 0).toNat - 240) + (l.getD 1 0).toNat - 128) + (l.getD 2 0).toNat - 128) + (l.getD 3 0).toNat - 128 = _
      omega
    rw [show 4 - 1 = 3 from rfl, e]
    refine ⟨fun g => runeV_bad ?_, fun g => runeV_of ?_ (by omega)⟩
    · unfold decodeN
      rw [if_neg (by omega), if_neg (by omega), if_neg (by omega), if_pos (by omega), if_neg (by omega)]
    · unfold decodeN
      rw [if_neg (by omega), if_neg (by omega), if_neg (by omega), if_pos (by omega), if_pos (by omega)]
theorem valX_lt (l : List UInt8) {n least x : Nat} (hl : lead (l.getD 0 0).toNat n least x) : ∀ k, k < n → valX l x k < 33554432
  | 0, _ => by
    unfold lead at hl
    show x < 33554432
    omega
  | 1, _ => by
    have k1 := (l.getD 1 0).toNat_lt
    unfold lead at hl
    show 64 * x + (l.getD 1 0).toNat - 128 < 33554432
    omega
  | 2, _ => by
    have k1 := (l.getD 1 0).toNat_lt
    have k2 := (l.getD 2 0).toNat_lt
    unfold lead at hl
    show 64 * (64 * x + (l.getD 1 0).toNat - 128) + (l.getD 2 0).toNat - 128 < 33554432
    omega
  | 3, _ => by
    have k1 := (l.getD 1 0).toNat_lt
    have k2 := (l.getD 2 0).toNat_lt
    have k3 := (l.getD 3 0).toNat_lt
    unfold lead at hl
    show 64 * (64 * (64 * x + (l.getD 1 0).toNat - 128) + (l.getD 2 0).toNat - 128) + (l.getD 3 0).toNat - 128 < 33554432
    omega
  | k + 4, h => by unfold lead at hl; omega

theorem runeV_width (l : List UInt8) : ((runeV l).2 = 0 ∧ ¬ good l ∧ (runeV l).1 = 0 ∧ (decodeL l).2 = 1) ∨ (1 ≤ (runeV l).2 ∧ good l ∧ runeV l = decodeL l) := by
  unfold runeV good
  have hw := decodeL_width l
  by_cases h : (decodeL l).1 = 65533 ∧ (decodeL l).2 = 1
  · rw [if_pos h]; exact .inl ⟨rfl, fun g => g h, rfl, h.2⟩
  · rw [if_neg h]; exact .inr ⟨hw, h, rfl⟩
/-- So many bytes has what stands first, be it a rune or not. -/
theorem runeV_max (l : List UInt8) : max (runeV l).2 1 = (decodeL l).2 := by
  rcases runeV_width l with ⟨h1, _, _, h2⟩ | ⟨h1, _, h2⟩
  · rw [h1, h2]; rfl
  · rw [← h2]; omega

/-! ### quoted byte by byte -/
def escB (c : UInt8) : List UInt8 := if esc c.toNat = [] then [c] else esc c.toNat
theorem escB_high (c : UInt8) (h : 128 ≤ c.toNat) : escB c = [c] := by
  unfold escB
  by_cases g : esc c.toNat = []
  · rw [if_pos g]
  · have := esc_small g; omega
theorem flat_high : ∀ (l : List UInt8), (∀ c ∈ l, 128 ≤ c.toNat) → l.flatMap escB = l
  | [], _ => rfl
  | c :: t, h => by
    rw [List.flatMap_cons, escB_high c (h c (by simp)), flat_high t (fun x hx => h x (by simp [hx]))]
    rfl
theorem quo_flat (l : List UInt8) (h : validD l = true) : quo l = l.flatMap escB := by
  revert h
  refine runes (P := fun l => validD l = true → quo l = l.flatMap escB) (fun _ => rfl) ?_ l
  intro l hne ih h
  obtain ⟨hg, hr⟩ := valid_good l hne h
  have hp := piece l hne hg
  have e : l = encodeRune ((decodeL l).1 : Int) ++ l.drop (decodeL l).2 := by rw [hp, List.take_append_drop]
  rw [quo_step l hne, ih hr]
  refine Eq.trans ?_ (congrArg (List.flatMap escB) e).symm
  rw [List.flatMap_append]
  congr 1
  unfold sign
  by_cases g : (decodeL l).1 < 128
  · rw [enc_low _ g]
    have hb : (UInt8.ofNat (decodeL l).1).toNat = (decodeL l).1 := by simp; omega
    rw [List.flatMap_cons, List.flatMap_nil, List.append_nil]
    unfold escB
    rw [hb, ← hp, enc_low _ g]
  · have hx : esc (decodeL l).1 = [] := by
      by_cases g2 : esc (decodeL l).1 = []
      · exact g2
      · exact absurd (esc_small g2) g
    rw [if_pos hx, ← hp, flat_high _ (enc_high _ (by omega) (decode_sc l))]
end Qm
end Go.Proofs.YtppkknmgdahniaaDoor
