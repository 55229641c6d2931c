/- What is proved here: plain facts on names, rows of names, and masks; conditions: none. It imports nothing of any program. What is proved here: plain facts on what the map from names to bits holds, round by round; conditions: none. It imports nothing of any program. What is proved here: plain facts on the names of masks, and on texts that are joined by blanks; conditions: none. It imports nothing of any program. What is proved here: plain facts on the texts between blanks, and on the masks of names; conditions: none. It imports nothing of any program. What is proved here: plain facts on patterns and places: which lead where, read from the front, in parts, by going back to the last step that may be any row, and by rows of answers; conditions: none. It imports nothing of any program. What is proved here: plain facts on the runes of texts, on how texts are quoted, and read again; conditions: none. It imports nothing of any program but plain facts. What is proved here: plain facts on how quoted texts are read, and that what was quoted is read as it was; conditions: none. It imports nothing of any program but plain facts. What is proved here: plain facts on quoted texts that stand together, on their bytes and their length; conditions: none. It imports nothing of any program but plain facts. What is proved here: plain facts on cuts of texts, on what is read, and on quoted texts one behind the other; conditions: none. It imports nothing of any program but plain facts. What is proved here: plain facts on what stands between two runes that are read: what is read so far, what is held of it, and what is left; conditions: none. It imports nothing of any program but plain facts. What is proved here: plain facts on how the document's own answer reads a rune, byte by byte, and quotes a text; conditions: none. It imports nothing of any program but plain facts. -/
import Derived.PlainAid
import Derived.Maps.OwnSet
import Derived.Lib.MapLaws
import Derived.Lib.ValidLaws
import Derived.Lib.TrimAscii
namespace Go.Proofs.YtnagecbepidfiaaGreatDoor.Cm
set_option maxRecDepth 100000
set_option linter.unusedVariables false

abbrev Tx := List UInt8
def letB (c : UInt8) : Bool := decide (97 ≤ c.toNat) && decide (c.toNat ≤ 122)
def inB (c : UInt8) : Bool := letB c || (decide (48 ≤ c.toNat) && decide (c.toNat ≤ 57)) || decide (c.toNat = 95)
/-- Whether a text may be a name. -/
def nameB (l : Tx) : Bool := decide (1 ≤ l.length) && decide (l.length ≤ 24) && letB (l.getD 0 0) && l.all inB
/-- The bit of the category at a place; none behind the 64th. -/
def bitN (i : Nat) : Nat := if i < 64 then 2 ^ i else 0
/-- Whether a row of categories may be. -/
def mayE (L : List Tx) : Nat := if 64 < L.length then 3 else if L.all nameB && decide L.Nodup then 0 else 20
/-- The place of a name. -/
def idx (L : List Tx) (x : Tx) : Option Nat := L.findIdx? (fun y => y == x)
/-- The texts between blanks: what is read so far, what is left. -/
def spl : Tx → Tx → List Tx
  | cur, [] => if cur = [] then [] else [cur]
  | cur, c :: r => if c = 32 then (if cur = [] then spl [] r else cur :: spl [] r) else spl (cur ++ [c]) r
def words (l : Tx) : List Tx := spl [] l
/-- The mask of a row of names, and the error. -/
def maskF (L : List Tx) : Nat → List Tx → Nat × Nat
  | m, [] => (m, 0)
  | m, x :: r => match idx L x with
    | none => (0, 20)
    | some k => maskF L (m ||| 2 ^ k) r
/-- The names of a mask, of the first k categories. -/
def selK (L : List Tx) (m k : Nat) : List Tx := ((List.range k).filter fun i => m.testBit i).map fun i => L.getD i []
/-- Texts, a blank ahead of each. -/
def flatB (ws : List Tx) : Tx := (ws.map fun x => 32 :: x).flatten
/-- Texts, a blank between two. -/
def joinB (ws : List Tx) : Tx := (flatB ws).drop 1
/-- Whether each bit of a is one of b. -/
def subB (a b : Nat) : Bool := (a &&& b) == a
theorem subB_iff {a b : Nat} (ha : a < 18446744073709551616) (hb : b < 18446744073709551616) : subB a b = true ↔ a &&& (18446744073709551615 - b) = 0 := by
  unfold subB
  rw [beq_iff_eq]
  have h2 : ∀ i, (18446744073709551615 - b).testBit i = (decide (i < 64) && !b.testBit i) := by
    intro i
    have := Nat.testBit_two_pow_sub_succ (n := 64) (x := b) hb i
    rw [← this]
    congr 1
    omega
  have h3 : ∀ i, a.testBit i = true → i < 64 := by
    intro i hi
    rcases Nat.lt_or_ge i 64 with g | g
    · exact g
    · rw [Nat.testBit_lt_two_pow (Nat.lt_of_lt_of_le (show a < 2 ^ 64 from ha) (Nat.pow_le_pow_right (n := 2) (by omega) g))] at hi
      cases hi
  constructor
  · intro h
    apply Nat.eq_of_testBit_eq
    intro i
    have := congrArg (fun x => x.testBit i) h
    simp only [Nat.testBit_and, h2, Nat.zero_testBit] at this ⊢
    cases ha : a.testBit i <;> cases hb : b.testBit i <;> simp_all
  · intro h
    apply Nat.eq_of_testBit_eq
    intro i
    have := congrArg (fun x => x.testBit i) h
    simp only [Nat.testBit_and, h2, Nat.zero_testBit] at this ⊢
    cases ha : a.testBit i
    · simp
    · have := h3 i ha
      cases hb : b.testBit i <;> simp_all
end Go.Proofs.YtnagecbepidfiaaGreatDoor.Cm

namespace Go.Proofs.YtnagecbepidfiaaGreatDoor.Cm
set_option maxRecDepth 100000
open Go.Maps
set_option linter.unusedVariables false

theorem bitN_lt (i : Nat) : bitN i < 18446744073709551616 := by
  unfold bitN
  split
  · rename_i h
    exact Nat.pow_lt_pow_right (a := 2) (m := i) (n := 64) (by decide) h
  · decide
/-- The bits of a name among the first k categories. -/
def valK (L : List Tx) : Nat → Tx → Nat
  | 0, _ => 0
  | k + 1, x => if L[k]? = some x then valK L k x ||| bitN k else valK L k x
theorem valK_lt (L : List Tx) (x : Tx) : ∀ k, valK L k x < 18446744073709551616
  | 0 => by unfold valK; omega
  | k + 1 => by
    unfold valK
    split
    · exact Nat.or_lt_two_pow (n := 64) (valK_lt L x k) (bitN_lt k)
    · exact valK_lt L x k
theorem valK_one {L : List Tx} (hd : L.Nodup) {i : Nat} {x : Tx} (hi : L[i]? = some x) : ∀ k, valK L k x = if i < k then bitN i else 0
  | 0 => by simp [valK]
  | k + 1 => by
    unfold valK
    rw [valK_one hd hi k]
    by_cases h : L[k]? = some x
    · have : i = k := by
        obtain ⟨h1, h2⟩ := List.getElem?_eq_some_iff.1 hi
        obtain ⟨h3, h4⟩ := List.getElem?_eq_some_iff.1 h
        rcases Nat.lt_trichotomy i k with g | g | g
        · exact absurd (h2.trans h4.symm) (List.pairwise_iff_getElem.1 hd i k h1 h3 g)
        · exact g
        · exact absurd (h4.trans h2.symm) (List.pairwise_iff_getElem.1 hd k i h3 h1 g)
      subst this
      rw [if_pos h, if_neg (by omega), if_pos (by omega), Nat.zero_or]
    · rw [if_neg h]
      have : i ≠ k := fun e => h (e ▸ hi)
      by_cases g : i < k
      · rw [if_pos g, if_pos (by omega)]
      · rw [if_neg g, if_neg (by omega)]

/-- What the map holds behind k rounds. -/
def BitsAt (D : DataW Unit) (L : List Tx) (k : Nat) : Prop :=
  (∀ x, has D (.string x) = decide (x ∈ L.take k)) ∧ (∀ x, D.atKey (.string x) (.lit (.int .u64 0)) = .lit (.int .u64 (valK L k x : Int))) ∧ size D ≤ k ∧ (size D = k ↔ (L.take k).Nodup)
theorem BitsAt.start (L : List Tx) : BitsAt (.map []) L 0 := ⟨fun x => by simp [has], fun x => rfl, Nat.le_refl _, by simp [size]⟩
theorem BitsAt.next {D : DataW Unit} {L : List Tx} {k : Nat} {x : Tx} (h : BitsAt D L k) (ht : Tidy D) (hx : L[k]? = some x) :
    BitsAt (D.put (.string x) (.lit (.int .u64 ((valK L k x ||| bitN k : Nat) : Int)))) L (k + 1) := by
  obtain ⟨h1, h2, h3, h4⟩ := h
  have hk : WideAt.IsKeyLit (.string x) := by first | trivial | exact ⟨_, rfl⟩ | simp [WideAt.IsKeyLit]
  have htk : L.take (k + 1) = L.take k ++ [x] := by rw [List.take_add_one, hx]; rfl
  refine ⟨fun y => ?_, fun y => ?_, ?_, ?_⟩
  · by_cases e : y = x
    · subst e
      rw [has_put_same ht.isMap hk, htk]
      simp
    · rw [has_put_other (by intro q; exact e (by injection q)), h1 y, htk]
      simp [e]
  · have hv : valK L (k + 1) y = if L[k]? = some y then valK L k y ||| bitN k else valK L k y := rfl
    rw [hv]
    by_cases e : y = x
    · subst e
      rw [atKey_put_same ht.isMap hk, if_pos hx]
    · rw [atKey_put_other (by intro q; exact e (by injection q)), h2 y, if_neg (by rw [hx]; intro q; exact e (by injection q with q; exact q.symm))]
  · rw [size_put ht]
    split <;> omega
  · rw [size_put ht, h1 x, htk, List.nodup_append]
    by_cases hm : x ∈ L.take k
    · rw [decide_eq_true hm, if_pos rfl]
      constructor
      · intro e; omega
      · rintro ⟨_, _, e⟩
        exact absurd rfl (e x hm x (by simp))
    · rw [decide_eq_false hm, if_neg (by simp)]
      constructor
      · intro e
        refine ⟨h4.1 (by omega), by simp, ?_⟩
        intro a ha b hb
        rw [List.mem_singleton.1 hb]
        rintro rfl
        exact hm ha
      · rintro ⟨e, _⟩
        rw [h4.2 e]
end Go.Proofs.YtnagecbepidfiaaGreatDoor.Cm

namespace Go.Proofs.YtnagecbepidfiaaGreatDoor.Cm
set_option maxRecDepth 100000
set_option linter.unusedVariables false
set_option linter.unusedSimpArgs false

theorem selK_zero (L : List Tx) (m : Nat) : selK L m 0 = [] := rfl
theorem selK_yes {L : List Tx} {m k : Nat} (h : k < L.length) (hb : m.testBit k = true) : selK L m (k + 1) = selK L m k ++ [L[k]'h] := by
  unfold selK
  rw [List.range_succ, List.filter_append, List.map_append]
  congr 1
  simp [hb, List.getD, h]
theorem selK_no {L : List Tx} {m k : Nat} (hb : m.testBit k = false) : selK L m (k + 1) = selK L m k := by
  unfold selK
  rw [List.range_succ, List.filter_append, List.map_append]
  simp [hb]
theorem flatB_snoc (ws : List Tx) (x : Tx) : flatB (ws ++ [x]) = flatB ws ++ 32 :: x := by
  unfold flatB
  simp
theorem flatB_nil : flatB [] = [] := rfl
theorem flatB_cons (ws : List Tx) (x : Tx) : flatB (x :: ws) = 32 :: (x ++ flatB ws) := by
  unfold flatB
  simp
theorem joinB_snoc (ws : List Tx) (x : Tx) : joinB (ws ++ [x]) = joinB ws ++ ((if ws = [] then [] else [32]) ++ x) := by
  unfold joinB
  rw [flatB_snoc]
  cases ws with
  | nil => rfl
  | cons y r =>
    rw [flatB_cons]
    simp
theorem flatB_len {ws : List Tx} {b : Nat} (h : ∀ x ∈ ws, x.length ≤ b) : (flatB ws).length ≤ ws.length * (b + 1) := by
  induction ws with
  | nil => simp [flatB]
  | cons x r ih =>
    rw [flatB_cons, List.length_cons, List.length_append, List.length_cons, Nat.succ_mul]
    have h1 := ih (fun y hy => h y (List.mem_cons_of_mem _ hy))
    have h2 := h x List.mem_cons_self
    omega
theorem joinB_len (ws : List Tx) : (joinB ws).length ≤ (flatB ws).length := by
  unfold joinB
  rw [List.length_drop]
  omega
theorem selK_mem {L : List Tx} {m k : Nat} (hk : k ≤ L.length) {x : Tx} (hx : x ∈ selK L m k) : x ∈ L := by
  unfold selK at hx
  obtain ⟨i, hi, rfl⟩ := List.mem_map.1 hx
  have hi2 := List.mem_range.1 (List.mem_filter.1 hi).1
  rw [List.getD, List.getElem?_eq_getElem (by omega)]
  exact List.getElem_mem _
theorem selK_len (L : List Tx) (m k : Nat) : (selK L m k).length ≤ k := by
  unfold selK
  rw [List.length_map]
  have := List.length_filter_le (fun i => m.testBit i) (List.range k)
  rw [List.length_range] at this
  exact this
theorem names_len {L : List Tx} {m k b : Nat} (hk : k ≤ L.length) (h : ∀ x ∈ L, x.length ≤ b) : (joinB (selK L m k)).length ≤ k * (b + 1) := by
  have h1 := joinB_len (selK L m k)
  have h2 := flatB_len (ws := selK L m k) (b := b) (fun x hx => h x (selK_mem hk hx))
  have h3 := Nat.mul_le_mul_right (b + 1) (selK_len L m k)
  omega
theorem and_bit {m k : Nat} (hm : m < 18446744073709551616) : m &&& bitN k = if m.testBit k then bitN k else 0 := by
  unfold bitN
  by_cases h : k < 64
  · rw [if_pos h]
    apply Nat.eq_of_testBit_eq
    intro i
    rw [Nat.testBit_and, Nat.testBit_two_pow]
    by_cases e : k = i
    · subst e
      cases hb : m.testBit k <;> simp [hb, Nat.testBit_two_pow]
    · have : decide (k = i) = false := decide_eq_false e
      rw [this, Bool.and_false]
      split
      · rw [Nat.testBit_two_pow, this]
      · simp
  · rw [if_neg h, Nat.and_zero]
    split <;> rfl
theorem testBit_high {m k : Nat} (hm : m < 18446744073709551616) (h : ¬ k < 64) : m.testBit k = false := by
  apply Nat.testBit_lt_two_pow
  exact Nat.lt_of_lt_of_le (show m < 2 ^ 64 from hm) (Nat.pow_le_pow_right (n := 2) (by omega) (by omega))
theorem bit_zero {m k : Nat} (hm : m < 18446744073709551616) : (m &&& bitN k = 0) ↔ m.testBit k = false := by
  rw [and_bit hm]
  cases e : m.testBit k
  · simp
  · simp only [if_true]
    have hk : k < 64 := by
      rcases Nat.lt_or_ge k 64 with g | g
      · exact g
      · rw [testBit_high hm (by omega)] at e; cases e
    unfold bitN
    rw [if_pos hk]
    have := Nat.two_pow_pos k
    constructor
    · intro h; omega
    · intro h; cases h
end Go.Proofs.YtnagecbepidfiaaGreatDoor.Cm

namespace Go.Proofs.YtnagecbepidfiaaGreatDoor.Cm
set_option maxRecDepth 100000
set_option linter.unusedVariables false
set_option linter.unusedSimpArgs false

theorem spl_nil (cur : Tx) : spl cur [] = if cur = [] then [] else [cur] := by unfold spl; rfl
theorem spl_blank (cur r : Tx) : spl cur (32 :: r) = if cur = [] then spl [] r else cur :: spl [] r := by
  rw [spl]
  simp
theorem spl_more (cur r : Tx) (c : UInt8) (h : c ≠ 32) : spl cur (c :: r) = spl (cur ++ [c]) r := by
  rw [spl, if_neg h]
theorem spl_part (b : Tx) : ∀ (a cur : Tx), spl cur (a ++ 32 :: b) = spl cur a ++ words b
  | [], cur => by
    rw [List.nil_append, spl_blank, spl_nil]
    split <;> rfl
  | c :: a, cur => by
    rw [List.cons_append]
    by_cases h : c = 32
    · subst h
      rw [spl_blank, spl_blank, spl_part b a []]
      split <;> rfl
    · rw [spl_more _ _ _ h, spl_more _ _ _ h, spl_part b a]
theorem spl_plain : ∀ (a cur : Tx), (32 : UInt8) ∉ a → spl cur a = if cur ++ a = [] then [] else [cur ++ a]
  | [], cur, _ => by rw [spl_nil, List.append_nil]
  | c :: a, cur, h => by
    rw [spl_more _ _ _ (fun e => h (by rw [e]; exact List.mem_cons_self)), spl_plain a _ (fun e => h (List.mem_cons_of_mem _ e))]
    rw [List.append_assoc]
    rfl
theorem words_part (a b : Tx) : words (a ++ 32 :: b) = words a ++ words b := spl_part b a []
theorem words_plain {a : Tx} (h : (32 : UInt8) ∉ a) : words a = if a = [] then [] else [a] := spl_plain a [] h
theorem words_nil : words [] = [] := rfl
theorem words_one {a : Tx} (h : (32 : UInt8) ∉ a) (hne : a ≠ []) : words a = [a] := by rw [words_plain h, if_neg hne]
theorem words_blank (b : Tx) : words (32 :: b) = words b := by
  have := words_part [] b
  rwa [words_nil, List.nil_append, List.nil_append] at this
/-- A word: not empty, no blank in it. -/
def Word (x : Tx) : Prop := x ≠ [] ∧ (32 : UInt8) ∉ x
theorem words_flat {ws : List Tx} (h : ∀ x ∈ ws, Word x) : words (flatB ws) = ws := by
  induction ws with
  | nil => rfl
  | cons x r ih =>
    rw [flatB_cons, words_blank]
    have hx := h x List.mem_cons_self
    have hr := ih (fun y hy => h y (List.mem_cons_of_mem _ hy))
    cases r with
    | nil => rw [flatB_nil, List.append_nil, words_one hx.2 hx.1]
    | cons y r =>
      rw [flatB_cons] at hr ⊢
      rw [words_part, words_one hx.2 hx.1]
      rw [words_blank] at hr
      rw [hr]
      rfl
theorem words_join {ws : List Tx} (h : ∀ x ∈ ws, Word x) : words (joinB ws) = ws := by
  have hf := words_flat h
  cases ws with
  | nil => rfl
  | cons x r =>
    unfold joinB
    rw [flatB_cons] at hf ⊢
    rw [words_blank] at hf
    exact hf
theorem name_word {x : Tx} (h : nameB x = true) : Word x := by
  unfold nameB at h
  simp only [Bool.and_eq_true, decide_eq_true_eq] at h
  refine ⟨fun e => ?_, fun e => ?_⟩
  · rw [e] at h; simp at h
  · have := List.all_eq_true.1 h.2 32 e
    revert this
    decide
theorem idx_some {L : List Tx} (hd : L.Nodup) {k : Nat} (hk : k < L.length) : idx L (L[k]'hk) = some k := by
  unfold idx
  rw [List.findIdx?_eq_some_iff_getElem]
  refine ⟨hk, by simp, fun j hj => ?_⟩
  simp only [beq_iff_eq]
  exact List.pairwise_iff_getElem.1 hd j k (by omega) hk hj
theorem idx_none {L : List Tx} {x : Tx} (h : x ∉ L) : idx L x = none := by
  unfold idx
  rw [List.findIdx?_eq_none_iff]
  intro y hy
  simp only [beq_eq_false_iff_ne]
  rintro rfl
  exact h hy
theorem maskF_nil (L : List Tx) (m : Nat) : maskF L m [] = (m, 0) := rfl
theorem maskF_hit {L : List Tx} (m : Nat) {x : Tx} {k : Nat} (r : List Tx) (h : idx L x = some k) : maskF L m (x :: r) = maskF L (m ||| 2 ^ k) r := by
  rw [maskF, h]
theorem maskF_miss {L : List Tx} (m : Nat) {x : Tx} (r : List Tx) (h : idx L x = none) : maskF L m (x :: r) = (0, 20) := by
  rw [maskF, h]
/-- The masks of the names of a mask. -/
theorem maskF_app {L : List Tx} (b : List Tx) : ∀ (a : List Tx) (m : Nat), (∀ x ∈ a, x ∈ L) → L.Nodup → maskF L m (a ++ b) = maskF L (maskF L m a).1 b ∧ (maskF L m a).2 = 0
  | [], m, _, _ => ⟨rfl, rfl⟩
  | x :: r, m, h, hd => by
    obtain ⟨k, hk, rfl⟩ := List.getElem_of_mem (h x List.mem_cons_self)
    rw [List.cons_append, maskF_hit _ _ (idx_some hd hk), maskF_hit _ _ (idx_some hd hk)]
    exact maskF_app b r _ (fun y hy => h y (List.mem_cons_of_mem _ hy)) hd
theorem mod_bit (m k : Nat) : m % 2 ^ (k + 1) = m % 2 ^ k ||| (if m.testBit k then 2 ^ k else 0) := by
  apply Nat.eq_of_testBit_eq
  intro i
  rw [Nat.testBit_or, Nat.testBit_mod_two_pow, Nat.testBit_mod_two_pow]
  by_cases e : k = i
  · subst e
    cases hb : m.testBit k <;> simp
  · have h1 : (if m.testBit k = true then 2 ^ k else 0).testBit i = false := by
      split
      · rw [Nat.testBit_two_pow]; exact decide_eq_false e
      · simp
    rw [h1, Bool.or_false]
    congr 1
    rw [Bool.eq_iff_iff]
    simp only [decide_eq_true_eq]
    omega
theorem maskF_sel {L : List Tx} (hd : L.Nodup) (m : Nat) : ∀ k, k ≤ L.length → maskF L 0 (selK L m k) = (m % 2 ^ k, 0)
  | 0, _ => by rw [selK_zero, maskF_nil, Nat.pow_zero, Nat.mod_one]
  | k + 1, h => by
    have ih := maskF_sel hd m k (by omega)
    rw [mod_bit]
    cases hb : m.testBit k
    · rw [selK_no hb, ih]
      simp
    · rw [selK_yes (by omega) hb, (maskF_app _ _ 0 (fun x hx => selK_mem (by omega) hx) hd).1, ih, maskF_hit _ _ (idx_some hd (by omega)), maskF_nil]
      simp
end Go.Proofs.YtnagecbepidfiaaGreatDoor.Cm

namespace Go.Proofs.YtnagecbepidfiaaGreatDoor.Pm
set_option maxRecDepth 100000
set_option linter.unusedVariables false
set_option linter.unusedSimpArgs false

structure St where
  k : Int
  s : ByteArray
  n : Int
deriving DecidableEq
def nul : ByteArray := ⟨#[]⟩
/-- A step with nothing but what one of its kind has. -/
def bareS (t : St) : St := if t.k = 1 then ⟨1, t.s, 0⟩ else if t.k = 2 then ⟨2, nul, t.n⟩ else ⟨t.k, nul, 0⟩
/-- Whether a step leads to one of a place. -/
def leadB (t x : St) : Bool := if t.k = 1 ∨ t.k = 2 then decide (bareS x = bareS t) else if t.k = 3 then decide (x.k = 1) else if t.k = 4 then decide (x.k = 2) else false
/-- Whether a pattern leads to a place. -/
def stp (p : St → Bool) (f : List St → Bool) : List St → Bool
  | [] => false
  | x :: r => p x && f r
def mt : List St → List St → Bool
  | [], a => a.isEmpty
  | t :: l, a => if t.k = 5 then (List.range (a.length + 1)).any fun i => mt l (a.drop i) else stp (leadB t) (mt l) a
theorem mt_nil (a : List St) : mt [] a = true ↔ a = [] := by cases a <;> simp [mt]
theorem mt_deep {t : St} (ht : t.k = 5) (l a : List St) : mt (t :: l) a = true ↔ ∃ i, i ≤ a.length ∧ mt l (a.drop i) = true := by
  rw [mt, if_pos ht, List.any_eq_true]
  constructor
  · rintro ⟨i, hi, h⟩
    exact ⟨i, by have := List.mem_range.1 hi; omega, h⟩
  · rintro ⟨i, hi, h⟩
    exact ⟨i, List.mem_range.2 (by omega), h⟩
theorem mt_one {t : St} (ht : t.k ≠ 5) (l a : List St) : mt (t :: l) a = true ↔ ∃ x r, a = x :: r ∧ leadB t x = true ∧ mt l r = true := by
  rw [mt, if_neg ht]
  cases a with
  | nil => simp [stp]
  | cons y q =>
    constructor
    · intro h; rw [stp, Bool.and_eq_true] at h; exact ⟨y, q, rfl, h.1, h.2⟩
    · rintro ⟨x, r, e, h1, h2⟩
      obtain ⟨rfl, rfl⟩ := List.cons.inj e
      rw [stp, h1, h2]; rfl
theorem mt_app : ∀ (l1 l2 a : List St), mt (l1 ++ l2) a = true ↔ ∃ i, i ≤ a.length ∧ mt l1 (a.take i) = true ∧ mt l2 (a.drop i) = true
  | [], l2, a => by
    constructor
    · intro h; exact ⟨0, by omega, rfl, h⟩
    · rintro ⟨i, hi, h1, h2⟩
      have := (mt_nil _).1 h1
      have h0 : i = 0 ∨ a = [] := by
        cases a with
        | nil => exact .inr rfl
        | cons x r => cases i with
          | zero => exact .inl rfl
          | succ i => simp at this
      rcases h0 with rfl | rfl
      · exact h2
      · simpa using h2
  | t :: l, l2, a => by
    by_cases ht : t.k = 5
    · rw [List.cons_append, mt_deep ht]
      constructor
      · rintro ⟨i, hi, h⟩
        obtain ⟨j, hj, h1, h2⟩ := (mt_app l l2 _).1 h
        rw [List.length_drop] at hj
        rw [List.drop_drop] at h2
        refine ⟨i + j, by omega, (mt_deep ht _ _).2 ⟨i, by rw [List.length_take]; omega, ?_⟩, h2⟩
        rw [List.drop_take, Nat.add_sub_cancel_left]
        exact h1
      · rintro ⟨j, hj, h1, h2⟩
        obtain ⟨i, hi, h⟩ := (mt_deep ht _ _).1 h1
        rw [List.length_take] at hi
        refine ⟨i, by omega, (mt_app l l2 _).2 ⟨j - i, by rw [List.length_drop]; omega, by rwa [List.drop_take] at h, ?_⟩⟩
        rw [List.drop_drop, show i + (j - i) = j by omega]
        exact h2
    · rw [List.cons_append, mt_one ht]
      constructor
      · rintro ⟨x, r, rfl, hx, h⟩
        obtain ⟨j, hj, h1, h2⟩ := (mt_app l l2 _).1 h
        exact ⟨j + 1, by simp; omega, (mt_one ht _ _).2 ⟨x, r.take j, rfl, hx, h1⟩, h2⟩
      · rintro ⟨j, hj, h1, h2⟩
        obtain ⟨x, r, e, hx, h⟩ := (mt_one ht _ _).1 h1
        cases a with
        | nil => simp at e
        | cons y q =>
          cases j with
          | zero => simp at e
          | succ j =>
            simp only [List.take_succ_cons, List.cons.injEq] at e
            obtain ⟨rfl, rfl⟩ := e
            exact ⟨y, q, rfl, hx, (mt_app l l2 _).2 ⟨j, by simpa using hj, h, h2⟩⟩
def deepS : St := ⟨5, nul, 0⟩
/-! ### a row of steps, each alone -/
def each : List St → List St → Bool
  | [], [] => true
  | t :: l, x :: r => leadB t x && each l r
  | _, _ => false
/-! ### the way back to the last step that may be any row -/
/-- What is left of both, from two places on. -/
def R (l a : List St) (i j : Nat) : Bool := mt (l.drop i) (a.drop j)
theorem R_end (l a : List St) : R l a l.length a.length = true := by unfold R; simp [mt]
theorem R_over (l a : List St) {j : Nat} (h : j < a.length) : R l a l.length j = false := by
  unfold R
  rw [List.drop_length]
  cases e : a.drop j with
  | nil => have := congrArg List.length e; rw [List.length_drop] at this; simp at this; omega
  | cons => rfl
theorem R_deep {l a : List St} {i j : Nat} (hi : i < l.length) (h5 : (l[i]'hi).k = 5) : R l a i j = true ↔ ∃ e, j ≤ e ∧ e ≤ max j a.length ∧ R l a (i + 1) e = true := by
  unfold R
  rw [List.drop_eq_getElem_cons hi, mt_deep h5]
  constructor
  · rintro ⟨e, h1, h2⟩
    rw [List.length_drop] at h1
    rw [List.drop_drop] at h2
    exact ⟨j + e, by omega, by omega, h2⟩
  · rintro ⟨e, h1, h2, h3⟩
    refine ⟨e - j, by rw [List.length_drop]; omega, ?_⟩
    rw [List.drop_drop, show j + (e - j) = e by omega]
    exact h3
theorem R_yes {l a : List St} {i j : Nat} (hi : i < l.length) (hj : j < a.length) (h5 : (l[i]'hi).k ≠ 5) : R l a i j = (leadB (l[i]'hi) (a[j]'hj) && R l a (i + 1) (j + 1)) := by
  unfold R
  rw [List.drop_eq_getElem_cons hi, List.drop_eq_getElem_cons hj, mt, if_neg h5]
  rfl
theorem R_none {l a : List St} {i : Nat} (hi : i < l.length) (h5 : (l[i]'hi).k ≠ 5) : R l a i a.length = false := by
  unfold R
  rw [List.drop_eq_getElem_cons hi, List.drop_length, mt, if_neg h5]
  rfl
/-- How far it has come: what is asked is what is left, or, behind a step that may be any row, what lies further down. -/
def Inv (l a : List St) (i j d e : Nat) : Prop :=
  i ≤ l.length ∧ j ≤ a.length ∧ (d = 0 → e = 0 ∧ mt l a = R l a i j) ∧
  (0 < d → d ≤ i ∧ e ≤ j ∧ i - d = j - e ∧ (∀ q, ∀ h : q < l.length, d ≤ q → q < i → (l[q]'h).k ≠ 5) ∧ (∃ h : d - 1 < l.length, (l[d - 1]'h).k = 5) ∧ mt l a = R l a (d - 1) e ∧
    (∀ e', R l a d e' = true → R l a i (e' + (i - d)) = true ∧ e' + (i - d) ≤ max e' a.length) ∧ R l a d e = R l a i j)
theorem Inv.start (l a : List St) : Inv l a 0 0 0 0 := ⟨by omega, by omega, fun _ => ⟨rfl, rfl⟩, fun h => absurd h (by omega)⟩
theorem R_back {l a : List St} {d e : Nat} (h : d - 1 < l.length) (hd : 0 < d) (h5 : (l[d - 1]'h).k = 5) (he : e ≤ a.length) : R l a (d - 1) e = (R l a d e || (decide (e < a.length) && R l a (d - 1) (e + 1))) := by
  rw [Bool.eq_iff_iff, R_deep h h5, show d - 1 + 1 = d by omega, Bool.or_eq_true, Bool.and_eq_true, decide_eq_true_eq, R_deep h h5, show d - 1 + 1 = d by omega]
  constructor
  · rintro ⟨q, h1, h2, h3⟩
    by_cases hq : q = e
    · exact .inl (hq ▸ h3)
    · exact .inr ⟨by omega, q, by omega, by omega, h3⟩
  · rintro (h1 | ⟨h0, q, h1, h2, h3⟩)
    · exact ⟨e, by omega, by omega, h1⟩
    · exact ⟨q, by omega, by omega, h3⟩
/-- A step that may be any row comes: it is the last one from now on. -/
theorem Inv.deep {l a : List St} {i j d e : Nat} (h : Inv l a i j d e) (hi : i < l.length) (h5 : (l[i]'hi).k = 5) : Inv l a (i + 1) j (i + 1) j := by
  obtain ⟨h1, h2, h3, h4⟩ := h
  have key : mt l a = R l a i j := by
    by_cases hd : d = 0
    · exact (h3 hd).2
    · obtain ⟨g1, g2, g3, g4, ⟨hl, g5⟩, g6, g7, g8⟩ := h4 (by omega)
      rw [g6, R_back hl (by omega) g5 (by omega), g8]
      cases hr : R l a i j with
      | true => rfl
      | false =>
        rw [Bool.false_or]
        by_cases he : e < a.length
        case neg => rw [decide_eq_false he]; rfl
        rw [Bool.and_eq_false_iff]
        right
        cases hb : R l a (d - 1) (e + 1) with
        | false => rfl
        | true =>
          exfalso
          obtain ⟨q, k1, k2, k3⟩ := (R_deep hl g5).1 hb
          rw [show d - 1 + 1 = d by omega] at k3
          obtain ⟨m1, m2⟩ := g7 q k3
          obtain ⟨p, n1, n2, n3⟩ := (R_deep hi h5).1 m1
          have : R l a i j = true := (R_deep hi h5).2 ⟨p, by omega, by omega, n3⟩
          rw [hr] at this; cases this
  refine ⟨hi, h2, fun h => absurd h (by omega), fun _ => ⟨Nat.le_refl _, Nat.le_refl _, by omega, fun q _ a b => absurd a (by omega), ⟨by simpa using hi, by simpa using h5⟩, by simpa using key, fun e' he => ⟨by simpa using he, by omega⟩, rfl⟩⟩
theorem Inv.yes {l a : List St} {i j d e : Nat} (h : Inv l a i j d e) (hi : i < l.length) (hj : j < a.length) (h5 : (l[i]'hi).k ≠ 5) (hy : leadB (l[i]'hi) (a[j]'hj) = true) : Inv l a (i + 1) (j + 1) d e := by
  obtain ⟨h1, h2, h3, h4⟩ := h
  have hR := R_yes hi hj h5
  rw [hy, Bool.true_and] at hR
  refine ⟨hi, hj, fun hd => ⟨(h3 hd).1, by rw [(h3 hd).2, hR]⟩, fun hd => ?_⟩
  obtain ⟨g1, g2, g3, g4, g5, g6, g7, g8⟩ := h4 hd
  refine ⟨by omega, by omega, by omega, fun q hq a b => ?_, g5, g6, fun e' he => ?_, by rw [g8, hR]⟩
  · by_cases hqi : q = i
    · subst hqi; exact h5
    · exact g4 q hq a (by omega)
  · obtain ⟨m1, m2⟩ := g7 e' he
    by_cases hlt : e' + (i - d) < a.length
    · rw [R_yes hi hlt h5, Bool.and_eq_true] at m1
      exact ⟨by rw [show e' + (i + 1 - d) = e' + (i - d) + 1 by omega]; exact m1.2, by omega⟩
    · exfalso
      unfold R at m1
      rw [List.drop_eq_getElem_cons hi, show a.drop (e' + (i - d)) = [] from List.drop_of_length_le (by omega), mt, if_neg h5] at m1
      cases m1
/-- It does not go on here. -/
theorem Inv.no {l a : List St} {i j d e : Nat} (h : Inv l a i j d e) (hj : j < a.length) (hn : R l a i j = false) : (d = 0 → mt l a = false) ∧ (0 < d → Inv l a d (e + 1) d (e + 1)) := by
  obtain ⟨h1, h2, h3, h4⟩ := h
  refine ⟨fun hd => by rw [(h3 hd).2, hn], fun hd => ?_⟩
  obtain ⟨g1, g2, g3, g4, ⟨hl, g5⟩, g6, g7, g8⟩ := h4 hd
  refine ⟨by omega, by omega, fun h => absurd h (by omega), fun _ => ⟨Nat.le_refl _, Nat.le_refl _, by omega, fun q _ a b => absurd a (by omega), ⟨hl, g5⟩, ?_, fun e' he => ⟨by simpa using he, by omega⟩, rfl⟩⟩
  rw [g6, R_back hl hd g5 (by omega), g8, hn, decide_eq_true (show e < a.length by omega)]
  simp
theorem R_no {l a : List St} {i j : Nat} (hj : j < a.length) (h : i ≤ l.length) (hn : ∀ hi : i < l.length, (l[i]'hi).k ≠ 5 ∧ leadB (l[i]'hi) (a[j]'hj) = false) : R l a i j = false := by
  by_cases hi : i < l.length
  · rw [R_yes hi hj (hn hi).1, (hn hi).2]; rfl
  · rw [show i = l.length by omega]; exact R_over l a hj
/-- All of the place is behind it. -/
theorem Inv.last {l a : List St} {i d e : Nat} (h : Inv l a i a.length d e) : mt l a = R l a i a.length := by
  obtain ⟨h1, h2, h3, h4⟩ := h
  by_cases hd : d = 0
  · exact (h3 hd).2
  · obtain ⟨g1, g2, g3, g4, ⟨hl, g5⟩, g6, g7, g8⟩ := h4 (by omega)
    rw [g6, R_back hl (by omega) g5 (by omega), g8]
    have : (decide (e < a.length) && R l a (d - 1) (e + 1)) = false := by
      rw [Bool.and_eq_false_iff]
      by_cases he : e < a.length
      · right
        cases hb : R l a (d - 1) (e + 1) with
        | false => rfl
        | true =>
          exfalso
          obtain ⟨q, k1, k2, k3⟩ := (R_deep hl g5).1 hb
          rw [show d - 1 + 1 = d by omega] at k3
          obtain ⟨m1, m2⟩ := g7 q k3
          omega
      · exact .inl (decide_eq_false he)
    rw [this, Bool.or_false]
theorem R_last {l a : List St} {i : Nat} (hi : i < l.length) (h5 : (l[i]'hi).k = 5) : R l a i a.length = R l a (i + 1) a.length := by
  rw [Bool.eq_iff_iff, R_deep hi h5]
  constructor
  · rintro ⟨e, h1, h2, h3⟩
    rwa [show e = a.length by omega] at h3
  · intro h; exact ⟨a.length, by omega, by omega, h⟩
/-- How much is left to do. -/
def left (L N d e j : Nat) : Nat := (L - d) * ((N + 2) * (N + 2)) + (N - e) * (N + 2) + (N - j)
theorem left_deep {L N d e i j : Nat} (hd : d ≤ i) (hi : i < L) (he : e ≤ j) : left L N (i + 1) j j < left L N d e j := by
  unfold left
  have h1 : (L - (i + 1) + 1) * ((N + 2) * (N + 2)) ≤ (L - d) * ((N + 2) * (N + 2)) := Nat.mul_le_mul_right _ (by omega)
  have h2 : (N - j) * (N + 2) ≤ (N - e) * (N + 2) := Nat.mul_le_mul_right _ (by omega)
  rw [Nat.add_mul] at h1
  have h3 : 1 ≤ (N + 2) * (N + 2) := Nat.mul_pos (by omega) (by omega)
  omega
theorem left_yes {L N d e j : Nat} (hj : j < N) : left L N d e (j + 1) < left L N d e j := by unfold left; omega
theorem left_no {L N d e j : Nat} (he : e < N) : left L N d (e + 1) (e + 1) < left L N d e j := by
  unfold left
  have h1 : (N - (e + 1) + 1) * (N + 2) = (N - e) * (N + 2) := by rw [show N - (e + 1) + 1 = N - e by omega]
  rw [Nat.add_mul] at h1
  omega

/-! ### rows of answers -/
/-- Whether the first i steps lead to the first k of a place. -/
def pre (l a : List St) (i k : Nat) : Bool := mt (l.take i) (a.take k)
theorem take_snoc {α : Type} (l : List α) (i : Nat) (h : i < l.length) : l.take (i + 1) = l.take i ++ [l[i]'h] := List.take_succ_eq_append_getElem h
theorem pre_one (l a : List St) (i k : Nat) (hi : i < l.length) (hk : k < a.length) (h5 : (l[i]'hi).k ≠ 5) : pre l a (i + 1) (k + 1) = (pre l a i k && leadB (l[i]'hi) (a[k]'hk)) := by
  unfold pre
  rw [Bool.eq_iff_iff, take_snoc l i hi, take_snoc a k hk, mt_app, Bool.and_eq_true]
  have hlen : (a.take k ++ [a[k]'hk]).length = k + 1 := by rw [List.length_append, List.length_take]; simp; omega
  constructor
  · rintro ⟨j, h1, h2, h3⟩
    obtain ⟨x, r, e, hx, hr⟩ := (mt_one h5 _ _).1 h3
    have hl := congrArg List.length e
    rw [(mt_nil _).1 hr, List.length_drop, hlen] at hl
    simp at hl
    obtain rfl : j = k := by omega
    rw [List.take_append_of_le_length (by rw [List.length_take]; omega), List.take_take, Nat.min_self] at h2
    rw [List.drop_append_of_le_length (by rw [List.length_take]; omega), List.drop_of_length_le (by rw [List.length_take]; omega)] at e
    simp at e
    exact ⟨h2, by rw [e.1]; exact hx⟩
  · rintro ⟨h1, h2⟩
    refine ⟨k, by omega, ?_, ?_⟩
    · rw [List.take_append_of_le_length (by rw [List.length_take]; omega), List.take_take, Nat.min_self]
      exact h1
    · rw [List.drop_append_of_le_length (by rw [List.length_take]; omega), List.drop_of_length_le (by rw [List.length_take]; omega)]
      exact (mt_one h5 _ _).2 ⟨_, [], rfl, h2, rfl⟩
/-! ### places -/
/-- A step of a place. -/
def Pl (x : St) : Prop := (x.k = 1 ∧ x.n = 0) ∨ (x.k = 2 ∧ x.s = nul)
theorem Pl.bare {x : St} (h : Pl x) : bareS x = x := by
  obtain ⟨k, s, n⟩ := x
  rcases h with ⟨h1, h2⟩ | ⟨h1, h2⟩
  · simp only at h1 h2; subst h1 h2; rfl
  · simp only at h1 h2; subst h1 h2; rfl
/-- A step that may be, but for its key. -/
def Cl (t : St) : Prop := bareS t = t ∧ 1 ≤ t.k ∧ t.k ≤ 5
end Go.Proofs.YtnagecbepidfiaaGreatDoor.Pm

set_option linter.unusedSimpArgs false
set_option linter.unusedVariables false
namespace Go.Proofs.YtnagecbepidfiaaGreatDoor
set_option maxRecDepth 100000
namespace Qm
open Go.Lib

/-! ### runes -/
/-- What stands first is UTF-8. -/
def good (l : List UInt8) : Prop := ¬ ((decodeL l).1 = 65533 ∧ (decodeL l).2 = 1)
/-- A rune that has a form in UTF-8. -/
def Sc (r : Nat) : Prop := r ≤ 1114111 ∧ ¬ (55296 ≤ r ∧ r ≤ 57343)

theorem byteN (z : Int) (h0 : 0 ≤ z) (h1 : z < 256) : (z.toNat.toUInt8).toNat = z.toNat := by
  simp [Nat.toUInt8]
  omega
set_option maxRecDepth 100000 in
set_option maxHeartbeats 4000000 in
theorem decode_encode (r : Nat) (hr : Sc r) (m : List UInt8) : decodeL (encodeRune (r : Int) ++ m) = (r, (encodeRune (r : Int)).length) := by
  obtain ⟨h1, h2⟩ := hr
  unfold encodeRune
  by_cases a : r ≤ 127
  · rw [encodeRuneZ_one (by omega) (by omega)]
    simp only [List.map_cons, List.map_nil, List.cons_append, List.nil_append]
    rw [decodeL_ascii _ _ (by rw [byteN _ (by omega) (by omega)]; omega), byteN _ (by omega) (by omega)]
    simp
  by_cases b : r ≤ 2047
  · rw [encodeRuneZ_two (by omega) (by omega), decodeL_N]
    simp only [List.map_cons, List.map_nil, List.cons_append, List.nil_append, List.getD_cons_zero, List.getD_cons_succ, List.length_cons, List.length_nil]
    rw [byteN _ (by omega) (by omega), byteN _ (by omega) (by omega)]
    unfold decodeN
    repeat' split
    all_goals first | (exfalso; omega) | (apply Prod.ext <;> simp only <;> omega)
  by_cases c : r ≤ 65535
  · rw [encodeRuneZ_three (by omega), decodeL_N]
    simp only [List.map_cons, List.map_nil, List.cons_append, List.nil_append, List.getD_cons_zero, List.getD_cons_succ, List.length_cons, List.length_nil]
    rw [byteN _ (by omega) (by omega), byteN _ (by omega) (by omega), byteN _ (by omega) (by omega)]
    unfold decodeN
    repeat' split
    all_goals first | (exfalso; omega) | (apply Prod.ext <;> simp only <;> omega)
  · rw [encodeRuneZ_four (by omega) (by omega), decodeL_N]
    simp only [List.map_cons, List.map_nil, List.cons_append, List.nil_append, List.getD_cons_zero, List.getD_cons_succ, List.length_cons, List.length_nil]
    rw [byteN _ (by omega) (by omega), byteN _ (by omega) (by omega), byteN _ (by omega) (by omega), byteN _ (by omega) (by omega)]
    unfold decodeN
    repeat' split
    all_goals first | (exfalso; omega) | (apply Prod.ext <;> simp only <;> omega)

theorem decode_sc (l : List UInt8) : Sc (decodeL l).1 := by
  rw [decodeL_N]
  have k0 := (l.getD 0 0).toNat_lt
  unfold Sc
  rcases decodeN_shape l.length (l.getD 0 0).toNat (l.getD 1 0).toNat (l.getD 2 0).toNat (l.getD 3 0).toNat with ⟨c, e⟩ | ⟨c1, c2, c3, cv, e⟩ | ⟨c1, c2, c3, c4, cv, cs, e⟩ | ⟨c1, c2, c3, c4, c5, cv, cw, e⟩ | e
  all_goals (rw [e]; dsimp only; omega)
theorem width_le4 (l : List UInt8) : (decodeL l).2 ≤ 4 := by
  rw [decodeL_N]
  rcases decodeN_shape l.length (l.getD 0 0).toNat (l.getD 1 0).toNat (l.getD 2 0).toNat (l.getD 3 0).toNat with ⟨c, e⟩ | ⟨c1, c2, c3, cv, e⟩ | ⟨c1, c2, c3, c4, cv, cs, e⟩ | ⟨c1, c2, c3, c4, c5, cv, cw, e⟩ | e
  all_goals (rw [e]; dsimp only; omega)
theorem piece (l : List UInt8) (hne : l ≠ []) (hv : good l) : encodeRune ((decodeL l).1 : Int) = l.take (decodeL l).2 := encode_decode l hne hv
theorem piece_len (l : List UInt8) (hne : l ≠ []) : (l.take (decodeL l).2).length = (decodeL l).2 := by
  have := decodeL_le l hne
  rw [List.length_take]; omega
/-- What stands first is read alike whatever stands behind it. -/
theorem decode_more (l m : List UInt8) (hne : l ≠ []) (hv : good l) : decodeL (l.take (decodeL l).2 ++ m) = decodeL l := by
  rw [← piece l hne hv, decode_encode _ (decode_sc l), piece l hne hv, piece_len l hne]
theorem enc_len (r : Int) : 1 ≤ (encodeRune r).length ∧ (encodeRune r).length ≤ 4 := by
  have := encodeRuneZ_length r
  simpa [encodeRune] using this
theorem enc_ne (r : Int) : encodeRune r ≠ [] := by
  intro h
  have := enc_len r
  rw [h] at this
  simp at this
theorem good_enc (r : Nat) (hr : Sc r) (m : List UInt8) : good (encodeRune (r : Int) ++ m) := by
  unfold good
  rw [decode_encode r hr]
  dsimp only
  intro h
  obtain ⟨rfl, h2⟩ := h
  revert h2
  decide
theorem take_ne (l : List UInt8) (hne : l ≠ []) : l.take (decodeL l).2 ≠ [] := by
  intro h
  have h1 := congrArg List.length h
  have h2 := decodeL_width l
  rw [piece_len l hne] at h1
  simp at h1
  omega
theorem app_ne {a b : List UInt8} (h : a ≠ []) : a ++ b ≠ [] := by
  intro e
  exact h (List.append_eq_nil_iff.1 e).1

theorem ind {P : List UInt8 → Prop} (h0 : P []) (h1 : ∀ l, l ≠ [] → P (l.drop (decodeL l).2) → P l) : ∀ (n : Nat) (l : List UInt8), l.length ≤ n → P l
  | 0, l, h => by
    have : l = [] := List.eq_nil_of_length_eq_zero (by omega)
    subst this; exact h0
  | n + 1, l, h => by
    by_cases hne : l = []
    · subst hne; exact h0
    · have hw := decodeL_width l
      have hl : 0 < l.length := List.length_pos_iff.2 hne
      exact h1 l hne (ind h0 h1 n _ (by rw [List.length_drop]; omega))
/-- Rune by rune. -/
theorem runes {P : List UInt8 → Prop} (h0 : P []) (h1 : ∀ l, l ≠ [] → P (l.drop (decodeL l).2) → P l) (l : List UInt8) : P l := ind h0 h1 l.length l (Nat.le_refl _)

theorem valid_good (l : List UInt8) (hne : l ≠ []) (h : validD l = true) : good l ∧ validD (l.drop (decodeL l).2) = true := by
  rw [validD_step l hne] at h
  by_cases g : (decodeL l).1 = 65533 ∧ (decodeL l).2 = 1
  · rw [if_pos g] at h; cases h
  · rw [if_neg g] at h; exact ⟨g, h⟩
theorem valid_enc (r : Nat) (hr : Sc r) (m : List UInt8) : validD (encodeRune (r : Int) ++ m) = validD m := by
  rw [validD_step _ (app_ne (enc_ne _)), if_neg (good_enc r hr m), decode_encode r hr, List.drop_left' rfl]

/-! ### the pieces of a text: the bytes of each rune -/
def pcs : Nat → List UInt8 → List (List UInt8)
  | 0, _ => []
  | n + 1, l => if l = [] then [] else l.take (decodeL l).2 :: pcs n (l.drop (decodeL l).2)
def pc (l : List UInt8) : List (List UInt8) := pcs l.length l
/-! ### quotes -/
def hexd (n : Nat) : UInt8 := if n < 10 then UInt8.ofNat (48 + n) else UInt8.ofNat (87 + n)
/-- How a rune is written behind a backslash; empty: as itself. -/
def esc (r : Nat) : List UInt8 :=
  if r = 34 then [92, 34] else if r = 92 then [92, 92] else if r = 10 then [92, 110] else if r = 13 then [92, 114] else if r = 9 then [92, 116]
  else if r < 32 ∨ r = 127 then [92, 117, 48, 48, hexd (r / 16), hexd (r % 16)] else []
theorem esc_small {r : Nat} (h : esc r ≠ []) : r < 128 := by
  by_cases g : r < 128
  · exact g
  · exact absurd (by unfold esc; repeat' split
                     all_goals first | rfl | omega) h
theorem esc_none {r : Nat} (h : esc r = []) : 32 ≤ r ∧ r ≠ 34 ∧ r ≠ 92 ∧ r ≠ 127 := by
  unfold esc at h
  repeat' split at h
  all_goals first | (cases h; done) | omega
/-- A rune, quoted. -/
def sign (l : List UInt8) : List UInt8 := if esc (decodeL l).1 = [] then l.take (decodeL l).2 else esc (decodeL l).1
def quos : Nat → List UInt8 → List UInt8
  | 0, _ => []
  | n + 1, l => if l = [] then [] else sign l ++ quos n (l.drop (decodeL l).2)
/-- A text, quoted, without the quotes. -/
def quo (l : List UInt8) : List UInt8 := quos l.length l
theorem quos_nil : ∀ n, quos n [] = []
  | 0 => rfl
  | _ + 1 => by simp [quos]
theorem quos_fuel : ∀ (n m : Nat) (l : List UInt8), l.length ≤ n → l.length ≤ m → quos n l = quos m l
  | 0, m, l, hn, _ => by
    have : l = [] := List.eq_nil_of_length_eq_zero (by omega)
    subst this; rw [quos_nil, quos_nil]
  | n + 1, 0, l, _, hm => by
    have : l = [] := List.eq_nil_of_length_eq_zero (by omega)
    subst this; rw [quos_nil, quos_nil]
  | n + 1, m + 1, l, hn, hm => by
    by_cases hne : l = []
    · subst hne; rw [quos_nil, quos_nil]
    · have hw := decodeL_width l
      have hl : 0 < l.length := List.length_pos_iff.2 hne
      simp only [quos, if_neg hne]
      rw [quos_fuel n m _ (by rw [List.length_drop]; omega) (by rw [List.length_drop]; omega)]
theorem quo_nil : quo [] = [] := rfl
theorem quo_step (l : List UInt8) (hne : l ≠ []) : quo l = sign l ++ quo (l.drop (decodeL l).2) := by
  have hw := decodeL_width l
  have hl : 0 < l.length := List.length_pos_iff.2 hne
  unfold quo
  obtain ⟨n, hn⟩ : ∃ n, l.length = n + 1 := ⟨l.length - 1, by omega⟩
  rw [hn]
  simp only [quos, if_neg hne]
  rw [quos_fuel n _ _ (by rw [List.length_drop]; omega) (Nat.le_refl _)]
def quoteL (l : List UInt8) : List UInt8 := 34 :: (quo l ++ [34])
end Qm
end Go.Proofs.YtnagecbepidfiaaGreatDoor

set_option linter.unusedSimpArgs false
set_option linter.unusedVariables false
namespace Go.Proofs.YtnagecbepidfiaaGreatDoor
set_option maxRecDepth 100000
namespace Qm
open Go.Lib

/-! ### reading -/
/-- The worth of a hexadecimal digit. -/
def worth (c : Nat) : Option Nat := if 48 ≤ c ∧ c ≤ 57 then some (c - 48) else if 97 ≤ c ∧ c ≤ 102 then some (c - 87) else if 65 ≤ c ∧ c ≤ 70 then some (c - 55) else none
def digs : List UInt8 → Nat → Option Nat
  | [], n => some n
  | c :: t, n => match worth c.toNat with | none => none | some v => digs t (16 * n + v)
/-- A backslash, u, and four digits. -/
def unitL (l : List UInt8) : Option Nat := if 6 ≤ l.length ∧ l.getD 0 0 = 92 ∧ l.getD 1 0 = 117 then digs ((l.drop 2).take 4) 0 else none
/-- .. or both halves of a rune. -/
def numL (l : List UInt8) : Option (Nat × Nat) :=
  match unitL l with
  | none => none
  | some a => if a < 55296 ∨ 57344 ≤ a then some (a, 6) else
    match unitL (l.drop 6) with
    | none => none
    | some b => if a < 56320 ∧ 56320 ≤ b ∧ b < 57344 then some (65536 + (a - 55296) * 1024 + (b - 56320), 12) else none
def escL (c : Nat) : Option Nat :=
  if c = 34 ∨ c = 92 ∨ c = 47 then some c else if c = 98 then some 8 else if c = 102 then some 12 else if c = 110 then some 10 else if c = 114 then some 13 else if c = 116 then some 9 else none
/-- The rune that is written first, and how many bytes are written for it. -/
def nextL (l : List UInt8) : Option (Nat × Nat) :=
  if l = [] then none
  else if l.getD 0 0 = 92 then
    (if l.length < 2 then none else match escL (l.getD 1 0).toNat with | some r => some (r, 2) | none => numL l)
  else if (decodeL l).1 < 32 ∨ ((decodeL l).1 = 65533 ∧ (decodeL l).2 ≤ 1) then none
  else some (decodeL l)

theorem worth_lt {c v : Nat} (h : worth c = some v) : v < 16 := by
  unfold worth at h
  repeat' split at h
  all_goals first | (cases h; done) | (cases h; omega)
theorem digs_lt : ∀ (l : List UInt8) (n v : Nat), digs l n = some v → v < (n + 1) * 16 ^ l.length
  | [], n, v, h => by simp [digs] at h; subst h; simp
  | c :: t, n, v, h => by
    unfold digs at h
    cases hw : worth c.toNat with
    | none => rw [hw] at h; cases h
    | some x =>
      rw [hw] at h
      have := digs_lt t _ v h
      have hx := worth_lt hw
      have h2 : (16 * n + x + 1) * 16 ^ t.length ≤ (16 * (n + 1)) * 16 ^ t.length := Nat.mul_le_mul_right _ (by omega)
      rw [List.length_cons, Nat.pow_succ, Nat.mul_comm (16 ^ t.length) 16, ← Nat.mul_assoc, Nat.mul_comm (n + 1) 16]
      omega
theorem unit_lt {l : List UInt8} {a : Nat} (h : unitL l = some a) : a < 65536 ∧ 6 ≤ l.length := by
  unfold unitL at h
  split at h
  · rename_i g
    have h1 := digs_lt _ _ _ h
    have h2 : ((l.drop 2).take 4).length = 4 := by rw [List.length_take, List.length_drop]; omega
    rw [h2] at h1
    exact ⟨by omega, g.1⟩
  · cases h
theorem num_ok {l : List UInt8} {r k : Nat} (h : numL l = some (r, k)) : 1 ≤ k ∧ k ≤ l.length ∧ Sc r := by
  unfold numL at h
  cases ha : unitL l with
  | none => rw [ha] at h; cases h
  | some a =>
    rw [ha] at h
    dsimp only at h
    obtain ⟨u1, u2⟩ := unit_lt ha
    split at h
    · rename_i g
      have e1 := congrArg Prod.fst (Option.some.inj h)
      have e2 := congrArg Prod.snd (Option.some.inj h)
      dsimp only at e1 e2
      exact ⟨by omega, by omega, by unfold Sc; omega⟩
    · cases hb : unitL (l.drop 6) with
      | none => rw [hb] at h; cases h
      | some b =>
        rw [hb] at h
        dsimp only at h
        obtain ⟨w1, w2⟩ := unit_lt hb
        rw [List.length_drop] at w2
        split at h
        · rename_i g
          have e1 := congrArg Prod.fst (Option.some.inj h)
          have e2 := congrArg Prod.snd (Option.some.inj h)
          dsimp only at e1 e2
          exact ⟨by omega, by omega, by unfold Sc; omega⟩
        · cases h
theorem esc_sc {c r : Nat} (h : escL c = some r) : Sc r ∧ r < 128 := by
  unfold escL at h
  repeat' split at h
  all_goals first | (cases h; done) | (have e := Option.some.inj h; unfold Sc; omega)
theorem next_ok {l : List UInt8} {r k : Nat} (h : nextL l = some (r, k)) : 1 ≤ k ∧ k ≤ l.length ∧ Sc r := by
  unfold nextL at h
  split at h
  · cases h
  · rename_i hne
    split at h
    · split at h
      · cases h
      · rename_i hl
        cases he : escL (l.getD 1 0).toNat with
        | some x =>
          rw [he] at h
          cases h
          exact ⟨by omega, by omega, (esc_sc he).1⟩
        | none => rw [he] at h; exact num_ok h
    · split at h
      · cases h
      · have e1 := congrArg Prod.fst (Option.some.inj h)
        have e2 := congrArg Prod.snd (Option.some.inj h)
        dsimp only at e1 e2
        subst e1; subst e2
        exact ⟨decodeL_width l, decodeL_le l hne, decode_sc l⟩

/-- The text that is read up to the quote, and how many bytes are written for it, with the quote. -/
def unqs : Nat → List UInt8 → Option (List UInt8 × Nat)
  | 0, _ => none
  | n + 1, l => if l.getD 0 0 = 34 then some ([], 1) else
    match nextL l with
    | none => none
    | some (r, k) => match unqs n (l.drop k) with | none => none | some (t, m) => some (encodeRune (r : Int) ++ t, k + m)
def unq (l : List UInt8) : Option (List UInt8 × Nat) := unqs l.length l
theorem next_nil : nextL [] = none := rfl
theorem unqs_nil : ∀ n, unqs n [] = none
  | 0 => rfl
  | _ + 1 => by simp [unqs, next_nil]
theorem unqs_fuel : ∀ (n m : Nat) (l : List UInt8), l.length ≤ n → l.length ≤ m → unqs n l = unqs m l
  | 0, m, l, hn, _ => by
    have : l = [] := List.eq_nil_of_length_eq_zero (by omega)
    subst this; rw [unqs_nil, unqs_nil]
  | n + 1, 0, l, _, hm => by
    have : l = [] := List.eq_nil_of_length_eq_zero (by omega)
    subst this; rw [unqs_nil, unqs_nil]
  | n + 1, m + 1, l, hn, hm => by
    unfold unqs
    cases hx : nextL l with
    | none => rfl
    | some p =>
      obtain ⟨r, k⟩ := p
      have := next_ok hx
      dsimp only
      rw [unqs_fuel n m _ (by rw [List.length_drop]; omega) (by rw [List.length_drop]; omega)]
theorem unq_end (l : List UInt8) (h : l.getD 0 0 = 34) : unq l = some ([], 1) := by
  cases l with
  | nil => simp at h
  | cons c t => unfold unq; simp only [List.length_cons, unqs]; rw [if_pos h]
theorem unq_none (l : List UInt8) (h : l.getD 0 0 ≠ 34) (hx : nextL l = none) : unq l = none := by
  cases l with
  | nil => rfl
  | cons c t => unfold unq; simp only [List.length_cons, unqs]; rw [if_neg h, hx]
theorem unq_step (l : List UInt8) (h : l.getD 0 0 ≠ 34) {r k : Nat} (hx : nextL l = some (r, k)) :
    unq l = match unq (l.drop k) with | none => none | some (t, m) => some (encodeRune (r : Int) ++ t, k + m) := by
  cases l with
  | nil => cases hx
  | cons c t =>
    have := next_ok hx
    unfold unq
    simp only [List.length_cons, unqs]
    rw [if_neg h, hx]
    dsimp only
    rw [unqs_fuel t.length _ _ (by rw [List.length_drop, List.length_cons] at *; omega) (Nat.le_refl _)]

/-- What Unquote tells of what stands behind the first quote: the text, how many bytes with both quotes, the error. -/
def unquoteL (l : List UInt8) : List UInt8 × Nat × Nat :=
  if l.getD 0 0 = 34 then
    match unq (l.drop 1) with
    | none => ([], 0, 6)
    | some (t, m) => if 4096 < t.length then ([], 0, 3) else (t, m + 1, 0)
  else ([], 0, 6)

/-- What is read is UTF-8, and is no longer than what it is read of. -/
theorem unq_valid : ∀ (n : Nat) (l : List UInt8), l.length ≤ n → ∀ t m, unq l = some (t, m) → validD t = true ∧ 1 ≤ m ∧ m ≤ l.length
  | 0, l, hn, t, m, h => by
    have : l = [] := List.eq_nil_of_length_eq_zero (by omega)
    subst this; cases h
  | n + 1, l, hn, t, m, h => by
    by_cases hq : l.getD 0 0 = 34
    · rw [unq_end l hq] at h
      cases h
      refine ⟨rfl, Nat.le_refl _, ?_⟩
      cases l with
      | nil => simp at hq
      | cons c u => simp
    · cases hx : nextL l with
      | none => rw [unq_none l hq hx] at h; cases h
      | some p =>
        obtain ⟨r, k⟩ := p
        obtain ⟨k1, k2, k3⟩ := next_ok hx
        rw [unq_step l hq hx] at h
        cases hu : unq (l.drop k) with
        | none => rw [hu] at h; cases h
        | some q =>
          obtain ⟨t', m'⟩ := q
          rw [hu] at h
          cases h
          obtain ⟨v1, v2, v3⟩ := unq_valid n (l.drop k) (by rw [List.length_drop]; omega) t' m' hu
          rw [List.length_drop] at v3
          exact ⟨by rw [valid_enc r k3]; exact v1, by omega, by omega⟩

/-! ### what was quoted -/
theorem esc_form (r : Nat) (h : esc r ≠ []) : (∃ c, esc r = [92, c] ∧ escL c.toNat = some r) ∨ (∃ x y, esc r = [92, 117, 48, 48, x, y] ∧ digs [48, 48, x, y] 0 = some r ∧ r < 55296 ∧ escL (117 : UInt8).toNat = none) := by
  have hr := esc_small h
  unfold esc at h ⊢
  split
  · rename_i e; subst e; exact .inl ⟨34, rfl, by decide⟩
  split
  · rename_i e; subst e; exact .inl ⟨92, rfl, by decide⟩
  split
  · rename_i e; subst e; exact .inl ⟨110, rfl, by decide⟩
  split
  · rename_i e; subst e; exact .inl ⟨114, rfl, by decide⟩
  split
  · rename_i e; subst e; exact .inl ⟨116, rfl, by decide⟩
  split
  · refine .inr ⟨_, _, rfl, ?_, by omega, by decide⟩
    have key : ∀ r : Fin 128, digs [48, 48, hexd (r.val / 16), hexd (r.val % 16)] 0 = some r.val := by decide
    exact key ⟨r, hr⟩
  · rename_i e1 e2 e3 e4 e5 e6
    exact absurd (by simp [e1, e2, e3, e4, e5, e6]) h
theorem next_esc (r : Nat) (h : esc r ≠ []) (m : List UInt8) : nextL (esc r ++ m) = some (r, (esc r).length) := by
  rcases esc_form r h with ⟨c, e, hc⟩ | ⟨x, y, e, hd, hr, hu⟩
  · rw [e]
    simp only [List.cons_append, List.nil_append]
    unfold nextL
    rw [if_neg (by simp), if_pos (by simp), if_neg (by simp)]
    simp only [List.getD_cons_succ, List.getD_cons_zero]
    rw [hc]
    rfl
  · rw [e]
    simp only [List.cons_append, List.nil_append]
    have hun : unitL (92 :: 117 :: 48 :: 48 :: x :: y :: m) = some r := by
      unfold unitL
      rw [if_pos ⟨by simp, by simp, by simp⟩]
      exact hd
    unfold nextL
    rw [if_neg (by simp), if_pos (by simp), if_neg (by simp)]
    simp only [List.getD_cons_succ, List.getD_cons_zero]
    rw [hu]
    dsimp only
    unfold numL
    rw [hun]
    dsimp only
    rw [if_pos (.inl hr)]
    rfl
theorem head_esc (r : Nat) (h : esc r ≠ []) (m : List UInt8) : (esc r ++ m).getD 0 0 = 92 := by
  rcases esc_form r h with ⟨c, e, hc⟩ | ⟨x, y, e, hd, hr, hu⟩ <;> rw [e] <;> simp
theorem head_ascii (l : List UInt8) (hne : l ≠ []) (h : (l.getD 0 0).toNat < 128) : (decodeL l).1 = (l.getD 0 0).toNat := by
  cases l with
  | nil => exact absurd rfl hne
  | cons c t => rw [decodeL_ascii c t h]; simp
theorem head_more (l m : List UInt8) (hne : l ≠ []) : (l.take (decodeL l).2 ++ m).getD 0 0 = l.getD 0 0 := by
  cases l with
  | nil => exact absurd rfl hne
  | cons c t =>
    have := decodeL_width (c :: t)
    obtain ⟨k, hk⟩ : ∃ k, (decodeL (c :: t)).2 = k + 1 := ⟨(decodeL (c :: t)).2 - 1, by omega⟩
    rw [hk]
    simp
theorem head_plain (l : List UInt8) (hne : l ≠ []) (h : esc (decodeL l).1 = []) : l.getD 0 0 ≠ 34 ∧ l.getD 0 0 ≠ 92 := by
  have e := esc_none h
  constructor
  · intro g
    have := head_ascii l hne (by rw [g]; decide)
    rw [g] at this
    have h2 : (34 : UInt8).toNat = 34 := by decide
    omega
  · intro g
    have := head_ascii l hne (by rw [g]; decide)
    rw [g] at this
    have h2 : (92 : UInt8).toNat = 92 := by decide
    omega
theorem next_plain (l m : List UInt8) (hne : l ≠ []) (hv : good l) (h : esc (decodeL l).1 = []) : nextL (l.take (decodeL l).2 ++ m) = some (decodeL l) := by
  have hp := head_plain l hne h
  have he := esc_none h
  unfold nextL
  rw [if_neg (app_ne (take_ne l hne)), head_more l m hne, if_neg hp.2, decode_more l m hne hv, if_neg ?_]
  intro g
  rcases g with g | g
  · omega
  · have := decodeL_width l
    exact hv ⟨g.1, by omega⟩
theorem sign_head (l m : List UInt8) (hne : l ≠ []) : (sign l ++ m).getD 0 0 ≠ 34 := by
  unfold sign
  by_cases h : esc (decodeL l).1 = []
  · rw [if_pos h, head_more l m hne]; exact (head_plain l hne h).1
  · rw [if_neg h, head_esc _ h]; decide
theorem sign_next (l m : List UInt8) (hne : l ≠ []) (hv : good l) : nextL (sign l ++ m) = some ((decodeL l).1, (sign l).length) := by
  unfold sign
  by_cases h : esc (decodeL l).1 = []
  · rw [if_pos h, next_plain l m hne hv h, piece_len l hne]
  · rw [if_neg h, next_esc _ h]
/-- What was quoted is read as it was, whatever stands behind it. -/
theorem unq_quo (l m : List UInt8) (h : validD l = true) : unq (quo l ++ 34 :: m) = some (l, (quo l).length + 1) := by
  revert h
  refine runes (P := fun l => validD l = true → unq (quo l ++ 34 :: m) = some (l, (quo l).length + 1)) (fun _ => unq_end _ (by simp [quo_nil])) ?_ l
  intro l hne ih h
  obtain ⟨hg, hr⟩ := valid_good l hne h
  show unq (quo l ++ 34 :: m) = some (l, (quo l).length + 1)
  rw [quo_step l hne, List.append_assoc, unq_step _ (sign_head l _ hne) (sign_next l _ hne hg), List.drop_left' rfl, ih hr]
  dsimp only
  rw [piece l hne hg, List.take_append_drop, List.length_append, Nat.add_assoc]
theorem unquote_quote (l m : List UInt8) (h : validD l = true) (hl : l.length ≤ 4096) : unquoteL (quoteL l ++ m) = (l, (quoteL l).length, 0) := by
  unfold unquoteL quoteL
  rw [if_pos (by simp)]
  simp only [List.cons_append, List.drop_succ_cons, List.drop_zero, List.append_assoc, List.nil_append]
  rw [unq_quo l m h]
  dsimp only
  rw [if_neg (by omega)]
  simp

/-! ### what was quoted, and is cut -/
end Qm
end Go.Proofs.YtnagecbepidfiaaGreatDoor

set_option linter.unusedSimpArgs false
set_option linter.unusedVariables false
namespace Go.Proofs.YtnagecbepidfiaaGreatDoor
set_option maxRecDepth 100000
namespace Qm
open Go.Lib

theorem esc_length (r : Nat) (h : esc r ≠ []) : 2 ≤ (esc r).length ∧ (esc r).length ≤ 6 := by
  rcases esc_form r h with ⟨c, e, _⟩ | ⟨x, y, e, _⟩ <;> rw [e] <;> simp
theorem enc_high (r : Nat) (hr : 128 ≤ r) (hs : Sc r) : ∀ c ∈ encodeRune (r : Int), 128 ≤ c.toNat := by
  obtain ⟨h1, h2⟩ := hs
  intro c hc
  unfold encodeRune at hc
  obtain ⟨z, hz, rfl⟩ := List.mem_map.1 hc
  have hb := encodeRuneZ_byte _ z hz
  rw [byteN z (by omega) (by omega)]
  have : 128 ≤ z := by
    by_cases b : r ≤ 2047
    · rw [encodeRuneZ_two (by omega) (by omega)] at hz
      simp at hz; omega
    by_cases c : r ≤ 65535
    · rw [encodeRuneZ_three (by omega)] at hz
      simp at hz; omega
    · rw [encodeRuneZ_four (by omega) (by omega)] at hz
      simp at hz; omega
  omega
theorem enc_low (r : Nat) (hr : r < 128) : encodeRune (r : Int) = [UInt8.ofNat r] := by
  unfold encodeRune
  rw [encodeRuneZ_one (by omega) (by omega)]
  simp [Nat.toUInt8]
theorem ascii_valid : ∀ (e m : List UInt8), (∀ c ∈ e, c.toNat < 128) → validD (e ++ m) = validD m
  | [], m, _ => rfl
  | c :: t, m, h => by
    rw [List.cons_append, validD_cons c _ (h c (by simp)), ascii_valid t m (fun x hx => h x (by simp [hx]))]
/-- A byte that stands for itself. -/
def bare (c : UInt8) : Bool := decide (32 ≤ c.toNat) && decide (c.toNat ≠ 34) && decide (c.toNat ≠ 92) && decide (c.toNat ≠ 127)
theorem sign_bare (l : List UInt8) (hne : l ≠ []) (hv : good l) : (l.take (decodeL l).2).all bare = decide (esc (decodeL l).1 = []) := by
  rw [← piece l hne hv]
  by_cases hr : (decodeL l).1 < 128
  · have key : ∀ r : Fin 128, ([UInt8.ofNat r.val].all bare) = decide (esc r.val = []) := by decide
    rw [enc_low _ hr]
    exact key ⟨_, hr⟩
  · have h1 : esc (decodeL l).1 = [] := by
      by_cases g : esc (decodeL l).1 = []
      · exact g
      · exact absurd (esc_small g) hr
    rw [decide_eq_true h1, List.all_eq_true]
    intro c hc
    have := enc_high _ (by omega) (decode_sc l) c hc
    unfold bare
    simp
    omega
theorem quo_len (l : List UInt8) (h : validD l = true) : l.length ≤ (quo l).length ∧ (quo l).length ≤ 6 * l.length ∧ (l.all bare = true ↔ quo l = l) ∧ (l.all bare = false → l.length < (quo l).length) := by
  revert h
  refine runes (P := fun l => validD l = true → l.length ≤ (quo l).length ∧ (quo l).length ≤ 6 * l.length ∧ (l.all bare = true ↔ quo l = l) ∧ (l.all bare = false → l.length < (quo l).length)) (fun _ => by simp [quo_nil]) ?_ l
  intro l hne ih h
  obtain ⟨hg, hr⟩ := valid_good l hne h
  obtain ⟨i1, i2, i3, i4⟩ := ih hr
  have w1 := decodeL_width l
  have w2 := decodeL_le l hne
  rw [List.length_drop] at i1 i2 i4
  have hb := sign_bare l hne hg
  have hall : l.all bare = ((l.take (decodeL l).2).all bare && (l.drop (decodeL l).2).all bare) := by
    rw [← List.all_append, List.take_append_drop]
  show l.length ≤ (quo l).length ∧ (quo l).length ≤ 6 * l.length ∧ (l.all bare = true ↔ quo l = l) ∧ (l.all bare = false → l.length < (quo l).length)
  rw [hall, hb, quo_step l hne, List.length_append]
  by_cases he : esc (decodeL l).1 = []
  · have hs : sign l = l.take (decodeL l).2 := by unfold sign; rw [if_pos he]
    rw [hs, piece_len l hne, decide_eq_true he, Bool.true_and]
    refine ⟨by omega, by omega, ?_, fun g => by have := i4 g; omega⟩
    rw [i3]
    constructor
    · intro g; rw [g, List.take_append_drop]
    · intro g
      have := congrArg (List.drop (decodeL l).2) g
      rwa [List.drop_left' (piece_len l hne)] at this
  · have hs : sign l = esc (decodeL l).1 := by unfold sign; rw [if_neg he]
    have hl := esc_length _ he
    have hw : (decodeL l).2 = 1 := by
      have hr := esc_small he
      have := piece l hne hg
      rw [enc_low _ hr] at this
      have h2 := congrArg List.length this
      rw [piece_len l hne] at h2
      simpa using h2.symm
    rw [hs, decide_eq_false he, Bool.false_and]
    refine ⟨by omega, by omega, ⟨fun g => (by cases g), fun g => ?_⟩, fun _ => by omega⟩
    have := congrArg List.length g
    rw [List.length_append] at this
    omega
theorem quote_len (l : List UInt8) (h : validD l = true) : l.length + 2 ≤ (quoteL l).length ∧ (quoteL l).length ≤ 6 * l.length + 2 ∧ (l.all bare = true ↔ quoteL l = 34 :: (l ++ [34])) := by
  obtain ⟨h1, h2, h3, _⟩ := quo_len l h
  unfold quoteL
  simp only [List.length_cons, List.length_append, List.length_nil]
  refine ⟨by omega, by omega, h3.trans ⟨fun e => by rw [e], fun e => ?_⟩⟩
  have := (List.cons.inj e).2
  exact List.append_cancel_right this
end Qm
end Go.Proofs.YtnagecbepidfiaaGreatDoor

set_option linter.unusedSimpArgs false
set_option linter.unusedVariables false
namespace Go.Proofs.YtnagecbepidfiaaGreatDoor
set_option maxRecDepth 100000
namespace Qm
open Go.Lib

/-- What is read: a text that is UTF-8 and not too long, or nothing. -/
theorem unquote_shape (l : List UInt8) : (∃ t n, unquoteL l = (t, n, 0) ∧ validD t = true ∧ 2 ≤ n ∧ n ≤ l.length ∧ t.length ≤ 4096) ∨ unquoteL l = ([], 0, 3) ∨ unquoteL l = ([], 0, 6) := by
  unfold unquoteL
  by_cases h : l.getD 0 0 = 34
  · rw [if_pos h]
    have hne : l ≠ [] := by intro e; rw [e] at h; simp at h
    have hl : 0 < l.length := List.length_pos_iff.2 hne
    cases hu : unq (l.drop 1) with
    | none => exact .inr (.inr rfl)
    | some p =>
      obtain ⟨t, m⟩ := p
      obtain ⟨v1, v2, v3⟩ := unq_valid _ _ (Nat.le_refl _) t m hu
      rw [List.length_drop] at v3
      dsimp only
      by_cases g : 4096 < t.length
      · rw [if_pos g]; exact .inr (.inl rfl)
      · rw [if_neg g]; exact .inl ⟨t, m + 1, rfl, v1, by omega, by omega, by omega⟩
  · rw [if_neg h]; exact .inr (.inr rfl)
end Qm
end Go.Proofs.YtnagecbepidfiaaGreatDoor

set_option linter.unusedSimpArgs false
set_option linter.unusedVariables false
namespace Go.Proofs.YtnagecbepidfiaaGreatDoor
set_option maxRecDepth 100000
namespace Qm
open Go.Lib

/-- At the p-th byte, what was read is acc, what is held of it bs. -/
def UI (l : List UInt8) (p : Nat) (acc bs : List UInt8) : Prop :=
  1 ≤ p ∧ p ≤ l.length ∧ (bs = acc ∨ (4096 < bs.length ∧ 4096 < acc.length)) ∧ bs.length ≤ 4100 ∧
  unq (l.drop 1) = (match unq (l.drop p) with | none => none | some (t, m) => some (acc ++ t, (p - 1) + m))
theorem UI.start (l : List UInt8) (h : 1 ≤ l.length) : UI l 1 [] [] := by
  refine ⟨Nat.le_refl _, h, .inl rfl, by simp, ?_⟩
  cases unq (l.drop 1) with
  | none => rfl
  | some q => simp
theorem UI.more {l : List UInt8} {p : Nat} {acc bs : List UInt8} (h : UI l p acc bs) (hh : (l.drop p).getD 0 0 ≠ 34) {r k : Nat} (hx : nextL (l.drop p) = some (r, k)) (cs : List UInt8)
    (hc : (bs.length ≤ 4096 ∧ cs = bs ++ encodeRune (r : Int)) ∨ (4096 < bs.length ∧ cs = bs)) : UI l (p + k) (acc ++ encodeRune (r : Int)) cs := by
  obtain ⟨h1, h2, h3, h4, h5⟩ := h
  obtain ⟨k1, k2, k3⟩ := next_ok hx
  have he := enc_len (r : Int)
  rw [List.length_drop] at k2
  refine ⟨by omega, by omega, ?_, ?_, ?_⟩
  · rcases hc with ⟨g, rfl⟩ | ⟨g, rfl⟩
    · rcases h3 with rfl | h3
      · exact .inl rfl
      · exact absurd h3.1 (by omega)
    · refine .inr ⟨g, ?_⟩
      rw [List.length_append]
      rcases h3 with rfl | h3 <;> omega
  · rcases hc with ⟨g, rfl⟩ | ⟨g, rfl⟩
    · rw [List.length_append]; omega
    · exact h4
  · rw [h5, unq_step _ hh hx, List.drop_drop]
    cases unq (l.drop (p + k)) with
    | none => rfl
    | some q =>
      obtain ⟨t, m⟩ := q
      dsimp only
      rw [List.append_assoc, show p - 1 + (k + m) = p + k - 1 + m by omega]
theorem UI.none {l : List UInt8} {p : Nat} {acc bs : List UInt8} (h : UI l p acc bs) (h0 : l.getD 0 0 = 34) (hh : (l.drop p).getD 0 0 ≠ 34) (hx : nextL (l.drop p) = none) : unquoteL l = ([], 0, 6) := by
  obtain ⟨h1, h2, h3, h4, h5⟩ := h
  unfold unquoteL
  rw [if_pos h0, h5, unq_none _ hh hx]
theorem UI.last {l : List UInt8} {p : Nat} {acc bs : List UInt8} (h : UI l p acc bs) (h0 : l.getD 0 0 = 34) (hh : (l.drop p).getD 0 0 = 34) :
    p + 1 ≤ l.length ∧ (4096 < bs.length → unquoteL l = ([], 0, 3)) ∧ (bs.length ≤ 4096 → unquoteL l = (bs, p + 1, 0)) := by
  obtain ⟨h1, h2, h3, h4, h5⟩ := h
  have hp : p + 1 ≤ l.length := by
    by_cases g : p < l.length
    · omega
    · rw [List.drop_eq_nil_of_le (by omega)] at hh
      simp at hh
  have e : unq (l.drop 1) = some (acc, p) := by
    rw [h5, unq_end _ hh]
    dsimp only
    rw [List.append_nil, Nat.sub_add_cancel h1]
  refine ⟨hp, fun g => ?_, fun g => ?_⟩
  · unfold unquoteL
    rw [if_pos h0, e]
    dsimp only
    rw [if_pos]
    rcases h3 with rfl | h3 <;> omega
  · have ea : bs = acc := by
      rcases h3 with rfl | h3
      · rfl
      · exact absurd h3.1 (by omega)
    subst ea
    unfold unquoteL
    rw [if_pos h0, e]
    dsimp only
    rw [if_neg (by omega)]
end Qm
end Go.Proofs.YtnagecbepidfiaaGreatDoor

set_option linter.unusedSimpArgs false
set_option linter.unusedVariables false
namespace Go.Proofs.YtnagecbepidfiaaGreatDoor
set_option maxRecDepth 100000
namespace Qm
open Go.Lib

/-- The rune that stands first, and its bytes; none: 0, 0. -/
def runeV (l : List UInt8) : Nat × Nat := if (decodeL l).1 = 65533 ∧ (decodeL l).2 = 1 then (0, 0) else decodeL l
/-- A first byte of a longer rune: so many bytes, the least such rune, what the byte is worth. -/
def lead (c n least x : Nat) : Prop := (194 ≤ c ∧ c < 224 ∧ n = 2 ∧ least = 128 ∧ x = c - 192) ∨ (224 ≤ c ∧ c < 240 ∧ n = 3 ∧ least = 2048 ∧ x = c - 224) ∨ (240 ≤ c ∧ c < 245 ∧ n = 4 ∧ least = 65536 ∧ x = c - 240)
/-- What the first byte and the k behind it are worth. -/
def valX (l : List UInt8) (x : Nat) : Nat → Nat
  | 0 => x
  | k + 1 => 64 * valX l x k + (l.getD (k + 1) 0).toNat - 128

theorem runeV_ascii (l : List UInt8) (h : (l.getD 0 0).toNat < 128) : runeV l = ((l.getD 0 0).toNat, 1) := by
  unfold runeV
  rw [decodeL_N]
  unfold decodeN
  rw [if_pos h, if_neg (by dsimp only; omega)]
theorem runeV_of {l : List UInt8} {a b : Nat} (h : decodeN l.length (l.getD 0 0).toNat (l.getD 1 0).toNat (l.getD 2 0).toNat (l.getD 3 0).toNat = (a, b)) (hn : ¬ (a = 65533 ∧ b = 1)) : runeV l = (a, b) := by
  unfold runeV
  rw [decodeL_N, h, if_neg hn]
theorem runeV_bad {l : List UInt8} (h : decodeN l.length (l.getD 0 0).toNat (l.getD 1 0).toNat (l.getD 2 0).toNat (l.getD 3 0).toNat = (65533, 1)) : runeV l = (0, 0) := by
  unfold runeV
  rw [decodeL_N, h, if_pos ⟨rfl, rfl⟩]
theorem runeV_none (l : List UInt8) (h0 : ¬ (l.getD 0 0).toNat < 128) (h1 : ¬ (194 ≤ (l.getD 0 0).toNat ∧ (l.getD 0 0).toNat < 245)) : runeV l = (0, 0) := by
  apply runeV_bad
  have k0 := (l.getD 0 0).toNat_lt
  have k1 := (l.getD 1 0).toNat_lt
  have k2 := (l.getD 2 0).toNat_lt
  have k3 := (l.getD 3 0).toNat_lt
  rcases decodeN_shape l.length (l.getD 0 0).toNat (l.getD 1 0).toNat (l.getD 2 0).toNat (l.getD 3 0).toNat with ⟨c, e⟩ | ⟨c1, c2, c3, cv, e⟩ | ⟨c1, c2, c3, c4, cv, cs, e⟩ | ⟨c1, c2, c3, c4, c5, cv, cw, e⟩ | e
  all_goals first | exact e | (exfalso; omega)
theorem runeV_short (l : List UInt8) {n least x : Nat} (hl : lead (l.getD 0 0).toNat n least x) (h : l.length < n) : runeV l = (0, 0) := by
  apply runeV_bad
  unfold lead at hl
  rcases decodeN_shape l.length (l.getD 0 0).toNat (l.getD 1 0).toNat (l.getD 2 0).toNat (l.getD 3 0).toNat with ⟨c, e⟩ | ⟨c1, c2, c3, cv, e⟩ | ⟨c1, c2, c3, c4, cv, cs, e⟩ | ⟨c1, c2, c3, c4, c5, cv, cw, e⟩ | e
  all_goals first | exact e | (exfalso; omega)
theorem runeV_cont (l : List UInt8) {n least x : Nat} (hl : lead (l.getD 0 0).toNat n least x) (k : Nat) (hk : 1 ≤ k) (hkn : k < n) (h : ¬ (128 ≤ (l.getD k 0).toNat ∧ (l.getD k 0).toNat < 192)) : runeV l = (0, 0) := by
  apply runeV_bad
  unfold lead at hl
  have h3 : k = 1 ∨ k = 2 ∨ k = 3 := by omega
  rcases decodeN_shape l.length (l.getD 0 0).toNat (l.getD 1 0).toNat (l.getD 2 0).toNat (l.getD 3 0).toNat with ⟨c, e⟩ | ⟨c1, c2, c3, cv, e⟩ | ⟨c1, c2, c3, c4, cv, cs, e⟩ | ⟨c1, c2, c3, c4, c5, cv, cw, e⟩ | e
  all_goals rcases h3 with rfl | rfl | rfl
  all_goals first | exact e | (exfalso; omega)
set_option maxRecDepth 100000 in
/-- All bytes are as they should: what they are worth. -/
theorem runeV_end (l : List UInt8) {n least x : Nat} (hl : lead (l.getD 0 0).toNat n least x) (hn : n ≤ l.length) (h : ∀ k, 1 ≤ k → k < n → 128 ≤ (l.getD k 0).toNat ∧ (l.getD k 0).toNat < 192) :
    ((valX l x (n - 1) < least ∨ 1114111 < valX l x (n - 1) ∨ (55296 ≤ valX l x (n - 1) ∧ valX l x (n - 1) < 57344)) → runeV l = (0, 0)) ∧
    (¬ (valX l x (n - 1) < least ∨ 1114111 < valX l x (n - 1) ∨ (55296 ≤ valX l x (n - 1) ∧ valX l x (n - 1) < 57344)) → runeV l = (valX l x (n - 1), n)) := by
  unfold lead at hl
  rcases hl with ⟨a1, a2, rfl, rfl, rfl⟩ | ⟨a1, a2, rfl, rfl, rfl⟩ | ⟨a1, a2, rfl, rfl, rfl⟩
  · have b1 := h 1 (by omega) (by omega)
    have e : valX l ((l.getD 0 0).toNat - 192) 1 = (l.getD 0 0).toNat % 32 * 64 + (l.getD 1 0).toNat % 64 := by
      show 64 * ((l.getD 0 0).toNat - 192) + (l.getD 1 0).toNat - 128 = _
      omega
    have e2 : decodeN l.length (l.getD 0 0).toNat (l.getD 1 0).toNat (l.getD 2 0).toNat (l.getD 3 0).toNat = ((l.getD 0 0).toNat % 32 * 64 + (l.getD 1 0).toNat % 64, 2) := by
      unfold decodeN
      rw [if_neg (by omega), if_pos (by omega), if_pos (by omega)]
    rw [show 2 - 1 = 1 from rfl, e]
    refine ⟨fun g => by exfalso; omega, fun g => runeV_of e2 (by omega)⟩
  · have b1 := h 1 (by omega) (by omega)
    have b2 := h 2 (by omega) (by omega)
    have e : valX l ((l.getD 0 0).toNat - 224) 2 = (l.getD 0 0).toNat % 16 * 4096 + (l.getD 1 0).toNat % 64 * 64 + (l.getD 2 0).toNat % 64 := by
      show 64 * (64 * ((l.getD 0 0).toNat - 224) + (l.getD 1 0).toNat - 128) + (l.getD 2 0).toNat - 128 = _
      omega
    rw [show 3 - 1 = 2 from rfl, e]
    refine ⟨fun g => runeV_bad ?_, fun g => runeV_of ?_ (by omega)⟩
    · unfold decodeN
      rw [if_neg (by omega), if_neg (by omega), if_pos (by omega), if_neg (by omega)]
    · unfold decodeN
      rw [if_neg (by omega), if_neg (by omega), if_pos (by omega), if_pos (by omega)]
  · have b1 := h 1 (by omega) (by omega)
    have b2 := h 2 (by omega) (by omega)
    have b3 := h 3 (by omega) (by omega)
    have e : valX l ((l.getD 0 0).toNat - 240) 3 = (l.getD 0 0).toNat % 8 * 262144 + (l.getD 1 0).toNat % 64 * 4096 + (l.getD 2 0).toNat % 64 * 64 + (l.getD 3 0).toNat % 64 := by
      show 64 * (64 * (64 * ((l.getD 0 0).toNat - 240) + (l.getD 1 0).toNat - 128) + (l.getD 2 0).toNat - 128) + (l.getD 3 0).toNat - 128 = _
      omega
    rw [show 4 - 1 = 3 from rfl, e]
    refine ⟨fun g => runeV_bad ?_, fun g => runeV_of ?_ (by omega)⟩
    · unfold decodeN
      rw [if_neg (by omega), if_neg (by omega), if_neg (by omega), if_pos (by omega), if_neg (by omega)]
    · unfold decodeN
      rw [if_neg (by omega), if_neg (by omega), if_neg (by omega), if_pos (by omega), if_pos (by omega)]
theorem valX_lt (l : List UInt8) {n least x : Nat} (hl : lead (l.getD 0 0).toNat n least x) : ∀ k, k < n → valX l x k < 33554432
  | 0, _ => by
    unfold lead at hl
    show x < 33554432
    omega
  | 1, _ => by
    have k1 := (l.getD 1 0).toNat_lt
    unfold lead at hl
    show 64 * x + (l.getD 1 0).toNat - 128 < 33554432
    omega
  | 2, _ => by
    have k1 := (l.getD 1 0).toNat_lt
    have k2 := (l.getD 2 0).toNat_lt
    unfold lead at hl
    show 64 * (64 * x + (l.getD 1 0).toNat - 128) + (l.getD 2 0).toNat - 128 < 33554432
    omega
  | 3, _ => by
    have k1 := (l.getD 1 0).toNat_lt
    have k2 := (l.getD 2 0).toNat_lt
    have k3 := (l.getD 3 0).toNat_lt
    unfold lead at hl
    show 64 * (64 * (64 * x + (l.getD 1 0).toNat - 128) + (l.getD 2 0).toNat - 128) + (l.getD 3 0).toNat - 128 < 33554432
    omega
  | k + 4, h => by unfold lead at hl; omega

theorem runeV_width (l : List UInt8) : ((runeV l).2 = 0 ∧ ¬ good l ∧ (runeV l).1 = 0 ∧ (decodeL l).2 = 1) ∨ (1 ≤ (runeV l).2 ∧ good l ∧ runeV l = decodeL l) := by
  unfold runeV good
  have hw := decodeL_width l
  by_cases h : (decodeL l).1 = 65533 ∧ (decodeL l).2 = 1
  · rw [if_pos h]; exact .inl ⟨rfl, fun g => g h, rfl, h.2⟩
  · rw [if_neg h]; exact .inr ⟨hw, h, rfl⟩
/-- So many bytes has what stands first, be it a rune or not. -/
theorem runeV_max (l : List UInt8) : max (runeV l).2 1 = (decodeL l).2 := by
  rcases runeV_width l with ⟨h1, _, _, h2⟩ | ⟨h1, _, h2⟩
  · rw [h1, h2]; rfl
  · rw [← h2]; omega

/-! ### quoted byte by byte -/
def escB (c : UInt8) : List UInt8 := if esc c.toNat = [] then [c] else esc c.toNat
theorem escB_high (c : UInt8) (h : 128 ≤ c.toNat) : escB c = [c] := by
  unfold escB
  by_cases g : esc c.toNat = []
  · rw [if_pos g]
  · have := esc_small g; omega
theorem flat_high : ∀ (l : List UInt8), (∀ c ∈ l, 128 ≤ c.toNat) → l.flatMap escB = l
  | [], _ => rfl
  | c :: t, h => by
    rw [List.flatMap_cons, escB_high c (h c (by simp)), flat_high t (fun x hx => h x (by simp [hx]))]
    rfl
theorem quo_flat (l : List UInt8) (h : validD l = true) : quo l = l.flatMap escB := by
  revert h
  refine runes (P := fun l => validD l = true → quo l = l.flatMap escB) (fun _ => rfl) ?_ l
  intro l hne ih h
  obtain ⟨hg, hr⟩ := valid_good l hne h
  have hp := piece l hne hg
  have e : l = encodeRune ((decodeL l).1 : Int) ++ l.drop (decodeL l).2 := by rw [hp, List.take_append_drop]
  rw [quo_step l hne, ih hr]
  refine Eq.trans ?_ (congrArg (List.flatMap escB) e).symm
  rw [List.flatMap_append]
  congr 1
  unfold sign
  by_cases g : (decodeL l).1 < 128
  · rw [enc_low _ g]
    have hb : (UInt8.ofNat (decodeL l).1).toNat = (decodeL l).1 := by simp; omega
    rw [List.flatMap_cons, List.flatMap_nil, List.append_nil]
    unfold escB
    rw [hb, ← hp, enc_low _ g]
  · have hx : esc (decodeL l).1 = [] := by
      by_cases g2 : esc (decodeL l).1 = []
      · exact g2
      · exact absurd (esc_small g2) g
    rw [if_pos hx, ← hp, flat_high _ (enc_high _ (by omega) (decode_sc l))]
end Qm
end Go.Proofs.YtnagecbepidfiaaGreatDoor
