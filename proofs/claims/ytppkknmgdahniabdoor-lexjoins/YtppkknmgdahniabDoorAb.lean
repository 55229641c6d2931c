/- What is proved here: plain facts on names, rows of names, and masks; conditions: none. It imports nothing of any program. What is proved here: plain facts on the runes of texts, on how texts are quoted, and read again; conditions: none. It imports nothing of any program but plain facts. What is proved here: plain facts on how quoted texts are read, and that what was quoted is read as it was; conditions: none. It imports nothing of any program but plain facts. What is proved here: plain facts on quoted texts that stand together, on their bytes and their length; conditions: none. It imports nothing of any program but plain facts. What is proved here: plain facts on cuts of texts, on what is read, and on quoted texts one behind the other; conditions: none. It imports nothing of any program but plain facts. What is proved here: plain facts on what stands between two runes that are read: what is read so far, what is held of it, and what is left; conditions: none. It imports nothing of any program but plain facts. What is proved here: plain facts on how the document's own answer reads a rune, byte by byte, and quotes a text; conditions: none. It imports nothing of any program but plain facts. -/
import Derived.PlainAid
import Derived.Lib.MapLaws
import Derived.Lib.ValidLaws
import Derived.Lib.TrimAscii
namespace Go.Proofs.YtppkknmgdahniabDoor.Cm
set_option maxRecDepth 100000
set_option linter.unusedVariables false

abbrev Tx := List UInt8
def letB (c : UInt8) : Bool := decide (97 ≤ c.toNat) && decide (c.toNat ≤ 122)
def inB (c : UInt8) : Bool := letB c || (decide (48 ≤ c.toNat) && decide (c.toNat ≤ 57)) || decide (c.toNat = 95)
/-- Whether a text may be a name. -/
def nameB (l : Tx) : Bool := decide (1 ≤ l.length) && decide (l.length ≤ 24) && letB (l.getD 0 0) && l.all inB
/-- The bit of the category at a place; none behind the 64th. -/
def bitN (i : Nat) : Nat := if i < 64 then 2 ^ i else 0
/-- Whether a row of categories may be. -/
def mayE (L : List Tx) : Nat := if 64 < L.length then 3 else if L.all nameB && decide L.Nodup then 0 else 20
/-- The place of a name. -/
def idx (L : List Tx) (x : Tx) : Option Nat := L.findIdx? (fun y => y == x)
/-- The texts between blanks: what is read so far, what is left. -/
def spl : Tx → Tx → List Tx
  | cur, [] => if cur = [] then [] else [cur]
  | cur, c :: r => if c = 32 then (if cur = [] then spl [] r else cur :: spl [] r) else spl (cur ++ [c]) r
def words (l : Tx) : List Tx := spl [] l
/-- The mask of a row of names, and the error. -/
def maskF (L : List Tx) : Nat → List Tx → Nat × Nat
  | m, [] => (m, 0)
  | m, x :: r => match idx L x with
    | none => (0, 20)
    | some k => maskF L (m ||| 2 ^ k) r
/-- The names of a mask, of the first k categories. -/
def selK (L : List Tx) (m k : Nat) : List Tx := ((List.range k).filter fun i => m.testBit i).map fun i => L.getD i []
/-- Texts, a blank ahead of each. -/
def flatB (ws : List Tx) : Tx := (ws.map fun x => 32 :: x).flatten
/-- Texts, a blank between two. -/
def joinB (ws : List Tx) : Tx := (flatB ws).drop 1
/-- Whether each bit of a is one of b. -/
def subB (a b : Nat) : Bool := (a &&& b) == a
theorem subB_iff {a b : Nat} (ha : a < 18446744073709551616) (hb : b < 18446744073709551616) : subB a b = true ↔ a &&& (18446744073709551615 - b) = 0 := by
  unfold subB
  rw [beq_iff_eq]
  have h2 : ∀ i, (18446744073709551615 - b).testBit i = (decide (i < 64) && !b.testBit i) := by
    intro i
    have := Nat.testBit_two_pow_sub_succ (n := 64) (x := b) hb i
    rw [← this]
    congr 1
    omega
  have h3 : ∀ i, a.testBit i = true → i < 64 := by
    intro i hi
    rcases Nat.lt_or_ge i 64 with g | g
    · exact g
    · rw [Nat.testBit_lt_two_pow (Nat.lt_of_lt_of_le (show a < 2 ^ 64 from ha) (Nat.pow_le_pow_right (n := 2) (by omega) g))] at hi
      cases hi
  constructor
  · intro h
    apply Nat.eq_of_testBit_eq
    intro i
    have := congrArg (fun x => x.testBit i) h
    simp only [Nat.testBit_and, h2, Nat.zero_testBit] at this ⊢
    cases ha : a.testBit i <;> cases hb : b.testBit i <;> simp_all
  · intro h
    apply Nat.eq_of_testBit_eq
    intro i
    have := congrArg (fun x => x.testBit i) h
    simp only [Nat.testBit_and, h2, Nat.zero_testBit] at this ⊢
    cases ha : a.testBit i
    · simp
    · have := h3 i ha
      cases hb : b.testBit i <;> simp_all
end Go.Proofs.YtppkknmgdahniabDoor.Cm

set_option linter.unusedSimpArgs false
set_option linter.unusedVariables false
namespace Go.Proofs.YtppkknmgdahniabDoor
set_option maxRecDepth 100000
namespace Qm
open Go.Lib

/-! ### runes -/
/-- What stands first is UTF-8. -/
def good (l : List UInt8) : Prop := ¬ ((decodeL l).1 = 65533 ∧ (decodeL l).2 = 1)
/-- A rune that has a form in UTF-8. -/
def Sc (r : Nat) : Prop := r ≤ 1114111 ∧ ¬ (55296 ≤ r ∧ r ≤ 57343)

theorem byteN (z : Int) (h0 : 0 ≤ z) (h1 : z < 256) : (z.toNat.toUInt8).toNat = z.toNat := by
  simp [Nat.toUInt8]
  omega
set_option maxRecDepth 100000 in
set_option maxHeartbeats 4000000 in
theorem decode_encode (r : Nat) (hr : Sc r) (m : List UInt8) : decodeL (encodeRune (r : Int) ++ m) = (r, (encodeRune (r : Int)).length) := by
  obtain ⟨h1, h2⟩ := hr
  unfold encodeRune
  by_cases a : r ≤ 127
  · rw [encodeRuneZ_one (by omega) (by omega)]
    simp only [List.map_cons, List.map_nil, List.cons_append, List.nil_append]
    rw [decodeL_ascii _ _ (by rw [byteN _ (by omega) (by omega)]; omega), byteN _ (by omega) (by omega)]
    simp
  by_cases b : r ≤ 2047
  · rw [encodeRuneZ_two (by omega) (by omega), decodeL_N]
    simp only [List.map_cons, List.map_nil, List.cons_append, List.nil_append, List.getD_cons_zero, List.getD_cons_succ, List.length_cons, List.length_nil]
    rw [byteN _ (by omega) (by omega), byteN _ (by omega) (by omega)]
    unfold decodeN
    repeat' split
    all_goals first | (exfalso; omega) | (apply Prod.ext <;> simp only <;> omega)
  by_cases c : r ≤ 65535
  · rw [encodeRuneZ_three (by omega), decodeL_N]
    simp only [List.map_cons, List.map_nil, List.cons_append, List.nil_append, List.getD_cons_zero, List.getD_cons_succ, List.length_cons, List.length_nil]
    rw [byteN _ (by omega) (by omega), byteN _ (by omega) (by omega), byteN _ (by omega) (by omega)]
    unfold decodeN
    repeat' split
    all_goals first | (exfalso; omega) | (apply Prod.ext <;> simp only <;> omega)
  · rw [encodeRuneZ_four (by omega) (by omega), decodeL_N]
    simp only [List.map_cons, List.map_nil, List.cons_append, List.nil_append, List.getD_cons_zero, List.getD_cons_succ, List.length_cons, List.length_nil]
    rw [byteN _ (by omega) (by omega), byteN _ (by omega) (by omega), byteN _ (by omega) (by omega), byteN _ (by omega) (by omega)]
    unfold decodeN
    repeat' split
    all_goals first | (exfalso; omega) | (apply Prod.ext <;> simp only <;> omega)

theorem decode_sc (l : List UInt8) : Sc (decodeL l).1 := by
  rw [decodeL_N]
  have k0 := (l.getD 0 0).toNat_lt
  unfold Sc
  rcases decodeN_shape l.length (l.getD 0 0).toNat (l.getD 1 0).toNat (l.getD 2 0).toNat (l.getD 3 0).toNat with ⟨c, e⟩ | ⟨c1, c2, c3, cv, e⟩ | ⟨c1, c2, c3, c4, cv, cs, e⟩ | ⟨c1, c2, c3, c4, c5, cv, cw, e⟩ | e
  all_goals (rw [e]; dsimp only; omega)
theorem width_le4 (l : List UInt8) : (decodeL l).2 ≤ 4 := by
  rw [decodeL_N]
  rcases decodeN_shape l.length (l.getD 0 0).toNat (l.getD 1 0).toNat (l.getD 2 0).toNat (l.getD 3 0).toNat with ⟨c, e⟩ | ⟨c1, c2, c3, cv, e⟩ | ⟨c1, c2, c3, c4, cv, cs, e⟩ | ⟨c1, c2, c3, c4, c5, cv, cw, e⟩ | e
  all_goals (rw [e]; dsimp only; omega)
theorem piece (l : List UInt8) (hne : l ≠ []) (hv : good l) : encodeRune ((decodeL l).1 : Int) = l.take (decodeL l).2 := encode_decode l hne hv
theorem piece_len (l : List UInt8) (hne : l ≠ []) : (l.take (decodeL l).2).length = (decodeL l).2 := by
  have := decodeL_le l hne
  rw [List.length_take]; omega
/-- What stands first is read alike whatever stands behind it. -/
theorem decode_more (l m : List UInt8) (hne : l ≠ []) (hv : good l) : decodeL (l.take (decodeL l).2 ++ m) = decodeL l := by
  rw [← piece l hne hv, decode_encode _ (decode_sc l), piece l hne hv, piece_len l hne]
theorem enc_len (r : Int) : 1 ≤ (encodeRune r).length ∧ (encodeRune r).length ≤ 4 := by
  have := encodeRuneZ_length r
  simpa [encodeRune] using this
theorem enc_ne (r : Int) : encodeRune r ≠ [] := by
  intro h
  have := enc_len r
  rw [h] at this
  simp at this
theorem good_enc (r : Nat) (hr : Sc r) (m : List UInt8) : good (encodeRune (r : Int) ++ m) := by
  unfold good
  rw [decode_encode r hr]
  dsimp only
  intro h
  obtain ⟨rfl, h2⟩ := h
  revert h2
  decide
theorem good_more (l m : List UInt8) (hne : l ≠ []) (hv : good l) : good (l.take (decodeL l).2 ++ m) := by
  unfold good
  rw [decode_more l m hne hv]
  exact hv
theorem take_ne (l : List UInt8) (hne : l ≠ []) : l.take (decodeL l).2 ≠ [] := by
  intro h
  have h1 := congrArg List.length h
  have h2 := decodeL_width l
  rw [piece_len l hne] at h1
  simp at h1
  omega
theorem app_ne {a b : List UInt8} (h : a ≠ []) : a ++ b ≠ [] := by
  intro e
  exact h (List.append_eq_nil_iff.1 e).1

theorem ind {P : List UInt8 → Prop} (h0 : P []) (h1 : ∀ l, l ≠ [] → P (l.drop (decodeL l).2) → P l) : ∀ (n : Nat) (l : List UInt8), l.length ≤ n → P l
  | 0, l, h => by
    have : l = [] := List.eq_nil_of_length_eq_zero (by omega)
    subst this; exact h0
  | n + 1, l, h => by
    by_cases hne : l = []
    · subst hne; exact h0
    · have hw := decodeL_width l
      have hl : 0 < l.length := List.length_pos_iff.2 hne
      exact h1 l hne (ind h0 h1 n _ (by rw [List.length_drop]; omega))
/-- Rune by rune. -/
theorem runes {P : List UInt8 → Prop} (h0 : P []) (h1 : ∀ l, l ≠ [] → P (l.drop (decodeL l).2) → P l) (l : List UInt8) : P l := ind h0 h1 l.length l (Nat.le_refl _)

theorem valid_good (l : List UInt8) (hne : l ≠ []) (h : validD l = true) : good l ∧ validD (l.drop (decodeL l).2) = true := by
  rw [validD_step l hne] at h
  by_cases g : (decodeL l).1 = 65533 ∧ (decodeL l).2 = 1
  · rw [if_pos g] at h; cases h
  · rw [if_neg g] at h; exact ⟨g, h⟩
theorem valid_of (l : List UInt8) (hne : l ≠ []) (hg : good l) (h : validD (l.drop (decodeL l).2) = true) : validD l = true := by
  rw [validD_step l hne, if_neg hg]; exact h
theorem drop_more (l m : List UInt8) (hne : l ≠ []) (hv : good l) : (l.take (decodeL l).2 ++ m).drop (decodeL (l.take (decodeL l).2 ++ m)).2 = m := by
  rw [decode_more l m hne hv, List.drop_left' (piece_len l hne)]
theorem valid_more (l m : List UInt8) (hne : l ≠ []) (hv : good l) : validD (l.take (decodeL l).2 ++ m) = validD m := by
  rw [validD_step _ (app_ne (take_ne l hne)), if_neg (good_more l m hne hv), drop_more l m hne hv]
theorem valid_enc (r : Nat) (hr : Sc r) (m : List UInt8) : validD (encodeRune (r : Int) ++ m) = validD m := by
  rw [validD_step _ (app_ne (enc_ne _)), if_neg (good_enc r hr m), decode_encode r hr, List.drop_left' rfl]

/-! ### the pieces of a text: the bytes of each rune -/
def pcs : Nat → List UInt8 → List (List UInt8)
  | 0, _ => []
  | n + 1, l => if l = [] then [] else l.take (decodeL l).2 :: pcs n (l.drop (decodeL l).2)
def pc (l : List UInt8) : List (List UInt8) := pcs l.length l
theorem pcs_nil : ∀ n, pcs n [] = []
  | 0 => rfl
  | _ + 1 => by simp [pcs]
theorem pcs_fuel : ∀ (n m : Nat) (l : List UInt8), l.length ≤ n → l.length ≤ m → pcs n l = pcs m l
  | 0, m, l, hn, _ => by
    have : l = [] := List.eq_nil_of_length_eq_zero (by omega)
    subst this; rw [pcs_nil, pcs_nil]
  | n + 1, 0, l, _, hm => by
    have : l = [] := List.eq_nil_of_length_eq_zero (by omega)
    subst this; rw [pcs_nil, pcs_nil]
  | n + 1, m + 1, l, hn, hm => by
    by_cases hne : l = []
    · subst hne; rw [pcs_nil, pcs_nil]
    · have hw := decodeL_width l
      have hl : 0 < l.length := List.length_pos_iff.2 hne
      simp only [pcs, if_neg hne]
      rw [pcs_fuel n m _ (by rw [List.length_drop]; omega) (by rw [List.length_drop]; omega)]
theorem pc_nil : pc [] = [] := rfl
theorem pc_step (l : List UInt8) (hne : l ≠ []) : pc l = l.take (decodeL l).2 :: pc (l.drop (decodeL l).2) := by
  have hw := decodeL_width l
  have hl : 0 < l.length := List.length_pos_iff.2 hne
  unfold pc
  obtain ⟨n, hn⟩ : ∃ n, l.length = n + 1 := ⟨l.length - 1, by omega⟩
  rw [hn]
  simp only [pcs, if_neg hne]
  rw [pcs_fuel n _ _ (by rw [List.length_drop]; omega) (Nat.le_refl _)]
theorem pc_join (l : List UInt8) : (pc l).flatten = l := by
  refine runes (P := fun l => (pc l).flatten = l) rfl ?_ l
  intro l hne ih
  show (pc l).flatten = l
  rw [pc_step l hne, List.flatten_cons, ih, List.take_append_drop]
theorem pc_le (l : List UInt8) : (pc l).length ≤ l.length ∧ l.length ≤ 4 * (pc l).length := by
  refine runes (P := fun l => (pc l).length ≤ l.length ∧ l.length ≤ 4 * (pc l).length) ⟨by simp [pc_nil], by simp⟩ ?_ l
  intro l hne ih
  show (pc l).length ≤ l.length ∧ l.length ≤ 4 * (pc l).length
  have h1 := decodeL_width l
  have h2 := width_le4 l
  have h3 := decodeL_le l hne
  rw [List.length_drop] at ih
  rw [pc_step l hne, List.length_cons]
  omega
theorem pc_more (l m : List UInt8) (hne : l ≠ []) (hv : good l) : pc (l.take (decodeL l).2 ++ m) = l.take (decodeL l).2 :: pc m := by
  rw [pc_step _ (app_ne (take_ne l hne)), drop_more l m hne hv, decode_more l m hne hv, List.take_left' (piece_len l hne)]
theorem pc_app (l m : List UInt8) (h : validD l = true) : pc (l ++ m) = pc l ++ pc m := by
  revert h
  refine runes (P := fun l => validD l = true → pc (l ++ m) = pc l ++ pc m) (fun _ => by simp [pc_nil]) ?_ l
  intro l hne ih h
  obtain ⟨hg, hr⟩ := valid_good l hne h
  have e : l ++ m = l.take (decodeL l).2 ++ (l.drop (decodeL l).2 ++ m) := by rw [← List.append_assoc, List.take_append_drop]
  rw [e, pc_more l _ hne hg, ih hr, pc_step l hne, List.cons_append]
/-- The first k runes, by themselves. -/
theorem pc_take (l : List UInt8) (h : validD l = true) (k : Nat) : pc ((pc l).take k).flatten = (pc l).take k ∧ validD ((pc l).take k).flatten = true := by
  revert h k
  refine runes (P := fun l => validD l = true → ∀ k, pc ((pc l).take k).flatten = (pc l).take k ∧ validD ((pc l).take k).flatten = true) (fun _ k => by simp [pc_nil, validD_nil]) ?_ l
  intro l hne ih h k
  obtain ⟨hg, hr⟩ := valid_good l hne h
  cases k with
  | zero => simp [pc_nil, validD_nil]
  | succ k =>
    obtain ⟨i1, i2⟩ := ih hr k
    rw [pc_step l hne, List.take_succ_cons, List.flatten_cons]
    exact ⟨by rw [pc_more l _ hne hg, i1], by rw [valid_more l _ hne hg, i2]⟩
/-- What stands behind the first k runes, by itself. -/
theorem pc_drop (l : List UInt8) (k : Nat) : pc ((pc l).drop k).flatten = (pc l).drop k ∧ (validD l = true → validD ((pc l).drop k).flatten = true) := by
  revert k
  refine runes (P := fun l => ∀ k, pc ((pc l).drop k).flatten = (pc l).drop k ∧ (validD l = true → validD ((pc l).drop k).flatten = true)) (fun k => by simp [pc_nil, validD_nil]) ?_ l
  intro l hne ih k
  cases k with
  | zero => rw [List.drop_zero, pc_join]; exact ⟨rfl, id⟩
  | succ k =>
    obtain ⟨i1, i2⟩ := ih k
    rw [pc_step l hne, List.drop_succ_cons]
    exact ⟨i1, fun h => i2 (valid_good l hne h).2⟩

/-- Where the rune at a place begins. -/
def posn (l : List UInt8) (k : Nat) : Nat := ((pc l).take k).flatten.length
theorem posn_nil (k : Nat) : posn [] k = 0 := by simp [posn, pc_nil]
theorem posn_zero (l : List UInt8) : posn l 0 = 0 := by simp [posn]
theorem posn_step (l : List UInt8) (hne : l ≠ []) (k : Nat) : posn l (k + 1) = (decodeL l).2 + posn (l.drop (decodeL l).2) k := by
  unfold posn
  rw [pc_step l hne, List.take_succ_cons, List.flatten_cons, List.length_append, piece_len l hne]
theorem take_posn (l : List UInt8) (k : Nat) : l.take (posn l k) = ((pc l).take k).flatten := by
  have h : ((pc l).take k).flatten ++ ((pc l).drop k).flatten = l := by
    rw [← List.flatten_append, List.take_append_drop, pc_join]
  unfold posn
  exact (congrArg (List.take _) h.symm).trans (List.take_left' rfl)
theorem drop_posn (l : List UInt8) (k : Nat) : l.drop (posn l k) = ((pc l).drop k).flatten := by
  have h : ((pc l).take k).flatten ++ ((pc l).drop k).flatten = l := by
    rw [← List.flatten_append, List.take_append_drop, pc_join]
  unfold posn
  exact (congrArg (List.drop _) h.symm).trans (List.drop_left' rfl)
theorem posn_le (l : List UInt8) (k : Nat) : posn l k ≤ l.length := by
  have h := congrArg List.length (pc_join l)
  have h2 : ((pc l).take k).flatten.length + ((pc l).drop k).flatten.length = (pc l).flatten.length := by
    rw [← List.length_append, ← List.flatten_append, List.take_append_drop]
  unfold posn
  omega
theorem posn_mono (l : List UInt8) {a b : Nat} (h : a ≤ b) : posn l a ≤ posn l b := by
  obtain ⟨d, rfl⟩ := Nat.exists_eq_add_of_le h
  unfold posn
  rw [List.take_add, List.flatten_append, List.length_append]
  omega
/-- The runes from one place on, up to another. -/
def cut (l : List UInt8) (a b : Nat) : List UInt8 := (l.drop (posn l a)).take (posn l b - posn l a)
theorem cut_eq (l : List UInt8) {a b : Nat} (h : a ≤ b) : cut l a b = (((pc l).take b).drop a).flatten := by
  obtain ⟨d, rfl⟩ := Nat.exists_eq_add_of_le h
  have h1 : posn l (a + d) - posn l a = (((pc l).drop a).take d).flatten.length := by
    unfold posn
    rw [List.take_add, List.flatten_append, List.length_append]
    omega
  have h2 : ((pc l).drop a).flatten = (((pc l).drop a).take d).flatten ++ (((pc l).drop a).drop d).flatten := by
    rw [← List.flatten_append, List.take_append_drop]
  unfold cut
  rw [drop_posn, h1, h2, List.take_left' rfl, List.drop_take, Nat.add_sub_cancel_left]

/-! ### quotes -/
def hexd (n : Nat) : UInt8 := if n < 10 then UInt8.ofNat (48 + n) else UInt8.ofNat (87 + n)
/-- How a rune is written behind a backslash; empty: as itself. -/
def esc (r : Nat) : List UInt8 :=
  if r = 34 then [92, 34] else if r = 92 then [92, 92] else if r = 10 then [92, 110] else if r = 13 then [92, 114] else if r = 9 then [92, 116]
  else if r < 32 ∨ r = 127 then [92, 117, 48, 48, hexd (r / 16), hexd (r % 16)] else []
theorem esc_small {r : Nat} (h : esc r ≠ []) : r < 128 := by
  by_cases g : r < 128
  · exact g
  · exact absurd (by unfold esc; repeat' split
                     all_goals first | rfl | omega) h
theorem esc_none {r : Nat} (h : esc r = []) : 32 ≤ r ∧ r ≠ 34 ∧ r ≠ 92 ∧ r ≠ 127 := by
  unfold esc at h
  repeat' split at h
  all_goals first | (cases h; done) | omega
/-- A rune, quoted. -/
def sign (l : List UInt8) : List UInt8 := if esc (decodeL l).1 = [] then l.take (decodeL l).2 else esc (decodeL l).1
def quos : Nat → List UInt8 → List UInt8
  | 0, _ => []
  | n + 1, l => if l = [] then [] else sign l ++ quos n (l.drop (decodeL l).2)
/-- A text, quoted, without the quotes. -/
def quo (l : List UInt8) : List UInt8 := quos l.length l
theorem quos_nil : ∀ n, quos n [] = []
  | 0 => rfl
  | _ + 1 => by simp [quos]
theorem quos_fuel : ∀ (n m : Nat) (l : List UInt8), l.length ≤ n → l.length ≤ m → quos n l = quos m l
  | 0, m, l, hn, _ => by
    have : l = [] := List.eq_nil_of_length_eq_zero (by omega)
    subst this; rw [quos_nil, quos_nil]
  | n + 1, 0, l, _, hm => by
    have : l = [] := List.eq_nil_of_length_eq_zero (by omega)
    subst this; rw [quos_nil, quos_nil]
  | n + 1, m + 1, l, hn, hm => by
    by_cases hne : l = []
    · subst hne; rw [quos_nil, quos_nil]
    · have hw := decodeL_width l
      have hl : 0 < l.length := List.length_pos_iff.2 hne
      simp only [quos, if_neg hne]
      rw [quos_fuel n m _ (by rw [List.length_drop]; omega) (by rw [List.length_drop]; omega)]
theorem quo_nil : quo [] = [] := rfl
theorem quo_step (l : List UInt8) (hne : l ≠ []) : quo l = sign l ++ quo (l.drop (decodeL l).2) := by
  have hw := decodeL_width l
  have hl : 0 < l.length := List.length_pos_iff.2 hne
  unfold quo
  obtain ⟨n, hn⟩ : ∃ n, l.length = n + 1 := ⟨l.length - 1, by omega⟩
  rw [hn]
  simp only [quos, if_neg hne]
  rw [quos_fuel n _ _ (by rw [List.length_drop]; omega) (Nat.le_refl _)]
def quoteL (l : List UInt8) : List UInt8 := 34 :: (quo l ++ [34])
end Qm
end Go.Proofs.YtppkknmgdahniabDoor

set_option linter.unusedSimpArgs false
set_option linter.unusedVariables false
namespace Go.Proofs.YtppkknmgdahniabDoor
set_option maxRecDepth 100000
namespace Qm
open Go.Lib

/-! ### reading -/
/-- The worth of a hexadecimal digit. -/
def worth (c : Nat) : Option Nat := if 48 ≤ c ∧ c ≤ 57 then some (c - 48) else if 97 ≤ c ∧ c ≤ 102 then some (c - 87) else if 65 ≤ c ∧ c ≤ 70 then some (c - 55) else none
def digs : List UInt8 → Nat → Option Nat
  | [], n => some n
  | c :: t, n => match worth c.toNat with | none => none | some v => digs t (16 * n + v)
/-- A backslash, u, and four digits. -/
def unitL (l : List UInt8) : Option Nat := if 6 ≤ l.length ∧ l.getD 0 0 = 92 ∧ l.getD 1 0 = 117 then digs ((l.drop 2).take 4) 0 else none
/-- .. or both halves of a rune. -/
def numL (l : List UInt8) : Option (Nat × Nat) :=
  match unitL l with
  | none => none
  | some a => if a < 55296 ∨ 57344 ≤ a then some (a, 6) else
    match unitL (l.drop 6) with
    | none => none
    | some b => if a < 56320 ∧ 56320 ≤ b ∧ b < 57344 then some (65536 + (a - 55296) * 1024 + (b - 56320), 12) else none
def escL (c : Nat) : Option Nat :=
  if c = 34 ∨ c = 92 ∨ c = 47 then some c else if c = 98 then some 8 else if c = 102 then some 12 else if c = 110 then some 10 else if c = 114 then some 13 else if c = 116 then some 9 else none
/-- The rune that is written first, and how many bytes are written for it. -/
def nextL (l : List UInt8) : Option (Nat × Nat) :=
  if l = [] then none
  else if l.getD 0 0 = 92 then
    (if l.length < 2 then none else match escL (l.getD 1 0).toNat with | some r => some (r, 2) | none => numL l)
  else if (decodeL l).1 < 32 ∨ ((decodeL l).1 = 65533 ∧ (decodeL l).2 ≤ 1) then none
  else some (decodeL l)

theorem worth_lt {c v : Nat} (h : worth c = some v) : v < 16 := by
  unfold worth at h
  repeat' split at h
  all_goals first | (cases h; done) | (cases h; omega)
theorem digs_lt : ∀ (l : List UInt8) (n v : Nat), digs l n = some v → v < (n + 1) * 16 ^ l.length
  | [], n, v, h => by simp [digs] at h; subst h; simp
  | c :: t, n, v, h => by
    unfold digs at h
    cases hw : worth c.toNat with
    | none => rw [hw] at h; cases h
    | some x =>
      rw [hw] at h
      have := digs_lt t _ v h
      have hx := worth_lt hw
      have h2 : (16 * n + x + 1) * 16 ^ t.length ≤ (16 * (n + 1)) * 16 ^ t.length := Nat.mul_le_mul_right _ (by omega)
      rw [List.length_cons, Nat.pow_succ, Nat.mul_comm (16 ^ t.length) 16, ← Nat.mul_assoc, Nat.mul_comm (n + 1) 16]
      omega
theorem unit_lt {l : List UInt8} {a : Nat} (h : unitL l = some a) : a < 65536 ∧ 6 ≤ l.length := by
  unfold unitL at h
  split at h
  · rename_i g
    have h1 := digs_lt _ _ _ h
    have h2 : ((l.drop 2).take 4).length = 4 := by rw [List.length_take, List.length_drop]; omega
    rw [h2] at h1
    exact ⟨by omega, g.1⟩
  · cases h
theorem num_ok {l : List UInt8} {r k : Nat} (h : numL l = some (r, k)) : 1 ≤ k ∧ k ≤ l.length ∧ Sc r := by
  unfold numL at h
  cases ha : unitL l with
  | none => rw [ha] at h; cases h
  | some a =>
    rw [ha] at h
    dsimp only at h
    obtain ⟨u1, u2⟩ := unit_lt ha
    split at h
    · rename_i g
      have e1 := congrArg Prod.fst (Option.some.inj h)
      have e2 := congrArg Prod.snd (Option.some.inj h)
      dsimp only at e1 e2
      exact ⟨by omega, by omega, by unfold Sc; omega⟩
    · cases hb : unitL (l.drop 6) with
      | none => rw [hb] at h; cases h
      | some b =>
        rw [hb] at h
        dsimp only at h
        obtain ⟨w1, w2⟩ := unit_lt hb
        rw [List.length_drop] at w2
        split at h
        · rename_i g
          have e1 := congrArg Prod.fst (Option.some.inj h)
          have e2 := congrArg Prod.snd (Option.some.inj h)
          dsimp only at e1 e2
          exact ⟨by omega, by omega, by unfold Sc; omega⟩
        · cases h
theorem esc_sc {c r : Nat} (h : escL c = some r) : Sc r ∧ r < 128 := by
  unfold escL at h
  repeat' split at h
  all_goals first | (cases h; done) | (have e := Option.some.inj h; unfold Sc; omega)
theorem next_ok {l : List UInt8} {r k : Nat} (h : nextL l = some (r, k)) : 1 ≤ k ∧ k ≤ l.length ∧ Sc r := by
  unfold nextL at h
  split at h
  · cases h
  · rename_i hne
    split at h
    · split at h
      · cases h
      · rename_i hl
        cases he : escL (l.getD 1 0).toNat with
        | some x =>
          rw [he] at h
          cases h
          exact ⟨by omega, by omega, (esc_sc he).1⟩
        | none => rw [he] at h; exact num_ok h
    · split at h
      · cases h
      · have e1 := congrArg Prod.fst (Option.some.inj h)
        have e2 := congrArg Prod.snd (Option.some.inj h)
        dsimp only at e1 e2
        subst e1; subst e2
        exact ⟨decodeL_width l, decodeL_le l hne, decode_sc l⟩

/-- The text that is read up to the quote, and how many bytes are written for it, with the quote. -/
def unqs : Nat → List UInt8 → Option (List UInt8 × Nat)
  | 0, _ => none
  | n + 1, l => if l.getD 0 0 = 34 then some ([], 1) else
    match nextL l with
    | none => none
    | some (r, k) => match unqs n (l.drop k) with | none => none | some (t, m) => some (encodeRune (r : Int) ++ t, k + m)
def unq (l : List UInt8) : Option (List UInt8 × Nat) := unqs l.length l
theorem next_nil : nextL [] = none := rfl
theorem unqs_nil : ∀ n, unqs n [] = none
  | 0 => rfl
  | _ + 1 => by simp [unqs, next_nil]
theorem unqs_fuel : ∀ (n m : Nat) (l : List UInt8), l.length ≤ n → l.length ≤ m → unqs n l = unqs m l
  | 0, m, l, hn, _ => by
    have : l = [] := List.eq_nil_of_length_eq_zero (by omega)
    subst this; rw [unqs_nil, unqs_nil]
  | n + 1, 0, l, _, hm => by
    have : l = [] := List.eq_nil_of_length_eq_zero (by omega)
    subst this; rw [unqs_nil, unqs_nil]
  | n + 1, m + 1, l, hn, hm => by
    unfold unqs
    cases hx : nextL l with
    | none => rfl
    | some p =>
      obtain ⟨r, k⟩ := p
      have := next_ok hx
      dsimp only
      rw [unqs_fuel n m _ (by rw [List.length_drop]; omega) (by rw [List.length_drop]; omega)]
theorem unq_nil : unq [] = none := rfl
theorem unq_end (l : List UInt8) (h : l.getD 0 0 = 34) : unq l = some ([], 1) := by
  cases l with
  | nil => simp at h
  | cons c t => unfold unq; simp only [List.length_cons, unqs]; rw [if_pos h]
theorem unq_none (l : List UInt8) (h : l.getD 0 0 ≠ 34) (hx : nextL l = none) : unq l = none := by
  cases l with
  | nil => rfl
  | cons c t => unfold unq; simp only [List.length_cons, unqs]; rw [if_neg h, hx]
theorem unq_step (l : List UInt8) (h : l.getD 0 0 ≠ 34) {r k : Nat} (hx : nextL l = some (r, k)) :
    unq l = match unq (l.drop k) with | none => none | some (t, m) => some (encodeRune (r : Int) ++ t, k + m) := by
  cases l with
  | nil => cases hx
  | cons c t =>
    have := next_ok hx
    unfold unq
    simp only [List.length_cons, unqs]
    rw [if_neg h, hx]
    dsimp only
    rw [unqs_fuel t.length _ _ (by rw [List.length_drop, List.length_cons] at *; omega) (Nat.le_refl _)]

/-- What Unquote tells of what stands behind the first quote: the text, how many bytes with both quotes, the error. -/
def unquoteL (l : List UInt8) : List UInt8 × Nat × Nat :=
  if l.getD 0 0 = 34 then
    match unq (l.drop 1) with
    | none => ([], 0, 6)
    | some (t, m) => if 4096 < t.length then ([], 0, 3) else (t, m + 1, 0)
  else ([], 0, 6)

/-- What is read is UTF-8, and is no longer than what it is read of. -/
theorem unq_valid : ∀ (n : Nat) (l : List UInt8), l.length ≤ n → ∀ t m, unq l = some (t, m) → validD t = true ∧ 1 ≤ m ∧ m ≤ l.length
  | 0, l, hn, t, m, h => by
    have : l = [] := List.eq_nil_of_length_eq_zero (by omega)
    subst this; cases h
  | n + 1, l, hn, t, m, h => by
    by_cases hq : l.getD 0 0 = 34
    · rw [unq_end l hq] at h
      cases h
      refine ⟨rfl, Nat.le_refl _, ?_⟩
      cases l with
      | nil => simp at hq
      | cons c u => simp
    · cases hx : nextL l with
      | none => rw [unq_none l hq hx] at h; cases h
      | some p =>
        obtain ⟨r, k⟩ := p
        obtain ⟨k1, k2, k3⟩ := next_ok hx
        rw [unq_step l hq hx] at h
        cases hu : unq (l.drop k) with
        | none => rw [hu] at h; cases h
        | some q =>
          obtain ⟨t', m'⟩ := q
          rw [hu] at h
          cases h
          obtain ⟨v1, v2, v3⟩ := unq_valid n (l.drop k) (by rw [List.length_drop]; omega) t' m' hu
          rw [List.length_drop] at v3
          exact ⟨by rw [valid_enc r k3]; exact v1, by omega, by omega⟩

/-! ### what was quoted -/
theorem esc_form (r : Nat) (h : esc r ≠ []) : (∃ c, esc r = [92, c] ∧ escL c.toNat = some r) ∨ (∃ x y, esc r = [92, 117, 48, 48, x, y] ∧ digs [48, 48, x, y] 0 = some r ∧ r < 55296 ∧ escL (117 : UInt8).toNat = none) := by
  have hr := esc_small h
  unfold esc at h ⊢
  split
  · rename_i e; subst e; exact .inl ⟨34, rfl, by decide⟩
  split
  · rename_i e; subst e; exact .inl ⟨92, rfl, by decide⟩
  split
  · rename_i e; subst e; exact .inl ⟨110, rfl, by decide⟩
  split
  · rename_i e; subst e; exact .inl ⟨114, rfl, by decide⟩
  split
  · rename_i e; subst e; exact .inl ⟨116, rfl, by decide⟩
  split
  · refine .inr ⟨_, _, rfl, ?_, by omega, by decide⟩
    have key : ∀ r : Fin 128, digs [48, 48, hexd (r.val / 16), hexd (r.val % 16)] 0 = some r.val := by decide
    exact key ⟨r, hr⟩
  · rename_i e1 e2 e3 e4 e5 e6
    exact absurd (by simp [e1, e2, e3, e4, e5, e6]) h
theorem next_esc (r : Nat) (h : esc r ≠ []) (m : List UInt8) : nextL (esc r ++ m) = some (r, (esc r).length) := by
  rcases esc_form r h with ⟨c, e, hc⟩ | ⟨x, y, e, hd, hr, hu⟩
  · rw [e]
    simp only [List.cons_append, List.nil_append]
    unfold nextL
    rw [if_neg (by simp), if_pos (by simp), if_neg (by simp)]
    simp only [List.getD_cons_succ, List.getD_cons_zero]
    rw [hc]
    rfl
  · rw [e]
    simp only [List.cons_append, List.nil_append]
    have hun : unitL (92 :: 117 :: 48 :: 48 :: x :: y :: m) = some r := by
      unfold unitL
      rw [if_pos ⟨by simp, by simp, by simp⟩]
      exact hd
    unfold nextL
    rw [if_neg (by simp), if_pos (by simp), if_neg (by simp)]
    simp only [List.getD_cons_succ, List.getD_cons_zero]
    rw [hu]
    dsimp only
    unfold numL
    rw [hun]
    dsimp only
    rw [if_pos (.inl hr)]
    rfl
theorem head_esc (r : Nat) (h : esc r ≠ []) (m : List UInt8) : (esc r ++ m).getD 0 0 = 92 := by
  rcases esc_form r h with ⟨c, e, hc⟩ | ⟨x, y, e, hd, hr, hu⟩ <;> rw [e] <;> simp
theorem head_ascii (l : List UInt8) (hne : l ≠ []) (h : (l.getD 0 0).toNat < 128) : (decodeL l).1 = (l.getD 0 0).toNat := by
  cases l with
  | nil => exact absurd rfl hne
  | cons c t => rw [decodeL_ascii c t h]; simp
theorem head_more (l m : List UInt8) (hne : l ≠ []) : (l.take (decodeL l).2 ++ m).getD 0 0 = l.getD 0 0 := by
  cases l with
  | nil => exact absurd rfl hne
  | cons c t =>
    have := decodeL_width (c :: t)
    obtain ⟨k, hk⟩ : ∃ k, (decodeL (c :: t)).2 = k + 1 := ⟨(decodeL (c :: t)).2 - 1, by omega⟩
    rw [hk]
    simp
theorem head_plain (l : List UInt8) (hne : l ≠ []) (h : esc (decodeL l).1 = []) : l.getD 0 0 ≠ 34 ∧ l.getD 0 0 ≠ 92 := by
  have e := esc_none h
  constructor
  · intro g
    have := head_ascii l hne (by rw [g]; decide)
    rw [g] at this
    have h2 : (34 : UInt8).toNat = 34 := by decide
    omega
  · intro g
    have := head_ascii l hne (by rw [g]; decide)
    rw [g] at this
    have h2 : (92 : UInt8).toNat = 92 := by decide
    omega
theorem next_plain (l m : List UInt8) (hne : l ≠ []) (hv : good l) (h : esc (decodeL l).1 = []) : nextL (l.take (decodeL l).2 ++ m) = some (decodeL l) := by
  have hp := head_plain l hne h
  have he := esc_none h
  unfold nextL
  rw [if_neg (app_ne (take_ne l hne)), head_more l m hne, if_neg hp.2, decode_more l m hne hv, if_neg ?_]
  intro g
  rcases g with g | g
  · omega
  · have := decodeL_width l
    exact hv ⟨g.1, by omega⟩
theorem sign_head (l m : List UInt8) (hne : l ≠ []) : (sign l ++ m).getD 0 0 ≠ 34 := by
  unfold sign
  by_cases h : esc (decodeL l).1 = []
  · rw [if_pos h, head_more l m hne]; exact (head_plain l hne h).1
  · rw [if_neg h, head_esc _ h]; decide
theorem sign_next (l m : List UInt8) (hne : l ≠ []) (hv : good l) : nextL (sign l ++ m) = some ((decodeL l).1, (sign l).length) := by
  unfold sign
  by_cases h : esc (decodeL l).1 = []
  · rw [if_pos h, next_plain l m hne hv h, piece_len l hne]
  · rw [if_neg h, next_esc _ h]
/-- What was quoted is read as it was, whatever stands behind it. -/
theorem unq_quo (l m : List UInt8) (h : validD l = true) : unq (quo l ++ 34 :: m) = some (l, (quo l).length + 1) := by
  revert h
  refine runes (P := fun l => validD l = true → unq (quo l ++ 34 :: m) = some (l, (quo l).length + 1)) (fun _ => unq_end _ (by simp [quo_nil])) ?_ l
  intro l hne ih h
  obtain ⟨hg, hr⟩ := valid_good l hne h
  show unq (quo l ++ 34 :: m) = some (l, (quo l).length + 1)
  rw [quo_step l hne, List.append_assoc, unq_step _ (sign_head l _ hne) (sign_next l _ hne hg), List.drop_left' rfl, ih hr]
  dsimp only
  rw [piece l hne hg, List.take_append_drop, List.length_append, Nat.add_assoc]
theorem unquote_quote (l m : List UInt8) (h : validD l = true) (hl : l.length ≤ 4096) : unquoteL (quoteL l ++ m) = (l, (quoteL l).length, 0) := by
  unfold unquoteL quoteL
  rw [if_pos (by simp)]
  simp only [List.cons_append, List.drop_succ_cons, List.drop_zero, List.append_assoc, List.nil_append]
  rw [unq_quo l m h]
  dsimp only
  rw [if_neg (by omega)]
  simp

/-! ### what was quoted, and is cut -/
theorem esc_cut (r : Nat) (h : esc r ≠ []) (n : Nat) (hn : n < (esc r).length) : nextL ((esc r).take n) = none := by
  rcases esc_form r h with ⟨c, e, hc⟩ | ⟨x, y, e, hd, hr, hu⟩
  · rw [e] at hn ⊢
    match n, hn with
    | 0, _ => rfl
    | 1, _ => rfl
    | n + 2, hn => exact absurd hn (by simp only [List.length_cons, List.length_nil]; omega)
  · rw [e] at hn ⊢
    have key : ∀ t : List UInt8, t.length < 4 → nextL (92 :: 117 :: t) = none := by
      intro t ht
      unfold nextL
      rw [if_neg (by simp), if_pos (by simp), if_neg (by simp)]
      simp only [List.getD_cons_succ, List.getD_cons_zero]
      rw [hu]
      dsimp only
      unfold numL unitL
      rw [if_neg (by simp; omega)]
    match n, hn with
    | 0, _ => rfl
    | 1, _ => rfl
    | n + 2, hn => 
      simp only [List.take_succ_cons]
      refine key _ ?_
      rw [List.length_take]
      simp at hn ⊢
      omega
set_option maxRecDepth 100000 in
set_option maxHeartbeats 4000000 in
theorem plain_cut (l : List UInt8) (hne : l ≠ []) (hv : good l) (h : esc (decodeL l).1 = []) (n : Nat) (hn : n < (decodeL l).2) : nextL (l.take n) = none := by
  by_cases h0 : n = 0
  · subst h0; rfl
  have hp := head_plain l hne h
  have hh : (l.take n).getD 0 0 = l.getD 0 0 := by
    cases l with
    | nil => exact absurd rfl hne
    | cons c t =>
      obtain ⟨k, rfl⟩ : ∃ k, n = k + 1 := ⟨n - 1, by omega⟩
      simp
  have hle := decodeL_le l hne
  have hlen : (l.take n).length = n := by rw [List.length_take]; omega
  have hne2 : l.take n ≠ [] := by
    intro e
    rw [e] at hlen
    simp at hlen
    omega
  have hd : decodeL (l.take n) = (65533, 1) := by
    rw [decodeL_N, hh, hlen]
    rw [decodeL_N] at hn
    have k0 := (l.getD 0 0).toNat_lt
    generalize ((l.take n).getD 1 0).toNat = c1
    generalize ((l.take n).getD 2 0).toNat = c2
    generalize ((l.take n).getD 3 0).toNat = c3
    rcases decodeN_shape l.length (l.getD 0 0).toNat (l.getD 1 0).toNat (l.getD 2 0).toNat (l.getD 3 0).toNat with ⟨c, e⟩ | ⟨c1, c2, c3, cv, e⟩ | ⟨c1, c2, c3, c4, cv, cs, e⟩ | ⟨c1, c2, c3, c4, c5, cv, cw, e⟩ | e
    all_goals (rw [e] at hn; dsimp only at hn)
    all_goals (try (exfalso; omega))
    all_goals (unfold decodeN; repeat' split)
    all_goals first | rfl | (exfalso; omega)
  unfold nextL
  rw [if_neg hne2, hh, if_neg hp.2, hd, if_pos (.inr ⟨rfl, Nat.le_refl _⟩)]
theorem sign_cut (l : List UInt8) (hne : l ≠ []) (hv : good l) (n : Nat) (hn : n < (sign l).length) : nextL ((sign l).take n) = none := by
  unfold sign at hn ⊢
  by_cases h : esc (decodeL l).1 = []
  · rw [if_pos h] at hn ⊢
    rw [piece_len l hne] at hn
    rw [List.take_take, Nat.min_eq_left (by omega)]
    exact plain_cut l hne hv h n hn
  · rw [if_neg h] at hn ⊢
    exact esc_cut _ h n hn
theorem take_head (a : List UInt8) (n : Nat) (h : a.getD 0 0 ≠ 34) : (a.take n).getD 0 0 ≠ 34 := by
  cases n with
  | zero => simp
  | succ n =>
    cases a with
    | nil => simp
    | cons c t => simpa using h
theorem unq_cut (l : List UInt8) (h : validD l = true) (n : Nat) (hn : n < (quo l).length + 1) : unq ((quo l ++ [34]).take n) = none := by
  revert h n
  refine runes (P := fun l => validD l = true → ∀ n, n < (quo l).length + 1 → unq ((quo l ++ [34]).take n) = none) (fun _ n hn => ?_) ?_ l
  · have : n = 0 := by simp [quo_nil] at hn; omega
    subst this; rfl
  intro l hne ih h n hn
  obtain ⟨hg, hr⟩ := valid_good l hne h
  have hh := sign_head l [] hne
  rw [List.append_nil] at hh
  rw [quo_step l hne, List.length_append] at hn
  rw [quo_step l hne, List.append_assoc, List.take_append]
  by_cases hc : n < (sign l).length
  · rw [show n - (sign l).length = 0 by omega, List.take_zero, List.append_nil]
    exact unq_none _ (take_head _ _ hh) (sign_cut l hne hg n hc)
  · rw [List.take_of_length_le (by omega), unq_step _ (sign_head l _ hne) (sign_next l _ hne hg), List.drop_left' rfl, ih hr _ (by omega)]
theorem unquote_cut (l : List UInt8) (h : validD l = true) (n : Nat) (hn : n < (quoteL l).length) : unquoteL ((quoteL l).take n) = ([], 0, 6) := by
  unfold quoteL at hn ⊢
  simp only [List.length_cons, List.length_append, List.length_nil] at hn
  cases n with
  | zero => rfl
  | succ n =>
    unfold unquoteL
    rw [List.take_succ_cons, if_pos (by simp), List.drop_succ_cons, List.drop_zero, unq_cut l h n (by omega)]
end Qm
end Go.Proofs.YtppkknmgdahniabDoor

set_option linter.unusedSimpArgs false
set_option linter.unusedVariables false
namespace Go.Proofs.YtppkknmgdahniabDoor
set_option maxRecDepth 100000
namespace Qm
open Go.Lib

theorem sign_more (l m : List UInt8) (hne : l ≠ []) (hv : good l) : sign (l.take (decodeL l).2 ++ m) = sign l := by
  unfold sign
  rw [decode_more l m hne hv, List.take_left' (piece_len l hne)]
theorem quo_app (l m : List UInt8) (h : validD l = true) : quo (l ++ m) = quo l ++ quo m := by
  revert h
  refine runes (P := fun l => validD l = true → quo (l ++ m) = quo l ++ quo m) (fun _ => by simp [quo_nil]) ?_ l
  intro l hne ih h
  obtain ⟨hg, hr⟩ := valid_good l hne h
  show quo (l ++ m) = quo l ++ quo m
  have e : l ++ m = l.take (decodeL l).2 ++ (l.drop (decodeL l).2 ++ m) := by rw [← List.append_assoc, List.take_append_drop]
  rw [e, quo_step _ (app_ne (take_ne l hne)), sign_more l _ hne hg, drop_more l _ hne hg, ih hr, quo_step l hne, List.append_assoc]
theorem valid_app (l m : List UInt8) (h : validD l = true) : validD (l ++ m) = validD m := by
  revert h
  refine runes (P := fun l => validD l = true → validD (l ++ m) = validD m) (fun _ => rfl) ?_ l
  intro l hne ih h
  obtain ⟨hg, hr⟩ := valid_good l hne h
  show validD (l ++ m) = validD m
  have e : l ++ m = l.take (decodeL l).2 ++ (l.drop (decodeL l).2 ++ m) := by rw [← List.append_assoc, List.take_append_drop]
  rw [e, valid_more l _ hne hg, ih hr]
theorem hexd_ascii : ∀ r : Fin 16, (hexd r.val).toNat < 128 ∧ 32 ≤ (hexd r.val).toNat ∧ (hexd r.val).toNat ≠ 127 := by decide
/-- The bytes of what stands behind a backslash. -/
theorem esc_bytes (r : Nat) (h : esc r ≠ []) : ∀ c ∈ esc r, c.toNat < 128 ∧ 32 ≤ c.toNat ∧ c.toNat ≠ 127 := by
  have hr := esc_small h
  have key : ∀ r : Fin 128, ∀ c ∈ esc r.val, c.toNat < 128 ∧ 32 ≤ c.toNat ∧ c.toNat ≠ 127 := by decide
  exact key ⟨r, hr⟩
theorem esc_length (r : Nat) (h : esc r ≠ []) : 2 ≤ (esc r).length ∧ (esc r).length ≤ 6 := by
  rcases esc_form r h with ⟨c, e, _⟩ | ⟨x, y, e, _⟩ <;> rw [e] <;> simp
theorem enc_high (r : Nat) (hr : 128 ≤ r) (hs : Sc r) : ∀ c ∈ encodeRune (r : Int), 128 ≤ c.toNat := by
  obtain ⟨h1, h2⟩ := hs
  intro c hc
  unfold encodeRune at hc
  obtain ⟨z, hz, rfl⟩ := List.mem_map.1 hc
  have hb := encodeRuneZ_byte _ z hz
  rw [byteN z (by omega) (by omega)]
  have : 128 ≤ z := by
    by_cases b : r ≤ 2047
    · rw [encodeRuneZ_two (by omega) (by omega)] at hz
      simp at hz; omega
    by_cases c : r ≤ 65535
    · rw [encodeRuneZ_three (by omega)] at hz
      simp at hz; omega
    · rw [encodeRuneZ_four (by omega) (by omega)] at hz
      simp at hz; omega
  omega
theorem enc_low (r : Nat) (hr : r < 128) : encodeRune (r : Int) = [UInt8.ofNat r] := by
  unfold encodeRune
  rw [encodeRuneZ_one (by omega) (by omega)]
  simp [Nat.toUInt8]
/-- The bytes of a rune, quoted. -/
theorem sign_bytes (l : List UInt8) (hne : l ≠ []) (hv : good l) : ∀ c ∈ sign l, 32 ≤ c.toNat ∧ c.toNat ≠ 127 := by
  unfold sign
  by_cases h : esc (decodeL l).1 = []
  · rw [if_pos h, ← piece l hne hv]
    have he := esc_none h
    intro c hc
    by_cases hr : (decodeL l).1 < 128
    · rw [enc_low _ hr] at hc
      simp at hc
      subst hc
      simp
      omega
    · have := enc_high _ (by omega) (decode_sc l) c hc
      omega
  · rw [if_neg h]
    intro c hc
    exact (esc_bytes _ h c hc).2
theorem quo_bytes (l : List UInt8) (h : validD l = true) : ∀ c ∈ quo l, 32 ≤ c.toNat ∧ c.toNat ≠ 127 := by
  revert h
  refine runes (P := fun l => validD l = true → ∀ c ∈ quo l, 32 ≤ c.toNat ∧ c.toNat ≠ 127) (fun _ c hc => by simp [quo_nil] at hc) ?_ l
  intro l hne ih h c hc
  obtain ⟨hg, hr⟩ := valid_good l hne h
  rw [quo_step l hne] at hc
  rcases List.mem_append.1 hc with hc | hc
  · exact sign_bytes l hne hg c hc
  · exact ih hr c hc
theorem quote_bytes (l : List UInt8) (h : validD l = true) : ∀ c ∈ quoteL l, 32 ≤ c.toNat ∧ c.toNat ≠ 127 := by
  intro c hc
  unfold quoteL at hc
  rcases List.mem_cons.1 hc with rfl | hc
  · decide
  rcases List.mem_append.1 hc with hc | hc
  · exact quo_bytes l h c hc
  · rw [List.mem_singleton.1 hc]; decide
theorem ascii_valid : ∀ (e m : List UInt8), (∀ c ∈ e, c.toNat < 128) → validD (e ++ m) = validD m
  | [], m, _ => rfl
  | c :: t, m, h => by
    rw [List.cons_append, validD_cons c _ (h c (by simp)), ascii_valid t m (fun x hx => h x (by simp [hx]))]
theorem sign_valid (l m : List UInt8) (hne : l ≠ []) (hv : good l) : validD (sign l ++ m) = validD m := by
  unfold sign
  by_cases h : esc (decodeL l).1 = []
  · rw [if_pos h, valid_more l m hne hv]
  · rw [if_neg h]
    exact ascii_valid _ _ (fun c hc => (esc_bytes _ h c hc).1)
theorem quo_valid (l m : List UInt8) (h : validD l = true) : validD (quo l ++ m) = validD m := by
  revert h
  refine runes (P := fun l => validD l = true → validD (quo l ++ m) = validD m) (fun _ => by simp [quo_nil]) ?_ l
  intro l hne ih h
  obtain ⟨hg, hr⟩ := valid_good l hne h
  show validD (quo l ++ m) = validD m
  rw [quo_step l hne, List.append_assoc, sign_valid l _ hne hg, ih hr]
theorem quote_valid (l : List UInt8) (h : validD l = true) : validD (quoteL l) = true := by
  unfold quoteL
  rw [validD_cons 34 _ (by decide), quo_valid l _ h]
  rfl
/-- A byte that stands for itself. -/
def bare (c : UInt8) : Bool := decide (32 ≤ c.toNat) && decide (c.toNat ≠ 34) && decide (c.toNat ≠ 92) && decide (c.toNat ≠ 127)
theorem sign_bare (l : List UInt8) (hne : l ≠ []) (hv : good l) : (l.take (decodeL l).2).all bare = decide (esc (decodeL l).1 = []) := by
  rw [← piece l hne hv]
  by_cases hr : (decodeL l).1 < 128
  · have key : ∀ r : Fin 128, ([UInt8.ofNat r.val].all bare) = decide (esc r.val = []) := by decide
    rw [enc_low _ hr]
    exact key ⟨_, hr⟩
  · have h1 : esc (decodeL l).1 = [] := by
      by_cases g : esc (decodeL l).1 = []
      · exact g
      · exact absurd (esc_small g) hr
    rw [decide_eq_true h1, List.all_eq_true]
    intro c hc
    have := enc_high _ (by omega) (decode_sc l) c hc
    unfold bare
    simp
    omega
theorem quo_len (l : List UInt8) (h : validD l = true) : l.length ≤ (quo l).length ∧ (quo l).length ≤ 6 * l.length ∧ (l.all bare = true ↔ quo l = l) ∧ (l.all bare = false → l.length < (quo l).length) := by
  revert h
  refine runes (P := fun l => validD l = true → l.length ≤ (quo l).length ∧ (quo l).length ≤ 6 * l.length ∧ (l.all bare = true ↔ quo l = l) ∧ (l.all bare = false → l.length < (quo l).length)) (fun _ => by simp [quo_nil]) ?_ l
  intro l hne ih h
  obtain ⟨hg, hr⟩ := valid_good l hne h
  obtain ⟨i1, i2, i3, i4⟩ := ih hr
  have w1 := decodeL_width l
  have w2 := decodeL_le l hne
  rw [List.length_drop] at i1 i2 i4
  have hb := sign_bare l hne hg
  have hall : l.all bare = ((l.take (decodeL l).2).all bare && (l.drop (decodeL l).2).all bare) := by
    rw [← List.all_append, List.take_append_drop]
  show l.length ≤ (quo l).length ∧ (quo l).length ≤ 6 * l.length ∧ (l.all bare = true ↔ quo l = l) ∧ (l.all bare = false → l.length < (quo l).length)
  rw [hall, hb, quo_step l hne, List.length_append]
  by_cases he : esc (decodeL l).1 = []
  · have hs : sign l = l.take (decodeL l).2 := by unfold sign; rw [if_pos he]
    rw [hs, piece_len l hne, decide_eq_true he, Bool.true_and]
    refine ⟨by omega, by omega, ?_, fun g => by have := i4 g; omega⟩
    rw [i3]
    constructor
    · intro g; rw [g, List.take_append_drop]
    · intro g
      have := congrArg (List.drop (decodeL l).2) g
      rwa [List.drop_left' (piece_len l hne)] at this
  · have hs : sign l = esc (decodeL l).1 := by unfold sign; rw [if_neg he]
    have hl := esc_length _ he
    have hw : (decodeL l).2 = 1 := by
      have hr := esc_small he
      have := piece l hne hg
      rw [enc_low _ hr] at this
      have h2 := congrArg List.length this
      rw [piece_len l hne] at h2
      simpa using h2.symm
    rw [hs, decide_eq_false he, Bool.false_and]
    refine ⟨by omega, by omega, ⟨fun g => (by cases g), fun g => ?_⟩, fun _ => by omega⟩
    have := congrArg List.length g
    rw [List.length_append] at this
    omega
theorem quote_len (l : List UInt8) (h : validD l = true) : l.length + 2 ≤ (quoteL l).length ∧ (quoteL l).length ≤ 6 * l.length + 2 ∧ (l.all bare = true ↔ quoteL l = 34 :: (l ++ [34])) := by
  obtain ⟨h1, h2, h3, _⟩ := quo_len l h
  unfold quoteL
  simp only [List.length_cons, List.length_append, List.length_nil]
  refine ⟨by omega, by omega, h3.trans ⟨fun e => by rw [e], fun e => ?_⟩⟩
  have := (List.cons.inj e).2
  exact List.append_cancel_right this
end Qm
end Go.Proofs.YtppkknmgdahniabDoor

set_option linter.unusedSimpArgs false
set_option linter.unusedVariables false
namespace Go.Proofs.YtppkknmgdahniabDoor
set_option maxRecDepth 100000
namespace Qm
open Go.Lib

theorem posn_all (l : List UInt8) (k : Nat) (h : (pc l).length ≤ k) : posn l k = l.length := by
  unfold posn
  rw [List.take_of_length_le h, pc_join]
theorem cut_zero (l : List UInt8) (b : Nat) : cut l 0 b = ((pc l).take b).flatten := by
  unfold cut
  rw [posn_zero, List.drop_zero, Nat.sub_zero, take_posn]
theorem cut_back (l : List UInt8) (a k : Nat) (h : (pc l).length ≤ k) : cut l a k = ((pc l).drop a).flatten := by
  unfold cut
  rw [posn_all l k h, ← drop_posn]
  exact List.take_of_length_le (by rw [List.length_drop]; exact Nat.le_refl _)
theorem cut_both (l : List UInt8) (a : Nat) : cut l 0 (max a 0) ++ cut l a (max (pc l).length a) = l := by
  rw [cut_zero, cut_back l a _ (Nat.le_max_left _ _), Nat.max_eq_left (Nat.zero_le a), ← List.flatten_append, List.take_append_drop, pc_join]
theorem cut_all (l : List UInt8) : cut l 0 (max (pc l).length 0) = l := by
  rw [cut_back l 0 _ (Nat.le_max_left _ _), List.drop_zero, pc_join]
theorem cut_none (l : List UInt8) : cut l (pc l).length (max ((pc l).length + 9) (pc l).length) = [] := by
  rw [cut_back l _ _ (Nat.le_max_right _ _), List.drop_eq_nil_of_le (Nat.le_refl _)]
  rfl
theorem cut_runes (l : List UInt8) (a : Nat) (h : validD l = true) :
    (pc (cut l 0 (max a 0))).length = min a (pc l).length ∧ (pc (cut l a (max (pc l).length a))).length = (pc l).length - min a (pc l).length ∧
    validD (cut l 0 (max a 0)) = true ∧ validD (cut l a (max (pc l).length a)) = true := by
  rw [cut_zero, cut_back l a _ (Nat.le_max_left _ _), Nat.max_eq_left (Nat.zero_le a)]
  obtain ⟨t1, t2⟩ := pc_take l h a
  obtain ⟨d1, d2⟩ := pc_drop l a
  refine ⟨by rw [t1, List.length_take], by rw [d1, List.length_drop]; omega, t2, d2 h⟩
theorem cut_size (l : List UInt8) (a b : Nat) : (cut l a b).length ≤ l.length := by
  unfold cut
  rw [List.length_take, List.length_drop]
  omega
/-- What is read: a text that is UTF-8 and not too long, or nothing. -/
theorem unquote_shape (l : List UInt8) : (∃ t n, unquoteL l = (t, n, 0) ∧ validD t = true ∧ 2 ≤ n ∧ n ≤ l.length ∧ t.length ≤ 4096) ∨ unquoteL l = ([], 0, 3) ∨ unquoteL l = ([], 0, 6) := by
  unfold unquoteL
  by_cases h : l.getD 0 0 = 34
  · rw [if_pos h]
    have hne : l ≠ [] := by intro e; rw [e] at h; simp at h
    have hl : 0 < l.length := List.length_pos_iff.2 hne
    cases hu : unq (l.drop 1) with
    | none => exact .inr (.inr rfl)
    | some p =>
      obtain ⟨t, m⟩ := p
      obtain ⟨v1, v2, v3⟩ := unq_valid _ _ (Nat.le_refl _) t m hu
      rw [List.length_drop] at v3
      dsimp only
      by_cases g : 4096 < t.length
      · rw [if_pos g]; exact .inr (.inl rfl)
      · rw [if_neg g]; exact .inl ⟨t, m + 1, rfl, v1, by omega, by omega, by omega⟩
  · rw [if_neg h]; exact .inr (.inr rfl)
/-- The quoted text of both together. -/
theorem quote_join (l m : List UInt8) (h : validD l = true) : quoteL (l ++ m) = (quoteL l).take ((quoteL l).length - 1) ++ (quoteL m).drop 1 := by
  unfold quoteL
  rw [quo_app l m h]
  simp
theorem drop_join (l m : List UInt8) : (quoteL l ++ m).drop (quoteL l).length = m := List.drop_left' rfl
theorem pc_join2 (l m : List UInt8) (h : validD l = true) : (pc (l ++ m)).length = (pc l).length + (pc m).length := by
  rw [pc_app l m h, List.length_append]
/-- Bytes, one more. -/
theorem all_take (l : List UInt8) (k : Nat) (h : k < l.length) : (l.take (k + 1)).all bare = ((l.take k).all bare && bare (l[k]'h)) := by
  rw [List.take_succ_eq_append_getElem h, List.all_append]
  simp
theorem all_end (l : List UInt8) (k : Nat) (h : l.length ≤ k) : (l.take k).all bare = l.all bare := by rw [List.take_of_length_le h]
end Qm
end Go.Proofs.YtppkknmgdahniabDoor

set_option linter.unusedSimpArgs false
set_option linter.unusedVariables false
namespace Go.Proofs.YtppkknmgdahniabDoor
set_option maxRecDepth 100000
namespace Qm
open Go.Lib

/-- At the p-th byte, what was read is acc, what is held of it bs. -/
def UI (l : List UInt8) (p : Nat) (acc bs : List UInt8) : Prop :=
  1 ≤ p ∧ p ≤ l.length ∧ (bs = acc ∨ (4096 < bs.length ∧ 4096 < acc.length)) ∧ bs.length ≤ 4100 ∧
  unq (l.drop 1) = (match unq (l.drop p) with | none => none | some (t, m) => some (acc ++ t, (p - 1) + m))
theorem UI.start (l : List UInt8) (h : 1 ≤ l.length) : UI l 1 [] [] := by
  refine ⟨Nat.le_refl _, h, .inl rfl, by simp, ?_⟩
  cases unq (l.drop 1) with
  | none => rfl
  | some q => simp
theorem UI.more {l : List UInt8} {p : Nat} {acc bs : List UInt8} (h : UI l p acc bs) (hh : (l.drop p).getD 0 0 ≠ 34) {r k : Nat} (hx : nextL (l.drop p) = some (r, k)) (cs : List UInt8)
    (hc : (bs.length ≤ 4096 ∧ cs = bs ++ encodeRune (r : Int)) ∨ (4096 < bs.length ∧ cs = bs)) : UI l (p + k) (acc ++ encodeRune (r : Int)) cs := by
  obtain ⟨h1, h2, h3, h4, h5⟩ := h
  obtain ⟨k1, k2, k3⟩ := next_ok hx
  have he := enc_len (r : Int)
  rw [List.length_drop] at k2
  refine ⟨by omega, by omega, ?_, ?_, ?_⟩
  · rcases hc with ⟨g, rfl⟩ | ⟨g, rfl⟩
    · rcases h3 with rfl | h3
      · exact .inl rfl
      · exact absurd h3.1 (by omega)
    · refine .inr ⟨g, ?_⟩
      rw [List.length_append]
      rcases h3 with rfl | h3 <;> omega
  · rcases hc with ⟨g, rfl⟩ | ⟨g, rfl⟩
    · rw [List.length_append]; omega
    · exact h4
  · rw [h5, unq_step _ hh hx, List.drop_drop]
    cases unq (l.drop (p + k)) with
    | none => rfl
    | some q =>
      obtain ⟨t, m⟩ := q
      dsimp only
      rw [List.append_assoc, show p - 1 + (k + m) = p + k - 1 + m by omega]
theorem UI.none {l : List UInt8} {p : Nat} {acc bs : List UInt8} (h : UI l p acc bs) (h0 : l.getD 0 0 = 34) (hh : (l.drop p).getD 0 0 ≠ 34) (hx : nextL (l.drop p) = none) : unquoteL l = ([], 0, 6) := by
  obtain ⟨h1, h2, h3, h4, h5⟩ := h
  unfold unquoteL
  rw [if_pos h0, h5, unq_none _ hh hx]
theorem UI.last {l : List UInt8} {p : Nat} {acc bs : List UInt8} (h : UI l p acc bs) (h0 : l.getD 0 0 = 34) (hh : (l.drop p).getD 0 0 = 34) :
    p + 1 ≤ l.length ∧ (4096 < bs.length → unquoteL l = ([], 0, 3)) ∧ (bs.length ≤ 4096 → unquoteL l = (bs, p + 1, 0)) := by
  obtain ⟨h1, h2, h3, h4, h5⟩ := h
  have hp : p + 1 ≤ l.length := by
    by_cases g : p < l.length
    · omega
    · rw [List.drop_eq_nil_of_le (by omega)] at hh
      simp at hh
  have e : unq (l.drop 1) = some (acc, p) := by
    rw [h5, unq_end _ hh]
    dsimp only
    rw [List.append_nil, Nat.sub_add_cancel h1]
  refine ⟨hp, fun g => ?_, fun g => ?_⟩
  · unfold unquoteL
    rw [if_pos h0, e]
    dsimp only
    rw [if_pos]
    rcases h3 with rfl | h3 <;> omega
  · have ea : bs = acc := by
      rcases h3 with rfl | h3
      · rfl
      · exact absurd h3.1 (by omega)
    subst ea
    unfold unquoteL
    rw [if_pos h0, e]
    dsimp only
    rw [if_neg (by omega)]
end Qm
end Go.Proofs.YtppkknmgdahniabDoor

set_option linter.unusedSimpArgs false
set_option linter.unusedVariables false
namespace Go.Proofs.YtppkknmgdahniabDoor
set_option maxRecDepth 100000
namespace Qm
open Go.Lib

/-- The rune that stands first, and its bytes; none: 0, 0. -/
def runeV (l : List UInt8) : Nat × Nat := if (decodeL l).1 = 65533 ∧ (decodeL l).2 = 1 then (0, 0) else decodeL l
/-- A first byte of a longer rune: so many bytes, the least such rune, what the byte is worth. -/
def lead (c n least x : Nat) : Prop := (194 ≤ c ∧ c < 224 ∧ n = 2 ∧ least = 128 ∧ x = c - 192) ∨ (224 ≤ c ∧ c < 240 ∧ n = 3 ∧ least = 2048 ∧ x = c - 224) ∨ (240 ≤ c ∧ c < 245 ∧ n = 4 ∧ least = 65536 ∧ x = c - 240)
/-- What the first byte and the k behind it are worth. -/
def valX (l : List UInt8) (x : Nat) : Nat → Nat
  | 0 => x
  | k + 1 => 64 * valX l x k + (l.getD (k + 1) 0).toNat - 128

theorem runeV_ascii (l : List UInt8) (h : (l.getD 0 0).toNat < 128) : runeV l = ((l.getD 0 0).toNat, 1) := by
  unfold runeV
  rw [decodeL_N]
  unfold decodeN
  rw [if_pos h, if_neg (by dsimp only; omega)]
theorem runeV_of {l : List UInt8} {a b : Nat} (h : decodeN l.length (l.getD 0 0).toNat (l.getD 1 0).toNat (l.getD 2 0).toNat (l.getD 3 0).toNat = (a, b)) (hn : ¬ (a = 65533 ∧ b = 1)) : runeV l = (a, b) := by
  unfold runeV
  rw [decodeL_N, h, if_neg hn]
theorem runeV_bad {l : List UInt8} (h : decodeN l.length (l.getD 0 0).toNat (l.getD 1 0).toNat (l.getD 2 0).toNat (l.getD 3 0).toNat = (65533, 1)) : runeV l = (0, 0) := by
  unfold runeV
  rw [decodeL_N, h, if_pos ⟨rfl, rfl⟩]
theorem runeV_none (l : List UInt8) (h0 : ¬ (l.getD 0 0).toNat < 128) (h1 : ¬ (194 ≤ (l.getD 0 0).toNat ∧ (l.getD 0 0).toNat < 245)) : runeV l = (0, 0) := by
  apply runeV_bad
  have k0 := (l.getD 0 0).toNat_lt
  have k1 := (l.getD 1 0).toNat_lt
  have k2 := (l.getD 2 0).toNat_lt
  have k3 := (l.getD 3 0).toNat_lt
  rcases decodeN_shape l.length (l.getD 0 0).toNat (l.getD 1 0).toNat (l.getD 2 0).toNat (l.getD 3 0).toNat with ⟨c, e⟩ | ⟨c1, c2, c3, cv, e⟩ | ⟨c1, c2, c3, c4, cv, cs, e⟩ | ⟨c1, c2, c3, c4, c5, cv, cw, e⟩ | e
  all_goals first | exact e | (exfalso; omega)
theorem runeV_short (l : List UInt8) {n least x : Nat} (hl : lead (l.getD 0 0).toNat n least x) (h : l.length < n) : runeV l = (0, 0) := by
  apply runeV_bad
  unfold lead at hl
  rcases decodeN_shape l.length (l.getD 0 0).toNat (l.getD 1 0).toNat (l.getD 2 0).toNat (l.getD 3 0).toNat with ⟨c, e⟩ | ⟨c1, c2, c3, cv, e⟩ | ⟨c1, c2, c3, c4, cv, cs, e⟩ | ⟨c1, c2, c3, c4, c5, cv, cw, e⟩ | e
  all_goals first | exact e | (exfalso; omega)
theorem runeV_cont (l : List UInt8) {n least x : Nat} (hl : lead (l.getD 0 0).toNat n least x) (k : Nat) (hk : 1 ≤ k) (hkn : k < n) (h : ¬ (128 ≤ (l.getD k 0).toNat ∧ (l.getD k 0).toNat < 192)) : runeV l = (0, 0) := by
  apply runeV_bad
  unfold lead at hl
  have h3 : k = 1 ∨ k = 2 ∨ k = 3 := by omega
  rcases decodeN_shape l.length (l.getD 0 0).toNat (l.getD 1 0).toNat (l.getD 2 0).toNat (l.getD 3 0).toNat with ⟨c, e⟩ | ⟨c1, c2, c3, cv, e⟩ | ⟨c1, c2, c3, c4, cv, cs, e⟩ | ⟨c1, c2, c3, c4, c5, cv, cw, e⟩ | e
  all_goals rcases h3 with rfl | rfl | rfl
  all_goals first | exact e | (exfalso; omega)
set_option maxRecDepth 100000 in
/-- All bytes are as they should: what they are worth. -/
theorem runeV_end (l : List UInt8) {n least x : Nat} (hl : lead (l.getD 0 0).toNat n least x) (hn : n ≤ l.length) (h : ∀ k, 1 ≤ k → k < n → 128 ≤ (l.getD k 0).toNat ∧ (l.getD k 0).toNat < 192) :
    ((valX l x (n - 1) < least ∨ 1114111 < valX l x (n - 1) ∨ (55296 ≤ valX l x (n - 1) ∧ valX l x (n - 1) < 57344)) → runeV l = (0, 0)) ∧
    (¬ (valX l x (n - 1) < least ∨ 1114111 < valX l x (n - 1) ∨ (55296 ≤ valX l x (n - 1) ∧ valX l x (n - 1) < 57344)) → runeV l = (valX l x (n - 1), n)) := by
  unfold lead at hl
  rcases hl with ⟨a1, a2, rfl, rfl, rfl⟩ | ⟨a1, a2, rfl, rfl, rfl⟩ | ⟨a1, a2, rfl, rfl, rfl⟩
  · have b1 := h 1 (by omega) (by omega)
    have e : valX l ((l.getD 0 0).toNat - 192) 1 = (l.getD 0 0).toNat % 32 * 64 + (l.getD 1 0).toNat % 64 := by
      show 64 * ((l.getD 0 0).toNat - 192) + (l.getD 1 0).toNat - 128 = _
      omega
    have e2 : decodeN l.length (l.getD 0 0).toNat (l.getD 1 0).toNat (l.getD 2 0).toNat (l.getD 3 0).toNat = ((l.getD 0 0).toNat % 32 * 64 + (l.getD 1 0).toNat % 64, 2) := by
      unfold decodeN
      rw [if_neg (by omega), if_pos (by omega), if_pos (by omega)]
    rw [show 2 - 1 = 1 from rfl, e]
    refine ⟨fun g => by exfalso; omega, fun g => runeV_of e2 (by omega)⟩
  · have b1 := h 1 (by omega) (by omega)
    have b2 := h 2 (by omega) (by omega)
    have e : valX l ((l.getD 0 0).toNat - 224) 2 = (l.getD 0 0).toNat % 16 * 4096 + (l.getD 1 0).toNat % 64 * 64 + (l.getD 2 0).toNat % 64 := by
      show 64 * (64 * ((l.getD 0 0).toNat - 224) + (l.getD 1 0).toNat - 128) + (l.getD 2 0).toNat - 128 = _
      omega
    rw [show 3 - 1 = 2 from rfl, e]
    refine ⟨fun g => runeV_bad ?_, fun g => runeV_of ?_ (by omega)⟩
    · unfold decodeN
      rw [if_neg (by omega), if_neg (by omega), if_pos (by omega), if_neg (by omega)]
    · unfold decodeN
      rw [if_neg (by omega), if_neg (by omega), if_pos (by omega), if_pos (by omega)]
  · have b1 := h 1 (by omega) (by omega)
    have b2 := h 2 (by omega) (by omega)
    have b3 := h 3 (by omega) (by omega)
    have e : valX l ((l.getD 0 0).toNat - 240) 3 = (l.getD 0 0).toNat % 8 * 262144 + (l.getD 1 0).toNat % 64 * 4096 + (l.getD 2 0).toNat % 64 * 64 + (l.getD 3 0).toNat % 64 := by
      show 64 * (64 * (64 * ((l.getD 0 0).toNat - 240) + (l.getD 1 0).toNat - 128) + (l.getD 2 0).toNat - 128) + (l.getD 3 0).toNat - 128 = _
      omega
    rw [show 4 - 1 = 3 from rfl, e]
    refine ⟨fun g => runeV_bad ?_, fun g => runeV_of ?_ (by omega)⟩
    · unfold decodeN
      rw [if_neg (by omega), if_neg (by omega), if_neg (by omega), if_pos (by omega), if_neg (by omega)]
    · unfold decodeN
      rw [if_neg (by omega), if_neg (by omega), if_neg (by omega), if_pos (by omega), if_pos (by omega)]
theorem valX_lt (l : List UInt8) {n least x : Nat} (hl : lead (l.getD 0 0).toNat n least x) : ∀ k, k < n → valX l x k < 33554432
  | 0, _ => by
    unfold lead at hl
    show x < 33554432
    omega
  | 1, _ => by
    have k1 := (l.getD 1 0).toNat_lt
    unfold lead at hl
    show 64 * x + (l.getD 1 0).toNat - 128 < 33554432
    omega
  | 2, _ => by
    have k1 := (l.getD 1 0).toNat_lt
    have k2 := (l.getD 2 0).toNat_lt
    unfold lead at hl
    show 64 * (64 * x + (l.getD 1 0).toNat - 128) + (l.getD 2 0).toNat - 128 < 33554432
    omega
  | 3, _ => by
    have k1 := (l.getD 1 0).toNat_lt
    have k2 := (l.getD 2 0).toNat_lt
    have k3 := (l.getD 3 0).toNat_lt
    unfold lead at hl
    show 64 * (64 * (64 * x + (l.getD 1 0).toNat - 128) + (l.getD 2 0).toNat - 128) + (l.getD 3 0).toNat - 128 < 33554432
    omega
  | k + 4, h => by unfold lead at hl; omega

theorem runeV_width (l : List UInt8) : ((runeV l).2 = 0 ∧ ¬ good l ∧ (runeV l).1 = 0 ∧ (decodeL l).2 = 1) ∨ (1 ≤ (runeV l).2 ∧ good l ∧ runeV l = decodeL l) := by
  unfold runeV good
  have hw := decodeL_width l
  by_cases h : (decodeL l).1 = 65533 ∧ (decodeL l).2 = 1
  · rw [if_pos h]; exact .inl ⟨rfl, fun g => g h, rfl, h.2⟩
  · rw [if_neg h]; exact .inr ⟨hw, h, rfl⟩
/-- So many bytes has what stands first, be it a rune or not. -/
theorem runeV_max (l : List UInt8) : max (runeV l).2 1 = (decodeL l).2 := by
  rcases runeV_width l with ⟨h1, _, _, h2⟩ | ⟨h1, _, h2⟩
  · rw [h1, h2]; rfl
  · rw [← h2]; omega

/-! ### quoted byte by byte -/
def escB (c : UInt8) : List UInt8 := if esc c.toNat = [] then [c] else esc c.toNat
theorem escB_high (c : UInt8) (h : 128 ≤ c.toNat) : escB c = [c] := by
  unfold escB
  by_cases g : esc c.toNat = []
  · rw [if_pos g]
  · have := esc_small g; omega
theorem flat_high : ∀ (l : List UInt8), (∀ c ∈ l, 128 ≤ c.toNat) → l.flatMap escB = l
  | [], _ => rfl
  | c :: t, h => by
    rw [List.flatMap_cons, escB_high c (h c (by simp)), flat_high t (fun x hx => h x (by simp [hx]))]
    rfl
theorem quo_flat (l : List UInt8) (h : validD l = true) : quo l = l.flatMap escB := by
  revert h
  refine runes (P := fun l => validD l = true → quo l = l.flatMap escB) (fun _ => rfl) ?_ l
  intro l hne ih h
  obtain ⟨hg, hr⟩ := valid_good l hne h
  have hp := piece l hne hg
  have e : l = encodeRune ((decodeL l).1 : Int) ++ l.drop (decodeL l).2 := by rw [hp, List.take_append_drop]
  rw [quo_step l hne, ih hr]
  refine Eq.trans ?_ (congrArg (List.flatMap escB) e).symm
  rw [List.flatMap_append]
  congr 1
  unfold sign
  by_cases g : (decodeL l).1 < 128
  · rw [enc_low _ g]
    have hb : (UInt8.ofNat (decodeL l).1).toNat = (decodeL l).1 := by simp; omega
    rw [List.flatMap_cons, List.flatMap_nil, List.append_nil]
    unfold escB
    rw [hb, ← hp, enc_low _ g]
  · have hx : esc (decodeL l).1 = [] := by
      by_cases g2 : esc (decodeL l).1 = []
      · exact g2
      · exact absurd (esc_small g2) g
    rw [if_pos hx, ← hp, flat_high _ (enc_high _ (by omega) (decode_sc l))]
end Qm
end Go.Proofs.YtppkknmgdahniabDoor
