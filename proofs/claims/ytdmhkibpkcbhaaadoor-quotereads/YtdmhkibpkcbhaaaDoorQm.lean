/- What is proved here: plain facts on the runes of texts, on how texts are quoted, and read again; conditions: none. It imports nothing of any program but plain facts. -/
import Derived.Lib.MapLaws
import Derived.Lib.ValidLaws
import Derived.Lib.TrimAscii
set_option linter.unusedSimpArgs false
set_option linter.unusedVariables false
namespace Go.Proofs.YtdmhkibpkcbhaaaDoor
namespace Qm
open Go.Lib

/-! ### runes -/
/-- What stands first is UTF-8. -/
def good (l : List UInt8) : Prop := ¬ ((decodeL l).1 = 65533 ∧ (decodeL l).2 = 1)
/-- A rune that has a form in UTF-8. -/
def Sc (r : Nat) : Prop := r ≤ 1114111 ∧ ¬ (55296 ≤ r ∧ r ≤ 57343)

theorem byteN (z : Int) (h0 : 0 ≤ z) (h1 : z < 256) : (z.toNat.toUInt8).toNat = z.toNat := by
  simp [Nat.toUInt8]
  omega
set_option maxRecDepth 100000 in
set_option maxHeartbeats 4000000 in
theorem decode_encode (r : Nat) (hr : Sc r) (m : List UInt8) : decodeL (encodeRune (r : Int) ++ m) = (r, (encodeRune (r : Int)).length) := by
  obtain ⟨h1, h2⟩ := hr
  unfold encodeRune
  by_cases a : r ≤ 127
  · rw [encodeRuneZ_one (by omega) (by omega)]
    simp only [List.map_cons, List.map_nil, List.cons_append, List.nil_append]
    rw [decodeL_ascii _ _ (by rw [byteN _ (by omega) (by omega)]; omega), byteN _ (by omega) (by omega)]
    simp
  by_cases b : r ≤ 2047
  · rw [encodeRuneZ_two (by omega) (by omega), decodeL_N]
    simp only [List.map_cons, List.map_nil, List.cons_append, List.nil_append, List.getD_cons_zero, List.getD_cons_succ, List.length_cons, List.length_nil]
    rw [byteN _ (by omega) (by omega), byteN _ (by omega) (by omega)]
    unfold decodeN
    repeat' split
    all_goals first | (exfalso; omega) | (apply Prod.ext <;> simp only <;> omega)
  by_cases c : r ≤ 65535
  · rw [encodeRuneZ_three (by omega), decodeL_N]
    simp only [List.map_cons, List.map_nil, List.cons_append, List.nil_append, List.getD_cons_zero, List.getD_cons_succ, List.length_cons, List.length_nil]
    rw [byteN _ (by omega) (by omega), byteN _ (by omega) (by omega), byteN _ (by omega) (by omega)]
    unfold decodeN
    repeat' split
    all_goals first | (exfalso; omega) | (apply Prod.ext <;> simp only <;> omega)
  · rw [encodeRuneZ_four (by omega) (by omega), decodeL_N]
    simp only [List.map_cons, List.map_nil, List.cons_append, List.nil_append, List.getD_cons_zero, List.getD_cons_succ, List.length_cons, List.length_nil]
    rw [byteN _ (by omega) (by omega), byteN _ (by omega) (by omega), byteN _ (by omega) (by omega), byteN _ (by omega) (by omega)]
    unfold decodeN
    repeat' split
    all_goals first | (exfalso; omega) | (apply Prod.ext <;> simp only <;> omega)

theorem decode_sc (l : List UInt8) : Sc (decodeL l).1 := by
  rw [decodeL_N]
  have k0 := (l.getD 0 0).toNat_lt
  unfold Sc
  rcases decodeN_shape l.length (l.getD 0 0).toNat (l.getD 1 0).toNat (l.getD 2 0).toNat (l.getD 3 0).toNat with ⟨c, e⟩ | ⟨c1, c2, c3, cv, e⟩ | ⟨c1, c2, c3, c4, cv, cs, e⟩ | ⟨c1, c2, c3, c4, c5, cv, cw, e⟩ | e
  all_goals (rw [e]; dsimp only; omega)
theorem width_le4 (l : List UInt8) : (decodeL l).2 ≤ 4 := by
  rw [decodeL_N]
  rcases decodeN_shape l.length (l.getD 0 0).toNat (l.getD 1 0).toNat (l.getD 2 0).toNat (l.getD 3 0).toNat with ⟨c, e⟩ | ⟨c1, c2, c3, cv, e⟩ | ⟨c1, c2, c3, c4, cv, cs, e⟩ | ⟨c1, c2, c3, c4, c5, cv, cw, e⟩ | e
  all_goals (rw [e]; dsimp only; omega)
theorem piece (l : List UInt8) (hne : l ≠ []) (hv : good l) : encodeRune ((decodeL l).1 : Int) = l.take (decodeL l).2 := encode_decode l hne hv
theorem piece_len (l : List UInt8) (hne : l ≠ []) : (l.take (decodeL l).2).length = (decodeL l).2 := by
  have := decodeL_le l hne
  rw [List.length_take]; omega
/-- What stands first is read alike whatever stands behind it. -/
theorem decode_more (l m : List UInt8) (hne : l ≠ []) (hv : good l) : decodeL (l.take (decodeL l).2 ++ m) = decodeL l := by
  rw [← piece l hne hv, decode_encode _ (decode_sc l), piece l hne hv, piece_len l hne]
theorem enc_len (r : Int) : 1 ≤ (encodeRune r).length ∧ (encodeRune r).length ≤ 4 := by
  have := encodeRuneZ_length r
  simpa [encodeRune] using this
theorem enc_ne (r : Int) : encodeRune r ≠ [] := by
  intro h
  have := enc_len r
  rw [h] at this
  simp at this
theorem good_enc (r : Nat) (hr : Sc r) (m : List UInt8) : good (encodeRune (r : Int) ++ m) := by
  unfold good
  rw [decode_encode r hr]
  dsimp only
  intro h
  obtain ⟨rfl, h2⟩ := h
  revert h2
  decide
theorem good_more (l m : List UInt8) (hne : l ≠ []) (hv : good l) : good (l.take (decodeL l).2 ++ m) := by
  unfold good
  rw [decode_more l m hne hv]
  exact hv
theorem take_ne (l : List UInt8) (hne : l ≠ []) : l.take (decodeL l).2 ≠ [] := by
  intro h
  have h1 := congrArg List.length h
  have h2 := decodeL_width l
  rw [piece_len l hne] at h1
  simp at h1
  omega
theorem app_ne {a b : List UInt8} (h : a ≠ []) : a ++ b ≠ [] := by
  intro e
  exact h (List.append_eq_nil_iff.1 e).1

theorem ind {P : List UInt8 → Prop} (h0 : P []) (h1 : ∀ l, l ≠ [] → P (l.drop (decodeL l).2) → P l) : ∀ (n : Nat) (l : List UInt8), l.length ≤ n → P l
  | 0, l, h => by
    have : l = [] := List.eq_nil_of_length_eq_zero (by omega)
    subst this; exact h0
  | n + 1, l, h => by
    by_cases hne : l = []
    · subst hne; exact h0
    · have hw := decodeL_width l
      have hl : 0 < l.length := List.length_pos_iff.2 hne
      exact h1 l hne (ind h0 h1 n _ (by rw [List.length_drop]; omega))
/-- Rune by rune. -/
theorem runes {P : List UInt8 → Prop} (h0 : P []) (h1 : ∀ l, l ≠ [] → P (l.drop (decodeL l).2) → P l) (l : List UInt8) : P l := ind h0 h1 l.length l (Nat.le_refl _)

theorem valid_good (l : List UInt8) (hne : l ≠ []) (h : validD l = true) : good l ∧ validD (l.drop (decodeL l).2) = true := by
  rw [validD_step l hne] at h
  by_cases g : (decodeL l).1 = 65533 ∧ (decodeL l).2 = 1
  · rw [if_pos g] at h; cases h
  · rw [if_neg g] at h; exact ⟨g, h⟩
theorem valid_of (l : List UInt8) (hne : l ≠ []) (hg : good l) (h : validD (l.drop (decodeL l).2) = true) : validD l = true := by
  rw [validD_step l hne, if_neg hg]; exact h
theorem drop_more (l m : List UInt8) (hne : l ≠ []) (hv : good l) : (l.take (decodeL l).2 ++ m).drop (decodeL (l.take (decodeL l).2 ++ m)).2 = m := by
  rw [decode_more l m hne hv, List.drop_left' (piece_len l hne)]
theorem valid_more (l m : List UInt8) (hne : l ≠ []) (hv : good l) : validD (l.take (decodeL l).2 ++ m) = validD m := by
  rw [validD_step _ (app_ne (take_ne l hne)), if_neg (good_more l m hne hv), drop_more l m hne hv]
theorem valid_enc (r : Nat) (hr : Sc r) (m : List UInt8) : validD (encodeRune (r : Int) ++ m) = validD m := by
  rw [validD_step _ (app_ne (enc_ne _)), if_neg (good_enc r hr m), decode_encode r hr, List.drop_left' rfl]

/-! ### the pieces of a text: the bytes of each rune -/
def pcs : Nat → List UInt8 → List (List UInt8)
  | 0, _ => []
  | n + 1, l => if l = [] then [] else l.take (decodeL l).2 :: pcs n (l.drop (decodeL l).2)
def pc (l : List UInt8) : List (List UInt8) := pcs l.length l
theorem pcs_nil : ∀ n, pcs n [] = []
  | 0 => rfl
  | _ + 1 => by simp [pcs]
theorem pcs_fuel : ∀ (n m : Nat) (l : List UInt8), l.length ≤ n → l.length ≤ m → pcs n l = pcs m l
  | 0, m, l, hn, _ => by
    have : l = [] := List.eq_nil_of_length_eq_zero (by omega)
    subst this; rw [pcs_nil, pcs_nil]
  | n + 1, 0, l, _, hm => by
    have : l = [] := List.eq_nil_of_length_eq_zero (by omega)
    subst this; rw [pcs_nil, pcs_nil]
  | n + 1, m + 1, l, hn, hm => by
    by_cases hne : l = []
    · subst hne; rw [pcs_nil, pcs_nil]
    · have hw := decodeL_width l
      have hl : 0 < l.length := List.length_pos_iff.2 hne
      simp only [pcs, if_neg hne]
      rw [pcs_fuel n m _ (by rw [List.length_drop]; omega) (by rw [List.length_drop]; omega)]
theorem pc_nil : pc [] = [] := rfl
theorem pc_step (l : List UInt8) (hne : l ≠ []) : pc l = l.take (decodeL l).2 :: pc (l.drop (decodeL l).2) := by
  have hw := decodeL_width l
  have hl : 0 < l.length := List.length_pos_iff.2 hne
  unfold pc
  obtain ⟨n, hn⟩ : ∃ n, l.length = n + 1 := ⟨l.length - 1, by omega⟩
  rw [hn]
  simp only [pcs, if_neg hne]
  rw [pcs_fuel n _ _ (by rw [List.length_drop]; omega) (Nat.le_refl _)]
theorem pc_join (l : List UInt8) : (pc l).flatten = l := by
  refine runes (P := fun l => (pc l).flatten = l) rfl ?_ l
  intro l hne ih
  show (pc l).flatten = l
  rw [pc_step l hne, List.flatten_cons, ih, List.take_append_drop]
theorem pc_le (l : List UInt8) : (pc l).length ≤ l.length ∧ l.length ≤ 4 * (pc l).length := by
  refine runes (P := fun l => (pc l).length ≤ l.length ∧ l.length ≤ 4 * (pc l).length) ⟨by simp [pc_nil], by simp⟩ ?_ l
  intro l hne ih
  show (pc l).length ≤ l.length ∧ l.length ≤ 4 * (pc l).length
  have h1 := decodeL_width l
  have h2 := width_le4 l
  have h3 := decodeL_le l hne
  rw [List.length_drop] at ih
  rw [pc_step l hne, List.length_cons]
  omega
theorem pc_more (l m : List UInt8) (hne : l ≠ []) (hv : good l) : pc (l.take (decodeL l).2 ++ m) = l.take (decodeL l).2 :: pc m := by
  rw [pc_step _ (app_ne (take_ne l hne)), drop_more l m hne hv, decode_more l m hne hv, List.take_left' (piece_len l hne)]
theorem pc_app (l m : List UInt8) (h : validD l = true) : pc (l ++ m) = pc l ++ pc m := by
  revert h
  refine runes (P := fun l => validD l = true → pc (l ++ m) = pc l ++ pc m) (fun _ => by simp [pc_nil]) ?_ l
  intro l hne ih h
  obtain ⟨hg, hr⟩ := valid_good l hne h
  have e : l ++ m = l.take (decodeL l).2 ++ (l.drop (decodeL l).2 ++ m) := by rw [← List.append_assoc, List.take_append_drop]
  rw [e, pc_more l _ hne hg, ih hr, pc_step l hne, List.cons_append]
/-- The first k runes, by themselves. -/
theorem pc_take (l : List UInt8) (h : validD l = true) (k : Nat) : pc ((pc l).take k).flatten = (pc l).take k ∧ validD ((pc l).take k).flatten = true := by
  revert h k
  refine runes (P := fun l => validD l = true → ∀ k, pc ((pc l).take k).flatten = (pc l).take k ∧ validD ((pc l).take k).flatten = true) (fun _ k => by simp [pc_nil, validD_nil]) ?_ l
  intro l hne ih h k
  obtain ⟨hg, hr⟩ := valid_good l hne h
  cases k with
  | zero => simp [pc_nil, validD_nil]
  | succ k =>
    obtain ⟨i1, i2⟩ := ih hr k
    rw [pc_step l hne, List.take_succ_cons, List.flatten_cons]
    exact ⟨by rw [pc_more l _ hne hg, i1], by rw [valid_more l _ hne hg, i2]⟩
/-- What stands behind the first k runes, by itself. -/
theorem pc_drop (l : List UInt8) (k : Nat) : pc ((pc l).drop k).flatten = (pc l).drop k ∧ (validD l = true → validD ((pc l).drop k).flatten = true) := by
  revert k
  refine runes (P := fun l => ∀ k, pc ((pc l).drop k).flatten = (pc l).drop k ∧ (validD l = true → validD ((pc l).drop k).flatten = true)) (fun k => by simp [pc_nil, validD_nil]) ?_ l
  intro l hne ih k
  cases k with
  | zero => rw [List.drop_zero, pc_join]; exact ⟨rfl, id⟩
  | succ k =>
    obtain ⟨i1, i2⟩ := ih k
    rw [pc_step l hne, List.drop_succ_cons]
    exact ⟨i1, fun h => i2 (valid_good l hne h).2⟩

/-- Where the rune at a place begins. -/
def posn (l : List UInt8) (k : Nat) : Nat := ((pc l).take k).flatten.length
theorem posn_nil (k : Nat) : posn [] k = 0 := by simp [posn, pc_nil]
theorem posn_zero (l : List UInt8) : posn l 0 = 0 := by simp [posn]
theorem posn_step (l : List UInt8) (hne : l ≠ []) (k : Nat) : posn l (k + 1) = (decodeL l).2 + posn (l.drop (decodeL l).2) k := by
  unfold posn
  rw [pc_step l hne, List.take_succ_cons, List.flatten_cons, List.length_append, piece_len l hne]
theorem take_posn (l : List UInt8) (k : Nat) : l.take (posn l k) = ((pc l).take k).flatten := by
  have h : ((pc l).take k).flatten ++ ((pc l).drop k).flatten = l := by
    rw [← List.flatten_append, List.take_append_drop, pc_join]
  unfold posn
  exact (congrArg (List.take _) h.symm).trans (List.take_left' rfl)
theorem drop_posn (l : List UInt8) (k : Nat) : l.drop (posn l k) = ((pc l).drop k).flatten := by
  have h : ((pc l).take k).flatten ++ ((pc l).drop k).flatten = l := by
    rw [← List.flatten_append, List.take_append_drop, pc_join]
  unfold posn
  exact (congrArg (List.drop _) h.symm).trans (List.drop_left' rfl)
theorem posn_le (l : List UInt8) (k : Nat) : posn l k ≤ l.length := by
  have h := congrArg List.length (pc_join l)
  have h2 : ((pc l).take k).flatten.length + ((pc l).drop k).flatten.length = (pc l).flatten.length := by
    rw [← List.length_append, ← List.flatten_append, List.take_append_drop]
  unfold posn
  omega
theorem posn_mono (l : List UInt8) {a b : Nat} (h : a ≤ b) : posn l a ≤ posn l b := by
  obtain ⟨d, rfl⟩ := Nat.exists_eq_add_of_le h
  unfold posn
  rw [List.take_add, List.flatten_append, List.length_append]
  omega
/-- The runes from one place on, up to another. -/
def cut (l : List UInt8) (a b : Nat) : List UInt8 := (l.drop (posn l a)).take (posn l b - posn l a)
theorem cut_eq (l : List UInt8) {a b : Nat} (h : a ≤ b) : cut l a b = (((pc l).take b).drop a).flatten := by
  obtain ⟨d, rfl⟩ := Nat.exists_eq_add_of_le h
  have h1 : posn l (a + d) - posn l a = (((pc l).drop a).take d).flatten.length := by
    unfold posn
    rw [List.take_add, List.flatten_append, List.length_append]
    omega
  have h2 : ((pc l).drop a).flatten = (((pc l).drop a).take d).flatten ++ (((pc l).drop a).drop d).flatten := by
    rw [← List.flatten_append, List.take_append_drop]
  unfold cut
  rw [drop_posn, h1, h2, List.take_left' rfl, List.drop_take, Nat.add_sub_cancel_left]

/-! ### quotes -/
def hexd (n : Nat) : UInt8 := if n < 10 then UInt8.ofNat (48 + n) else UInt8.ofNat (87 + n)
/-- How a rune is written behind a backslash; empty: as itself. -/
def esc (r : Nat) : List UInt8 :=
  if r = 34 then [92, 34] else if r = 92 then [92, 92] else if r = 10 then [92, 110] else if r = 13 then [92, 114] else if r = 9 then [92, 116]
  else if r < 32 ∨ r = 127 then [92, 117, 48, 48, hexd (r / 16), hexd (r % 16)] else []
theorem esc_small {r : Nat} (h : esc r ≠ []) : r < 128 := by
  by_cases g : r < 128
  · exact g
  · exact absurd (by unfold esc; repeat' split
                     all_goals first | rfl | omega) h
theorem esc_none {r : Nat} (h : esc r = []) : 32 ≤ r ∧ r ≠ 34 ∧ r ≠ 92 ∧ r ≠ 127 := by
  unfold esc at h
  repeat' split at h
  all_goals first | (cases h; done) | omega
/-- A rune, quoted. -/
def sign (l : List UInt8) : List UInt8 := if esc (decodeL l).1 = [] then l.take (decodeL l).2 else esc (decodeL l).1
def quos : Nat → List UInt8 → List UInt8
  | 0, _ => []
  | n + 1, l => if l = [] then [] else sign l ++ quos n (l.drop (decodeL l).2)
/-- A text, quoted, without the quotes. -/
def quo (l : List UInt8) : List UInt8 := quos l.length l
theorem quos_nil : ∀ n, quos n [] = []
  | 0 => rfl
  | _ + 1 => by simp [quos]
theorem quos_fuel : ∀ (n m : Nat) (l : List UInt8), l.length ≤ n → l.length ≤ m → quos n l = quos m l
  | 0, m, l, hn, _ => by
    have : l = [] := List.eq_nil_of_length_eq_zero (by omega)
    subst this; rw [quos_nil, quos_nil]
  | n + 1, 0, l, _, hm => by
    have : l = [] := List.eq_nil_of_length_eq_zero (by omega)
    subst this; rw [quos_nil, quos_nil]
  | n + 1, m + 1, l, hn, hm => by
    by_cases hne : l = []
    · subst hne; rw [quos_nil, quos_nil]
    · have hw := decodeL_width l
      have hl : 0 < l.length := List.length_pos_iff.2 hne
      simp only [quos, if_neg hne]
      rw [quos_fuel n m _ (by rw [List.length_drop]; omega) (by rw [List.length_drop]; omega)]
theorem quo_nil : quo [] = [] := rfl
theorem quo_step (l : List UInt8) (hne : l ≠ []) : quo l = sign l ++ quo (l.drop (decodeL l).2) := by
  have hw := decodeL_width l
  have hl : 0 < l.length := List.length_pos_iff.2 hne
  unfold quo
  obtain ⟨n, hn⟩ : ∃ n, l.length = n + 1 := ⟨l.length - 1, by omega⟩
  rw [hn]
  simp only [quos, if_neg hne]
  rw [quos_fuel n _ _ (by rw [List.length_drop]; omega) (Nat.le_refl _)]
def quoteL (l : List UInt8) : List UInt8 := 34 :: (quo l ++ [34])
end Qm
end Go.Proofs.YtdmhkibpkcbhaaaDoor
