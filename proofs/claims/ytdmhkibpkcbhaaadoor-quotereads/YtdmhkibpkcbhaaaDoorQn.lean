/- What is proved here: plain facts on how quoted texts are read, and that what was quoted is read as it was; conditions: none. It imports nothing of any program but plain facts. -/
import Derived.Test.YtdmhkibpkcbhaaaDoorQm
set_option linter.unusedSimpArgs false
set_option linter.unusedVariables false
namespace Go.Proofs.YtdmhkibpkcbhaaaDoor
namespace Qm
open Go.Lib

/-! ### reading -/
/-- The worth of a hexadecimal digit. -/
def worth (c : Nat) : Option Nat := if 48 ≤ c ∧ c ≤ 57 then some (c - 48) else if 97 ≤ c ∧ c ≤ 102 then some (c - 87) else if 65 ≤ c ∧ c ≤ 70 then some (c - 55) else none
def digs : List UInt8 → Nat → Option Nat
  | [], n => some n
  | c :: t, n => match worth c.toNat with | none => none | some v => digs t (16 * n + v)
/-- A backslash, u, and four digits. -/
def unitL (l : List UInt8) : Option Nat := if 6 ≤ l.length ∧ l.getD 0 0 = 92 ∧ l.getD 1 0 = 117 then digs ((l.drop 2).take 4) 0 else none
/-- .. or both halves of a rune. -/
def numL (l : List UInt8) : Option (Nat × Nat) :=
  match unitL l with
  | none => none
  | some a => if a < 55296 ∨ 57344 ≤ a then some (a, 6) else
    match unitL (l.drop 6) with
    | none => none
    | some b => if a < 56320 ∧ 56320 ≤ b ∧ b < 57344 then some (65536 + (a - 55296) * 1024 + (b - 56320), 12) else none
def escL (c : Nat) : Option Nat :=
  if c = 34 ∨ c = 92 ∨ c = 47 then some c else if c = 98 then some 8 else if c = 102 then some 12 else if c = 110 then some 10 else if c = 114 then some 13 else if c = 116 then some 9 else none
/-- The rune that is written first, and how many bytes are written for it. -/
def nextL (l : List UInt8) : Option (Nat × Nat) :=
  if l = [] then none
  else if l.getD 0 0 = 92 then
    (if l.length < 2 then none else match escL (l.getD 1 0).toNat with | some r => some (r, 2) | none => numL l)
  else if (decodeL l).1 < 32 ∨ ((decodeL l).1 = 65533 ∧ (decodeL l).2 ≤ 1) then none
  else some (decodeL l)

theorem worth_lt {c v : Nat} (h : worth c = some v) : v < 16 := by
  unfold worth at h
  repeat' split at h
  all_goals first | (cases h; done) | (cases h; omega)
theorem digs_lt : ∀ (l : List UInt8) (n v : Nat), digs l n = some v → v < (n + 1) * 16 ^ l.length
  | [], n, v, h => by simp [digs] at h; subst h; simp
  | c :: t, n, v, h => by
    unfold digs at h
    cases hw : worth c.toNat with
    | none => rw [hw] at h; cases h
    | some x =>
      rw [hw] at h
      have := digs_lt t _ v h
      have hx := worth_lt hw
      have h2 : (16 * n + x + 1) * 16 ^ t.length ≤ (16 * (n + 1)) * 16 ^ t.length := Nat.mul_le_mul_right _ (by omega)
      rw [List.length_cons, Nat.pow_succ, Nat.mul_comm (16 ^ t.length) 16, ← Nat.mul_assoc, Nat.mul_comm (n + 1) 16]
      omega
theorem unit_lt {l : List UInt8} {a : Nat} (h : unitL l = some a) : a < 65536 ∧ 6 ≤ l.length := by
  unfold unitL at h
  split at h
  · rename_i g
    have h1 := digs_lt _ _ _ h
    have h2 : ((l.drop 2).take 4).length = 4 := by rw [List.length_take, List.length_drop]; omega
    rw [h2] at h1
    exact ⟨by omega, g.1⟩
  · cases h
theorem num_ok {l : List UInt8} {r k : Nat} (h : numL l = some (r, k)) : 1 ≤ k ∧ k ≤ l.length ∧ Sc r := by
  unfold numL at h
  cases ha : unitL l with
  | none => rw [ha] at h; cases h
  | some a =>
    rw [ha] at h
    dsimp only at h
    obtain ⟨u1, u2⟩ := unit_lt ha
    split at h
    · rename_i g
      have e1 := congrArg Prod.fst (Option.some.inj h)
      have e2 := congrArg Prod.snd (Option.some.inj h)
      dsimp only at e1 e2
      exact ⟨by omega, by omega, by unfold Sc; omega⟩
    · cases hb : unitL (l.drop 6) with
      | none => rw [hb] at h; cases h
      | some b =>
        rw [hb] at h
        dsimp only at h
        obtain ⟨w1, w2⟩ := unit_lt hb
        rw [List.length_drop] at w2
        split at h
        · rename_i g
          have e1 := congrArg Prod.fst (Option.some.inj h)
          have e2 := congrArg Prod.snd (Option.some.inj h)
          dsimp only at e1 e2
          exact ⟨by omega, by omega, by unfold Sc; omega⟩
        · cases h
theorem esc_sc {c r : Nat} (h : escL c = some r) : Sc r ∧ r < 128 := by
  unfold escL at h
  repeat' split at h
  all_goals first | (cases h; done) | (have e := Option.some.inj h; unfold Sc; omega)
theorem next_ok {l : List UInt8} {r k : Nat} (h : nextL l = some (r, k)) : 1 ≤ k ∧ k ≤ l.length ∧ Sc r := by
  unfold nextL at h
  split at h
  · cases h
  · rename_i hne
    split at h
    · split at h
      · cases h
      · rename_i hl
        cases he : escL (l.getD 1 0).toNat with
        | some x =>
          rw [he] at h
          cases h
          exact ⟨by omega, by omega, (esc_sc he).1⟩
        | none => rw [he] at h; exact num_ok h
    · split at h
      · cases h
      · have e1 := congrArg Prod.fst (Option.some.inj h)
        have e2 := congrArg Prod.snd (Option.some.inj h)
        dsimp only at e1 e2
        subst e1; subst e2
        exact ⟨decodeL_width l, decodeL_le l hne, decode_sc l⟩

/-- The text that is read up to the quote, and how many bytes are written for it, with the quote. -/
def unqs : Nat → List UInt8 → Option (List UInt8 × Nat)
  | 0, _ => none
  | n + 1, l => if l.getD 0 0 = 34 then some ([], 1) else
    match nextL l with
    | none => none
    | some (r, k) => match unqs n (l.drop k) with | none => none | some (t, m) => some (encodeRune (r : Int) ++ t, k + m)
def unq (l : List UInt8) : Option (List UInt8 × Nat) := unqs l.length l
theorem next_nil : nextL [] = none := rfl
theorem unqs_nil : ∀ n, unqs n [] = none
  | 0 => rfl
  | _ + 1 => by simp [unqs, next_nil]
theorem unqs_fuel : ∀ (n m : Nat) (l : List UInt8), l.length ≤ n → l.length ≤ m → unqs n l = unqs m l
  | 0, m, l, hn, _ => by
    have : l = [] := List.eq_nil_of_length_eq_zero (by omega)
    subst this; rw [unqs_nil, unqs_nil]
  | n + 1, 0, l, _, hm => by
    have : l = [] := List.eq_nil_of_length_eq_zero (by omega)
    subst this; rw [unqs_nil, unqs_nil]
  | n + 1, m + 1, l, hn, hm => by
    unfold unqs
    cases hx : nextL l with
    | none => rfl
    | some p =>
      obtain ⟨r, k⟩ := p
      have := next_ok hx
      dsimp only
      rw [unqs_fuel n m _ (by rw [List.length_drop]; omega) (by rw [List.length_drop]; omega)]
theorem unq_nil : unq [] = none := rfl
theorem unq_end (l : List UInt8) (h : l.getD 0 0 = 34) : unq l = some ([], 1) := by
  cases l with
  | nil => simp at h
  | cons c t => unfold unq; simp only [List.length_cons, unqs]; rw [if_pos h]
theorem unq_none (l : List UInt8) (h : l.getD 0 0 ≠ 34) (hx : nextL l = none) : unq l = none := by
  cases l with
  | nil => rfl
  | cons c t => unfold unq; simp only [List.length_cons, unqs]; rw [if_neg h, hx]
theorem unq_step (l : List UInt8) (h : l.getD 0 0 ≠ 34) {r k : Nat} (hx : nextL l = some (r, k)) :
    unq l = match unq (l.drop k) with | none => none | some (t, m) => some (encodeRune (r : Int) ++ t, k + m) := by
  cases l with
  | nil => cases hx
  | cons c t =>
    have := next_ok hx
    unfold unq
    simp only [List.length_cons, unqs]
    rw [if_neg h, hx]
    dsimp only
    rw [unqs_fuel t.length _ _ (by rw [List.length_drop, List.length_cons] at *; omega) (Nat.le_refl _)]

/-- What Unquote tells of what stands behind the first quote: the text, how many bytes with both quotes, the error. -/
def unquoteL (l : List UInt8) : List UInt8 × Nat × Nat :=
  if l.getD 0 0 = 34 then
    match unq (l.drop 1) with
    | none => ([], 0, 6)
    | some (t, m) => if 4096 < t.length then ([], 0, 3) else (t, m + 1, 0)
  else ([], 0, 6)

/-- What is read is UTF-8, and is no longer than what it is read of. -/
theorem unq_valid : ∀ (n : Nat) (l : List UInt8), l.length ≤ n → ∀ t m, unq l = some (t, m) → validD t = true ∧ 1 ≤ m ∧ m ≤ l.length
  | 0, l, hn, t, m, h => by
    have : l = [] := List.eq_nil_of_length_eq_zero (by omega)
    subst this; cases h
  | n + 1, l, hn, t, m, h => by
    by_cases hq : l.getD 0 0 = 34
    · rw [unq_end l hq] at h
      cases h
      refine ⟨rfl, Nat.le_refl _, ?_⟩
      cases l with
      | nil => simp at hq
      | cons c u => simp
    · cases hx : nextL l with
      | none => rw [unq_none l hq hx] at h; cases h
      | some p =>
        obtain ⟨r, k⟩ := p
        obtain ⟨k1, k2, k3⟩ := next_ok hx
        rw [unq_step l hq hx] at h
        cases hu : unq (l.drop k) with
        | none => rw [hu] at h; cases h
        | some q =>
          obtain ⟨t', m'⟩ := q
          rw [hu] at h
          cases h
          obtain ⟨v1, v2, v3⟩ := unq_valid n (l.drop k) (by rw [List.length_drop]; omega) t' m' hu
          rw [List.length_drop] at v3
          exact ⟨by rw [valid_enc r k3]; exact v1, by omega, by omega⟩

/-! ### what was quoted -/
theorem esc_form (r : Nat) (h : esc r ≠ []) : (∃ c, esc r = [92, c] ∧ escL c.toNat = some r) ∨ (∃ x y, esc r = [92, 117, 48, 48, x, y] ∧ digs [48, 48, x, y] 0 = some r ∧ r < 55296 ∧ escL (117 : UInt8).toNat = none) := by
  have hr := esc_small h
  unfold esc at h ⊢
  split
  · rename_i e; subst e; exact .inl ⟨34, rfl, by decide⟩
  split
  · rename_i e; subst e; exact .inl ⟨92, rfl, by decide⟩
  split
  · rename_i e; subst e; exact .inl ⟨110, rfl, by decide⟩
  split
  · rename_i e; subst e; exact .inl ⟨114, rfl, by decide⟩
  split
  · rename_i e; subst e; exact .inl ⟨116, rfl, by decide⟩
  split
  · refine .inr ⟨_, _, rfl, ?_, by omega, by decide⟩
    have key : ∀ r : Fin 128, digs [48, 48, hexd (r.val / 16), hexd (r.val % 16)] 0 = some r.val := by decide
    exact key ⟨r, hr⟩
  · rename_i e1 e2 e3 e4 e5 e6
    exact absurd (by simp [e1, e2, e3, e4, e5, e6]) h
theorem next_esc (r : Nat) (h : esc r ≠ []) (m : List UInt8) : nextL (esc r ++ m) = some (r, (esc r).length) := by
  rcases esc_form r h with ⟨c, e, hc⟩ | ⟨x, y, e, hd, hr, hu⟩
  · rw [e]
    simp only [List.cons_append, List.nil_append]
    unfold nextL
    rw [if_neg (by simp), if_pos (by simp), if_neg (by simp)]
    simp only [List.getD_cons_succ, List.getD_cons_zero]
    rw [hc]
    rfl
  · rw [e]
    simp only [List.cons_append, List.nil_append]
    have hun : unitL (92 :: 117 :: 48 :: 48 :: x :: y :: m) = some r := by
      unfold unitL
      rw [if_pos ⟨by simp, by simp, by simp⟩]
      exact hd
    unfold nextL
    rw [if_neg (by simp), if_pos (by simp), if_neg (by simp)]
    simp only [List.getD_cons_succ, List.getD_cons_zero]
    rw [hu]
    dsimp only
    unfold numL
    rw [hun]
    dsimp only
    rw [if_pos (.inl hr)]
    rfl
theorem head_esc (r : Nat) (h : esc r ≠ []) (m : List UInt8) : (esc r ++ m).getD 0 0 = 92 := by
  rcases esc_form r h with ⟨c, e, hc⟩ | ⟨x, y, e, hd, hr, hu⟩ <;> rw [e] <;> simp
theorem head_ascii (l : List UInt8) (hne : l ≠ []) (h : (l.getD 0 0).toNat < 128) : (decodeL l).1 = (l.getD 0 0).toNat := by
  cases l with
  | nil => exact absurd rfl hne
  | cons c t => rw [decodeL_ascii c t h]; simp
theorem head_more (l m : List UInt8) (hne : l ≠ []) : (l.take (decodeL l).2 ++ m).getD 0 0 = l.getD 0 0 := by
  cases l with
  | nil => exact absurd rfl hne
  | cons c t =>
    have := decodeL_width (c :: t)
    obtain ⟨k, hk⟩ : ∃ k, (decodeL (c :: t)).2 = k + 1 := ⟨(decodeL (c :: t)).2 - 1, by omega⟩
    rw [hk]
    simp
theorem head_plain (l : List UInt8) (hne : l ≠ []) (h : esc (decodeL l).1 = []) : l.getD 0 0 ≠ 34 ∧ l.getD 0 0 ≠ 92 := by
  have e := esc_none h
  constructor
  · intro g
    have := head_ascii l hne (by rw [g]; decide)
    rw [g] at this
    have h2 : (34 : UInt8).toNat = 34 := by decide
    omega
  · intro g
    have := head_ascii l hne (by rw [g]; decide)
    rw [g] at this
    have h2 : (92 : UInt8).toNat = 92 := by decide
    omega
theorem next_plain (l m : List UInt8) (hne : l ≠ []) (hv : good l) (h : esc (decodeL l).1 = []) : nextL (l.take (decodeL l).2 ++ m) = some (decodeL l) := by
  have hp := head_plain l hne h
  have he := esc_none h
  unfold nextL
  rw [if_neg (app_ne (take_ne l hne)), head_more l m hne, if_neg hp.2, decode_more l m hne hv, if_neg ?_]
  intro g
  rcases g with g | g
  · omega
  · have := decodeL_width l
    exact hv ⟨g.1, by omega⟩
theorem sign_head (l m : List UInt8) (hne : l ≠ []) : (sign l ++ m).getD 0 0 ≠ 34 := by
  unfold sign
  by_cases h : esc (decodeL l).1 = []
  · rw [if_pos h, head_more l m hne]; exact (head_plain l hne h).1
  · rw [if_neg h, head_esc _ h]; decide
theorem sign_next (l m : List UInt8) (hne : l ≠ []) (hv : good l) : nextL (sign l ++ m) = some ((decodeL l).1, (sign l).length) := by
  unfold sign
  by_cases h : esc (decodeL l).1 = []
  · rw [if_pos h, next_plain l m hne hv h, piece_len l hne]
  · rw [if_neg h, next_esc _ h]
/-- What was quoted is read as it was, whatever stands behind it. -/
theorem unq_quo (l m : List UInt8) (h : validD l = true) : unq (quo l ++ 34 :: m) = some (l, (quo l).length + 1) := by
  revert h
  refine runes (P := fun l => validD l = true → unq (quo l ++ 34 :: m) = some (l, (quo l).length + 1)) (fun _ => unq_end _ (by simp [quo_nil])) ?_ l
  intro l hne ih h
  obtain ⟨hg, hr⟩ := valid_good l hne h
  show unq (quo l ++ 34 :: m) = some (l, (quo l).length + 1)
  rw [quo_step l hne, List.append_assoc, unq_step _ (sign_head l _ hne) (sign_next l _ hne hg), List.drop_left' rfl, ih hr]
  dsimp only
  rw [piece l hne hg, List.take_append_drop, List.length_append, Nat.add_assoc]
theorem unquote_quote (l m : List UInt8) (h : validD l = true) (hl : l.length ≤ 4096) : unquoteL (quoteL l ++ m) = (l, (quoteL l).length, 0) := by
  unfold unquoteL quoteL
  rw [if_pos (by simp)]
  simp only [List.cons_append, List.drop_succ_cons, List.drop_zero, List.append_assoc, List.nil_append]
  rw [unq_quo l m h]
  dsimp only
  rw [if_neg (by omega)]
  simp

/-! ### what was quoted, and is cut -/
theorem esc_cut (r : Nat) (h : esc r ≠ []) (n : Nat) (hn : n < (esc r).length) : nextL ((esc r).take n) = none := by
  rcases esc_form r h with ⟨c, e, hc⟩ | ⟨x, y, e, hd, hr, hu⟩
  · rw [e] at hn ⊢
    match n, hn with
    | 0, _ => rfl
    | 1, _ => rfl
    | n + 2, hn => exact absurd hn (by simp only [List.length_cons, List.length_nil]; omega)
  · rw [e] at hn ⊢
    have key : ∀ t : List UInt8, t.length < 4 → nextL (92 :: 117 :: t) = none := by
      intro t ht
      unfold nextL
      rw [if_neg (by simp), if_pos (by simp), if_neg (by simp)]
      simp only [List.getD_cons_succ, List.getD_cons_zero]
      rw [hu]
      dsimp only
      unfold numL unitL
      rw [if_neg (by simp; omega)]
    match n, hn with
    | 0, _ => rfl
    | 1, _ => rfl
    | n + 2, hn => 
      simp only [List.take_succ_cons]
      refine key _ ?_
      rw [List.length_take]
      simp at hn ⊢
      omega
set_option maxRecDepth 100000 in
set_option maxHeartbeats 4000000 in
theorem plain_cut (l : List UInt8) (hne : l ≠ []) (hv : good l) (h : esc (decodeL l).1 = []) (n : Nat) (hn : n < (decodeL l).2) : nextL (l.take n) = none := by
  by_cases h0 : n = 0
  · subst h0; rfl
  have hp := head_plain l hne h
  have hh : (l.take n).getD 0 0 = l.getD 0 0 := by
    cases l with
    | nil => exact absurd rfl hne
    | cons c t =>
      obtain ⟨k, rfl⟩ : ∃ k, n = k + 1 := ⟨n - 1, by omega⟩
      simp
  have hle := decodeL_le l hne
  have hlen : (l.take n).length = n := by rw [List.length_take]; omega
  have hne2 : l.take n ≠ [] := by
    intro e
    rw [e] at hlen
    simp at hlen
    omega
  have hd : decodeL (l.take n) = (65533, 1) := by
    rw [decodeL_N, hh, hlen]
    rw [decodeL_N] at hn
    have k0 := (l.getD 0 0).toNat_lt
    generalize ((l.take n).getD 1 0).toNat = c1
    generalize ((l.take n).getD 2 0).toNat = c2
    generalize ((l.take n).getD 3 0).toNat = c3
    rcases decodeN_shape l.length (l.getD 0 0).toNat (l.getD 1 0).toNat (l.getD 2 0).toNat (l.getD 3 0).toNat with ⟨c, e⟩ | ⟨c1, c2, c3, cv, e⟩ | ⟨c1, c2, c3, c4, cv, cs, e⟩ | ⟨c1, c2, c3, c4, c5, cv, cw, e⟩ | e
    all_goals (rw [e] at hn; dsimp only at hn)
    all_goals (try (exfalso; omega))
    all_goals (unfold decodeN; repeat' split)
    all_goals first | rfl | (exfalso; omega)
  unfold nextL
  rw [if_neg hne2, hh, if_neg hp.2, hd, if_pos (.inr ⟨rfl, Nat.le_refl _⟩)]
theorem sign_cut (l : List UInt8) (hne : l ≠ []) (hv : good l) (n : Nat) (hn : n < (sign l).length) : nextL ((sign l).take n) = none := by
  unfold sign at hn ⊢
  by_cases h : esc (decodeL l).1 = []
  · rw [if_pos h] at hn ⊢
    rw [piece_len l hne] at hn
    rw [List.take_take, Nat.min_eq_left (by omega)]
    exact plain_cut l hne hv h n hn
  · rw [if_neg h] at hn ⊢
    exact esc_cut _ h n hn
theorem take_head (a : List UInt8) (n : Nat) (h : a.getD 0 0 ≠ 34) : (a.take n).getD 0 0 ≠ 34 := by
  cases n with
  | zero => simp
  | succ n =>
    cases a with
    | nil => simp
    | cons c t => simpa using h
theorem unq_cut (l : List UInt8) (h : validD l = true) (n : Nat) (hn : n < (quo l).length + 1) : unq ((quo l ++ [34]).take n) = none := by
  revert h n
  refine runes (P := fun l => validD l = true → ∀ n, n < (quo l).length + 1 → unq ((quo l ++ [34]).take n) = none) (fun _ n hn => ?_) ?_ l
  · have : n = 0 := by simp [quo_nil] at hn; omega
    subst this; rfl
  intro l hne ih h n hn
  obtain ⟨hg, hr⟩ := valid_good l hne h
  have hh := sign_head l [] hne
  rw [List.append_nil] at hh
  rw [quo_step l hne, List.length_append] at hn
  rw [quo_step l hne, List.append_assoc, List.take_append]
  by_cases hc : n < (sign l).length
  · rw [show n - (sign l).length = 0 by omega, List.take_zero, List.append_nil]
    exact unq_none _ (take_head _ _ hh) (sign_cut l hne hg n hc)
  · rw [List.take_of_length_le (by omega), unq_step _ (sign_head l _ hne) (sign_next l _ hne hg), List.drop_left' rfl, ih hr _ (by omega)]
theorem unquote_cut (l : List UInt8) (h : validD l = true) (n : Nat) (hn : n < (quoteL l).length) : unquoteL ((quoteL l).take n) = ([], 0, 6) := by
  unfold quoteL at hn ⊢
  simp only [List.length_cons, List.length_append, List.length_nil] at hn
  cases n with
  | zero => rfl
  | succ n =>
    unfold unquoteL
    rw [List.take_succ_cons, if_pos (by simp), List.drop_succ_cons, List.drop_zero, unq_cut l h n (by omega)]
end Qm
end Go.Proofs.YtdmhkibpkcbhaaaDoor
