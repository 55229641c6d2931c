/- What is proved here: plain facts on quoted texts that stand together, on their bytes and their length; conditions: none. It imports nothing of any program but plain facts. -/
import Derived.Test.YtdmhkibpkcbhaaaDoorQn
set_option linter.unusedSimpArgs false
set_option linter.unusedVariables false
namespace Go.Proofs.YtdmhkibpkcbhaaaDoor
namespace Qm
open Go.Lib

theorem sign_more (l m : List UInt8) (hne : l ≠ []) (hv : good l) : sign (l.take (decodeL l).2 ++ m) = sign l := by
  unfold sign
  rw [decode_more l m hne hv, List.take_left' (piece_len l hne)]
theorem quo_app (l m : List UInt8) (h : validD l = true) : quo (l ++ m) = quo l ++ quo m := by
  revert h
  refine runes (P := fun l => validD l = true → quo (l ++ m) = quo l ++ quo m) (fun _ => by simp [quo_nil]) ?_ l
  intro l hne ih h
  obtain ⟨hg, hr⟩ := valid_good l hne h
  show quo (l ++ m) = quo l ++ quo m
  have e : l ++ m = l.take (decodeL l).2 ++ (l.drop (decodeL l).2 ++ m) := by rw [← List.append_assoc, List.take_append_drop]
  rw [e, quo_step _ (app_ne (take_ne l hne)), sign_more l _ hne hg, drop_more l _ hne hg, ih hr, quo_step l hne, List.append_assoc]
theorem valid_app (l m : List UInt8) (h : validD l = true) : validD (l ++ m) = validD m := by
  revert h
  refine runes (P := fun l => validD l = true → validD (l ++ m) = validD m) (fun _ => rfl) ?_ l
  intro l hne ih h
  obtain ⟨hg, hr⟩ := valid_good l hne h
  show validD (l ++ m) = validD m
  have e : l ++ m = l.take (decodeL l).2 ++ (l.drop (decodeL l).2 ++ m) := by rw [← List.append_assoc, List.take_append_drop]
  rw [e, valid_more l _ hne hg, ih hr]
theorem hexd_ascii : ∀ r : Fin 16, (hexd r.val).toNat < 128 ∧ 32 ≤ (hexd r.val).toNat ∧ (hexd r.val).toNat ≠ 127 := by decide
/-- The bytes of what stands behind a backslash. -/
theorem esc_bytes (r : Nat) (h : esc r ≠ []) : ∀ c ∈ esc r, c.toNat < 128 ∧ 32 ≤ c.toNat ∧ c.toNat ≠ 127 := by
  have hr := esc_small h
  have key : ∀ r : Fin 128, ∀ c ∈ esc r.val, c.toNat < 128 ∧ 32 ≤ c.toNat ∧ c.toNat ≠ 127 := by decide
  exact key ⟨r, hr⟩
theorem esc_length (r : Nat) (h : esc r ≠ []) : 2 ≤ (esc r).length ∧ (esc r).length ≤ 6 := by
  rcases esc_form r h with ⟨c, e, _⟩ | ⟨x, y, e, _⟩ <;> rw [e] <;> simp
theorem enc_high (r : Nat) (hr : 128 ≤ r) (hs : Sc r) : ∀ c ∈ encodeRune (r : Int), 128 ≤ c.toNat := by
  obtain ⟨h1, h2⟩ := hs
  intro c hc
  unfold encodeRune at hc
  obtain ⟨z, hz, rfl⟩ := List.mem_map.1 hc
  have hb := encodeRuneZ_byte _ z hz
  rw [byteN z (by omega) (by omega)]
  have : 128 ≤ z := by
    by_cases b : r ≤ 2047
    · rw [encodeRuneZ_two (by omega) (by omega)] at hz
      simp at hz; omega
    by_cases c : r ≤ 65535
    · rw [encodeRuneZ_three (by omega)] at hz
      simp at hz; omega
    · rw [encodeRuneZ_four (by omega) (by omega)] at hz
      simp at hz; omega
  omega
theorem enc_low (r : Nat) (hr : r < 128) : encodeRune (r : Int) = [UInt8.ofNat r] := by
  unfold encodeRune
  rw [encodeRuneZ_one (by omega) (by omega)]
  simp [Nat.toUInt8]
/-- The bytes of a rune, quoted. -/
theorem sign_bytes (l : List UInt8) (hne : l ≠ []) (hv : good l) : ∀ c ∈ sign l, 32 ≤ c.toNat ∧ c.toNat ≠ 127 := by
  unfold sign
  by_cases h : esc (decodeL l).1 = []
  · rw [if_pos h, ← piece l hne hv]
    have he := esc_none h
    intro c hc
    by_cases hr : (decodeL l).1 < 128
    · rw [enc_low _ hr] at hc
      simp at hc
      subst hc
      simp
      omega
    · have := enc_high _ (by omega) (decode_sc l) c hc
      omega
  · rw [if_neg h]
    intro c hc
    exact (esc_bytes _ h c hc).2
theorem quo_bytes (l : List UInt8) (h : validD l = true) : ∀ c ∈ quo l, 32 ≤ c.toNat ∧ c.toNat ≠ 127 := by
  revert h
  refine runes (P := fun l => validD l = true → ∀ c ∈ quo l, 32 ≤ c.toNat ∧ c.toNat ≠ 127) (fun _ c hc => by simp [quo_nil] at hc) ?_ l
  intro l hne ih h c hc
  obtain ⟨hg, hr⟩ := valid_good l hne h
  rw [quo_step l hne] at hc
  rcases List.mem_append.1 hc with hc | hc
  · exact sign_bytes l hne hg c hc
  · exact ih hr c hc
theorem quote_bytes (l : List UInt8) (h : validD l = true) : ∀ c ∈ quoteL l, 32 ≤ c.toNat ∧ c.toNat ≠ 127 := by
  intro c hc
  unfold quoteL at hc
  rcases List.mem_cons.1 hc with rfl | hc
  · decide
  rcases List.mem_append.1 hc with hc | hc
  · exact quo_bytes l h c hc
  · rw [List.mem_singleton.1 hc]; decide
theorem ascii_valid : ∀ (e m : List UInt8), (∀ c ∈ e, c.toNat < 128) → validD (e ++ m) = validD m
  | [], m, _ => rfl
  | c :: t, m, h => by
    rw [List.cons_append, validD_cons c _ (h c (by simp)), ascii_valid t m (fun x hx => h x (by simp [hx]))]
theorem sign_valid (l m : List UInt8) (hne : l ≠ []) (hv : good l) : validD (sign l ++ m) = validD m := by
  unfold sign
  by_cases h : esc (decodeL l).1 = []
  · rw [if_pos h, valid_more l m hne hv]
  · rw [if_neg h]
    exact ascii_valid _ _ (fun c hc => (esc_bytes _ h c hc).1)
theorem quo_valid (l m : List UInt8) (h : validD l = true) : validD (quo l ++ m) = validD m := by
  revert h
  refine runes (P := fun l => validD l = true → validD (quo l ++ m) = validD m) (fun _ => by simp [quo_nil]) ?_ l
  intro l hne ih h
  obtain ⟨hg, hr⟩ := valid_good l hne h
  show validD (quo l ++ m) = validD m
  rw [quo_step l hne, List.append_assoc, sign_valid l _ hne hg, ih hr]
theorem quote_valid (l : List UInt8) (h : validD l = true) : validD (quoteL l) = true := by
  unfold quoteL
  rw [validD_cons 34 _ (by decide), quo_valid l _ h]
  rfl
/-- A byte that stands for itself. -/
def bare (c : UInt8) : Bool := decide (32 ≤ c.toNat) && decide (c.toNat ≠ 34) && decide (c.toNat ≠ 92) && decide (c.toNat ≠ 127)
theorem sign_bare (l : List UInt8) (hne : l ≠ []) (hv : good l) : (l.take (decodeL l).2).all bare = decide (esc (decodeL l).1 = []) := by
  rw [← piece l hne hv]
  by_cases hr : (decodeL l).1 < 128
  · have key : ∀ r : Fin 128, ([UInt8.ofNat r.val].all bare) = decide (esc r.val = []) := by decide
    rw [enc_low _ hr]
    exact key ⟨_, hr⟩
  · have h1 : esc (decodeL l).1 = [] := by
      by_cases g : esc (decodeL l).1 = []
      · exact g
      · exact absurd (esc_small g) hr
    rw [decide_eq_true h1, List.all_eq_true]
    intro c hc
    have := enc_high _ (by omega) (decode_sc l) c hc
    unfold bare
    simp
    omega
theorem quo_len (l : List UInt8) (h : validD l = true) : l.length ≤ (quo l).length ∧ (quo l).length ≤ 6 * l.length ∧ (l.all bare = true ↔ quo l = l) ∧ (l.all bare = false → l.length < (quo l).length) := by
  revert h
  refine runes (P := fun l => validD l = true → l.length ≤ (quo l).length ∧ (quo l).length ≤ 6 * l.length ∧ (l.all bare = true ↔ quo l = l) ∧ (l.all bare = false → l.length < (quo l).length)) (fun _ => by simp [quo_nil]) ?_ l
  intro l hne ih h
  obtain ⟨hg, hr⟩ := valid_good l hne h
  obtain ⟨i1, i2, i3, i4⟩ := ih hr
  have w1 := decodeL_width l
  have w2 := decodeL_le l hne
  rw [List.length_drop] at i1 i2 i4
  have hb := sign_bare l hne hg
  have hall : l.all bare = ((l.take (decodeL l).2).all bare && (l.drop (decodeL l).2).all bare) := by
    rw [← List.all_append, List.take_append_drop]
  show l.length ≤ (quo l).length ∧ (quo l).length ≤ 6 * l.length ∧ (l.all bare = true ↔ quo l = l) ∧ (l.all bare = false → l.length < (quo l).length)
  rw [hall, hb, quo_step l hne, List.length_append]
  by_cases he : esc (decodeL l).1 = []
  · have hs : sign l = l.take (decodeL l).2 := by unfold sign; rw [if_pos he]
    rw [hs, piece_len l hne, decide_eq_true he, Bool.true_and]
    refine ⟨by omega, by omega, ?_, fun g => by have := i4 g; omega⟩
    rw [i3]
    constructor
    · intro g; rw [g, List.take_append_drop]
    · intro g
      have := congrArg (List.drop (decodeL l).2) g
      rwa [List.drop_left' (piece_len l hne)] at this
  · have hs : sign l = esc (decodeL l).1 := by unfold sign; rw [if_neg he]
    have hl := esc_length _ he
    have hw : (decodeL l).2 = 1 := by
      have hr := esc_small he
      have := piece l hne hg
      rw [enc_low _ hr] at this
      have h2 := congrArg List.length this
      rw [piece_len l hne] at h2
      simpa using h2.symm
    rw [hs, decide_eq_false he, Bool.false_and]
    refine ⟨by omega, by omega, ⟨fun g => (by cases g), fun g => ?_⟩, fun _ => by omega⟩
    have := congrArg List.length g
    rw [List.length_append] at this
    omega
theorem quote_len (l : List UInt8) (h : validD l = true) : l.length + 2 ≤ (quoteL l).length ∧ (quoteL l).length ≤ 6 * l.length + 2 ∧ (l.all bare = true ↔ quoteL l = 34 :: (l ++ [34])) := by
  obtain ⟨h1, h2, h3, _⟩ := quo_len l h
  unfold quoteL
  simp only [List.length_cons, List.length_append, List.length_nil]
  refine ⟨by omega, by omega, h3.trans ⟨fun e => by rw [e], fun e => ?_⟩⟩
  have := (List.cons.inj e).2
  exact List.append_cancel_right this
end Qm
end Go.Proofs.YtdmhkibpkcbhaaaDoor
