/- What is proved here: plain facts on how the document's own answer reads a rune, byte by byte, and quotes a text; conditions: none. It imports nothing of any program but plain facts. -/
import Derived.Test.YtdmhkibpkcbhaaaDoorQq
set_option linter.unusedSimpArgs false
set_option linter.unusedVariables false
namespace Go.Proofs.YtdmhkibpkcbhaaaDoor
namespace Qm
open Go.Lib

/-- The rune that stands first, and its bytes; none: 0, 0. -/
def runeV (l : List UInt8) : Nat × Nat := if (decodeL l).1 = 65533 ∧ (decodeL l).2 = 1 then (0, 0) else decodeL l
/-- A first byte of a longer rune: so many bytes, the least such rune, what the byte is worth. -/
def lead (c n least x : Nat) : Prop := (194 ≤ c ∧ c < 224 ∧ n = 2 ∧ least = 128 ∧ x = c - 192) ∨ (224 ≤ c ∧ c < 240 ∧ n = 3 ∧ least = 2048 ∧ x = c - 224) ∨ (240 ≤ c ∧ c < 245 ∧ n = 4 ∧ least = 65536 ∧ x = c - 240)
/-- What the first byte and the k behind it are worth. -/
def valX (l : List UInt8) (x : Nat) : Nat → Nat
  | 0 => x
  | k + 1 => 64 * valX l x k + (l.getD (k + 1) 0).toNat - 128

theorem runeV_ascii (l : List UInt8) (h : (l.getD 0 0).toNat < 128) : runeV l = ((l.getD 0 0).toNat, 1) := by
  unfold runeV
  rw [decodeL_N]
  unfold decodeN
  rw [if_pos h, if_neg (by dsimp only; omega)]
theorem runeV_of {l : List UInt8} {a b : Nat} (h : decodeN l.length (l.getD 0 0).toNat (l.getD 1 0).toNat (l.getD 2 0).toNat (l.getD 3 0).toNat = (a, b)) (hn : ¬ (a = 65533 ∧ b = 1)) : runeV l = (a, b) := by
  unfold runeV
  rw [decodeL_N, h, if_neg hn]
theorem runeV_bad {l : List UInt8} (h : decodeN l.length (l.getD 0 0).toNat (l.getD 1 0).toNat (l.getD 2 0).toNat (l.getD 3 0).toNat = (65533, 1)) : runeV l = (0, 0) := by
  unfold runeV
  rw [decodeL_N, h, if_pos ⟨rfl, rfl⟩]
theorem runeV_none (l : List UInt8) (h0 : ¬ (l.getD 0 0).toNat < 128) (h1 : ¬ (194 ≤ (l.getD 0 0).toNat ∧ (l.getD 0 0).toNat < 245)) : runeV l = (0, 0) := by
  apply runeV_bad
  have k0 := (l.getD 0 0).toNat_lt
  have k1 := (l.getD 1 0).toNat_lt
  have k2 := (l.getD 2 0).toNat_lt
  have k3 := (l.getD 3 0).toNat_lt
  rcases decodeN_shape l.length (l.getD 0 0).toNat (l.getD 1 0).toNat (l.getD 2 0).toNat (l.getD 3 0).toNat with ⟨c, e⟩ | ⟨c1, c2, c3, cv, e⟩ | ⟨c1, c2, c3, c4, cv, cs, e⟩ | ⟨c1, c2, c3, c4, c5, cv, cw, e⟩ | e
  all_goals first | exact e | (exfalso; omega)
theorem runeV_short (l : List UInt8) {n least x : Nat} (hl : lead (l.getD 0 0).toNat n least x) (h : l.length < n) : runeV l = (0, 0) := by
  apply runeV_bad
  unfold lead at hl
  rcases decodeN_shape l.length (l.getD 0 0).toNat (l.getD 1 0).toNat (l.getD 2 0).toNat (l.getD 3 0).toNat with ⟨c, e⟩ | ⟨c1, c2, c3, cv, e⟩ | ⟨c1, c2, c3, c4, cv, cs, e⟩ | ⟨c1, c2, c3, c4, c5, cv, cw, e⟩ | e
  all_goals first | exact e | (exfalso; omega)
theorem runeV_cont (l : List UInt8) {n least x : Nat} (hl : lead (l.getD 0 0).toNat n least x) (k : Nat) (hk : 1 ≤ k) (hkn : k < n) (h : ¬ (128 ≤ (l.getD k 0).toNat ∧ (l.getD k 0).toNat < 192)) : runeV l = (0, 0) := by
  apply runeV_bad
  unfold lead at hl
  have h3 : k = 1 ∨ k = 2 ∨ k = 3 := by omega
  rcases decodeN_shape l.length (l.getD 0 0).toNat (l.getD 1 0).toNat (l.getD 2 0).toNat (l.getD 3 0).toNat with ⟨c, e⟩ | ⟨c1, c2, c3, cv, e⟩ | ⟨c1, c2, c3, c4, cv, cs, e⟩ | ⟨c1, c2, c3, c4, c5, cv, cw, e⟩ | e
  all_goals rcases h3 with rfl | rfl | rfl
  all_goals first | exact e | (exfalso; omega)
set_option maxRecDepth 100000 in
/-- All bytes are as they should: what they are worth. -/
theorem runeV_end (l : List UInt8) {n least x : Nat} (hl : lead (l.getD 0 0).toNat n least x) (hn : n ≤ l.length) (h : ∀ k, 1 ≤ k → k < n → 128 ≤ (l.getD k 0).toNat ∧ (l.getD k 0).toNat < 192) :
    ((valX l x (n - 1) < least ∨ 1114111 < valX l x (n - 1) ∨ (55296 ≤ valX l x (n - 1) ∧ valX l x (n - 1) < 57344)) → runeV l = (0, 0)) ∧
    (¬ (valX l x (n - 1) < least ∨ 1114111 < valX l x (n - 1) ∨ (55296 ≤ valX l x (n - 1) ∧ valX l x (n - 1) < 57344)) → runeV l = (valX l x (n - 1), n)) := by
  unfold lead at hl
  rcases hl with ⟨a1, a2, rfl, rfl, rfl⟩ | ⟨a1, a2, rfl, rfl, rfl⟩ | ⟨a1, a2, rfl, rfl, rfl⟩
  · have b1 := h 1 (by omega) (by omega)
    have e : valX l ((l.getD 0 0).toNat - 192) 1 = (l.getD 0 0).toNat % 32 * 64 + (l.getD 1 0).toNat % 64 := by
      show 64 * ((l.getD 0 0).toNat - 192) + (l.getD 1 0).toNat - 128 = _
      omega
    have e2 : decodeN l.length (l.getD 0 0).toNat (l.getD 1 0).toNat (l.getD 2 0).toNat (l.getD 3 0).toNat = ((l.getD 0 0).toNat % 32 * 64 + (l.getD 1 0).toNat % 64, 2) := by
      unfold decodeN
      rw [if_neg (by omega), if_pos (by omega), if_pos (by omega)]
    rw [show 2 - 1 = 1 from rfl, e]
    refine ⟨fun g => by exfalso; omega, fun g => runeV_of e2 (by omega)⟩
  · have b1 := h 1 (by omega) (by omega)
    have b2 := h 2 (by omega) (by omega)
    have e : valX l ((l.getD 0 0).toNat - 224) 2 = (l.getD 0 0).toNat % 16 * 4096 + (l.getD 1 0).toNat % 64 * 64 + (l.getD 2 0).toNat % 64 := by
      show 64 * (64 * ((l.getD 0 0).toNat - 224) + (l.getD 1 0).toNat - 128) + (l.getD 2 0).toNat - 128 = _
      omega
    rw [show 3 - 1 = 2 from rfl, e]
    refine ⟨fun g => runeV_bad ?_, fun g => runeV_of ?_ (by omega)⟩
    · unfold decodeN
      rw [if_neg (by omega), if_neg (by omega), if_pos (by omega), if_neg (by omega)]
    · unfold decodeN
      rw [if_neg (by omega), if_neg (by omega), if_pos (by omega), if_pos (by omega)]
  · have b1 := h 1 (by omega) (by omega)
    have b2 := h 2 (by omega) (by omega)
    have b3 := h 3 (by omega) (by omega)
    have e : valX l ((l.getD 0 0).toNat - 240) 3 = (l.getD 0 0).toNat % 8 * 262144 + (l.getD 1 0).toNat % 64 * 4096 + (l.getD 2 0).toNat % 64 * 64 + (l.getD 3 0).toNat % 64 := by
      show 64 * (64 * (64 * ((l.getD 0 0).toNat - 240) + (l.getD 1 0).toNat - 128) + (l.getD 2 0).toNat - 128) + (l.getD 3 0).toNat - 128 = _
      omega
    rw [show 4 - 1 = 3 from rfl, e]
    refine ⟨fun g => runeV_bad ?_, fun g => runeV_of ?_ (by omega)⟩
    · unfold decodeN
      rw [if_neg (by omega), if_neg (by omega), if_neg (by omega), if_pos (by omega), if_neg (by omega)]
    · unfold decodeN
      rw [if_neg (by omega), if_neg (by omega), if_neg (by omega), if_pos (by omega), if_pos (by omega)]
theorem valX_lt (l : List UInt8) {n least x : Nat} (hl : lead (l.getD 0 0).toNat n least x) : ∀ k, k < n → valX l x k < 33554432
  | 0, _ => by
    unfold lead at hl
    show x < 33554432
    omega
  | 1, _ => by
    have k1 := (l.getD 1 0).toNat_lt
    unfold lead at hl
    show 64 * x + (l.getD 1 0).toNat - 128 < 33554432
    omega
  | 2, _ => by
    have k1 := (l.getD 1 0).toNat_lt
    have k2 := (l.getD 2 0).toNat_lt
    unfold lead at hl
    show 64 * (64 * x + (l.getD 1 0).toNat - 128) + (l.getD 2 0).toNat - 128 < 33554432
    omega
  | 3, _ => by
    have k1 := (l.getD 1 0).toNat_lt
    have k2 := (l.getD 2 0).toNat_lt
    have k3 := (l.getD 3 0).toNat_lt
    unfold lead at hl
    show 64 * (64 * (64 * x + (l.getD 1 0).toNat - 128) + (l.getD 2 0).toNat - 128) + (l.getD 3 0).toNat - 128 < 33554432
    omega
  | k + 4, h => by unfold lead at hl; omega

theorem runeV_width (l : List UInt8) : ((runeV l).2 = 0 ∧ ¬ good l ∧ (runeV l).1 = 0 ∧ (decodeL l).2 = 1) ∨ (1 ≤ (runeV l).2 ∧ good l ∧ runeV l = decodeL l) := by
  unfold runeV good
  have hw := decodeL_width l
  by_cases h : (decodeL l).1 = 65533 ∧ (decodeL l).2 = 1
  · rw [if_pos h]; exact .inl ⟨rfl, fun g => g h, rfl, h.2⟩
  · rw [if_neg h]; exact .inr ⟨hw, h, rfl⟩
/-- So many bytes has what stands first, be it a rune or not. -/
theorem runeV_max (l : List UInt8) : max (runeV l).2 1 = (decodeL l).2 := by
  rcases runeV_width l with ⟨h1, _, _, h2⟩ | ⟨h1, _, h2⟩
  · rw [h1, h2]; rfl
  · rw [← h2]; omega

/-! ### quoted byte by byte -/
def escB (c : UInt8) : List UInt8 := if esc c.toNat = [] then [c] else esc c.toNat
theorem escB_high (c : UInt8) (h : 128 ≤ c.toNat) : escB c = [c] := by
  unfold escB
  by_cases g : esc c.toNat = []
  · rw [if_pos g]
  · have := esc_small g; omega
theorem flat_high : ∀ (l : List UInt8), (∀ c ∈ l, 128 ≤ c.toNat) → l.flatMap escB = l
  | [], _ => rfl
  | c :: t, h => by
    rw [List.flatMap_cons, escB_high c (h c (by simp)), flat_high t (fun x hx => h x (by simp [hx]))]
    rfl
theorem quo_flat (l : List UInt8) (h : validD l = true) : quo l = l.flatMap escB := by
  revert h
  refine runes (P := fun l => validD l = true → quo l = l.flatMap escB) (fun _ => rfl) ?_ l
  intro l hne ih h
  obtain ⟨hg, hr⟩ := valid_good l hne h
  have hp := piece l hne hg
  have e : l = encodeRune ((decodeL l).1 : Int) ++ l.drop (decodeL l).2 := by rw [hp, List.take_append_drop]
  rw [quo_step l hne, ih hr]
  refine Eq.trans ?_ (congrArg (List.flatMap escB) e).symm
  rw [List.flatMap_append]
  congr 1
  unfold sign
  by_cases g : (decodeL l).1 < 128
  · rw [enc_low _ g]
    have hb : (UInt8.ofNat (decodeL l).1).toNat = (decodeL l).1 := by simp; omega
    rw [List.flatMap_cons, List.flatMap_nil, List.append_nil]
    unfold escB
    rw [hb, ← hp, enc_low _ g]
  · have hx : esc (decodeL l).1 = [] := by
      by_cases g2 : esc (decodeL l).1 = []
      · exact g2
      · exact absurd (esc_small g2) g
    rw [if_pos hx, ← hp, flat_high _ (enc_high _ (by omega) (decode_sc l))]
end Qm
end Go.Proofs.YtdmhkibpkcbhaaaDoor
