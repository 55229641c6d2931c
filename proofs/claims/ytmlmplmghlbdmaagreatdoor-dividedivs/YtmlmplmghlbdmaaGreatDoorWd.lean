/- What is proved here: what exponent of package dec does at every text; conditions: the text is no longer than a text may be. -/
import Derived.Test.YtmlmplmghlbdmaaGreatDoorWc
namespace Go.Proofs.YtmlmplmghlbdmaaGreatDoor
open Go.RowKit
set_option linter.unusedVariables false
set_option linter.unusedSimpArgs false

theorem expL_no {c : UInt8} {t : List UInt8} (h : c ≠ 101 ∧ c ≠ 69) : Dm.expL (c :: t) = none := by
  simp only [Dm.expL, if_pos h]
theorem natne {c : UInt8} (n : Nat) (hn : n < 256) (h : c ≠ UInt8.ofNat n) : ¬ (c.toNat : Int) = (n : Int) := by
  intro e
  apply h
  apply UInt8.toNat_inj.1
  rw [UInt8.toNat_ofNat_of_lt' (by simpa using hn)]
  omega
set_option maxRecDepth 100000 in
set_option maxHeartbeats 1000000 in
theorem exponent_any (s : ByteArray) (w : World) (hs : s.size ≤ maxLen) :
    Calls Tryz.prog 98 #[.string s] w fun e w' => e = .returned (.tuple #[.int .i64 ((Dm.expL s.data.toList).getD 0), .bool (Dm.expL s.data.toList).isSome]) ∧ Below w.heap.size w w' := by
  cases hl : s.data.toList with
  | nil =>
    have h0 : s.toList.isEmpty = true := by rw [toList_eq, hl]; rfl
    clear hl
    go_enter Tryz.func98, Tryz.ntmps98
    go_wp2
    go_ret2
    exact ⟨rfl, Below.refl _ _⟩
  | cons c t =>
    by_cases hc : c = 101 ∨ c = 69
    · by_cases h1 : t.head? = some 45
      · obtain ⟨u, rfl⟩ : ∃ u, t = 45 :: u := by
          cases t with
          | nil => simp at h1
          | cons d u => simp at h1; exact ⟨u, by rw [h1]⟩
        rw [expL_minus hc]; exact exponent_minus s w c u hl hc hs
      · by_cases h2 : t.head? = some 43
        · obtain ⟨u, rfl⟩ : ∃ u, t = 43 :: u := by
            cases t with
            | nil => simp at h2
            | cons d u => simp at h2; exact ⟨u, by rw [h2]⟩
          rw [expL_plus hc]; exact exponent_plus s w c u hl hc hs
        · rw [expL_bare hc h1 h2]; exact exponent_bare s w c t hl h1 h2 hc hs
    · have hn : c ≠ 101 ∧ c ≠ 69 := ⟨fun e => hc (.inl e), fun e => hc (.inr e)⟩
      rw [expL_no hn]
      have h0 : s.toList.isEmpty = false := by rw [toList_eq, hl]; rfl
      have b0 : 0 < s.size := by rw [size_len, hl]; simp
      have e0 : s[0]'b0 = c := by rw [ba_get _ _ b0]; simp [hl]
      have e1 : ¬ ((s[0]'b0).toNat : Int) = 101 := by rw [e0]; exact natne 101 (by omega) hn.1
      have e2 : ¬ ((s[0]'b0).toNat : Int) = 69 := by rw [e0]; exact natne 69 (by omega) hn.2
      have g1 : (((s[0]'b0).toNat : Int) != 101) = true := bne_iff_ne.2 e1
      have g2 : (((s[0]'b0).toNat : Int) != 69) = true := bne_iff_ne.2 e2
      clear e0 hl
      clear hc hn
      go_enter Tryz.func98, Tryz.ntmps98
      go_wp2
      go_ret2
      exact ⟨rfl, Below.refl _ _⟩
end Go.Proofs.YtmlmplmghlbdmaaGreatDoor
