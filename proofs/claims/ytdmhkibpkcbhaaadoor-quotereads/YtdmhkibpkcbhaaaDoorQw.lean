/- What is proved here: what the document's own Cut answers, walked; condition: the text has at most 2^40 bytes. -/
import Derived.Test.YtdmhkibpkcbhaaaDoorQv
namespace Go.Proofs.YtdmhkibpkcbhaaaDoor
open Go.RowKit
set_option linter.unusedVariables false
set_option linter.unusedSimpArgs false

/-- The same runes, with both places held within the text first. -/
theorem cut_ref (l : List UInt8) (A B n f t : Nat) (hn : (Qm.pc l).length = n) (hf : min A n = f) (ht : min (max B f) n = t) : Qm.cut l A (max B A) = (((Qm.pc l).take t).drop f).flatten := by
  rw [Qm.cut_eq _ (Nat.le_max_right _ _)]
  by_cases h : A < n
  · obtain rfl : f = A := by omega
    by_cases h2 : max B f ≤ n
    · obtain rfl : max B f = t := by omega
      rfl
    · have e : t = n := by omega
      rw [e, List.take_of_length_le (by omega), List.take_of_length_le (by omega)]
  · have e : f = n := by omega
    rw [List.drop_of_length_le (by rw [List.length_take]; omega), List.drop_of_length_le (by rw [List.length_take]; omega)]
theorem piece_more (L : List (List UInt8)) (f k : Nat) (hf : f ≤ k) (h : k < L.length) : ((L.take (k + 1)).drop f).flatten = ((L.take k).drop f).flatten ++ L[k] := by
  rw [List.take_succ_eq_append_getElem h, List.drop_append_of_le_length (by rw [List.length_take]; omega), List.flatten_append, List.flatten_cons, List.flatten_nil, List.append_nil]
theorem piece_none (L : List (List UInt8)) (k : Nat) : ((L.take k).drop k).flatten = [] := by
  rw [List.drop_of_length_le (by rw [List.length_take]; omega)]
  rfl
theorem pieces_le (l : List UInt8) (f k : Nat) : (((Qm.pc l).take k).drop f).flatten.length ≤ l.length := by
  have h : ((((Qm.pc l).take k).take f).flatten ++ (((Qm.pc l).take k).drop f).flatten) ++ ((Qm.pc l).drop k).flatten = l := by
    rw [← List.flatten_append, List.take_append_drop, ← List.flatten_append, List.take_append_drop, Qm.pc_join]
  have := congrArg List.length h
  rw [List.length_append, List.length_append] at this
  omega

set_option maxHeartbeats 4000000 in
set_option maxRecDepth 1000000 in
theorem ref_cut (s u : ByteArray) (a b : Int) (hs : s.size ≤ 1099511627776) (hu : Qm.cut s.data.toList a.toNat (max b.toNat a.toNat) = u.data.toList) (w : World) :
    Calls Tryd.prog 14 #[.string s, .int .i64 a, .int .i64 b] w fun e w' => e = .returned (.string u) ∧ Below w.heap.size w w' := by
  obtain ⟨L, hL⟩ : ∃ L, Qm.pc s.data.toList = L := ⟨_, rfl⟩
  obtain ⟨N, hN⟩ : ∃ N, L.length = N := ⟨_, rfl⟩
  obtain ⟨A, hA⟩ : ∃ A, a.toNat = A := ⟨_, rfl⟩
  obtain ⟨f, hf⟩ : ∃ f, min A N = f := ⟨_, rfl⟩
  obtain ⟨C, hC⟩ : ∃ C, max b.toNat f = C := ⟨_, rfl⟩
  obtain ⟨t, ht⟩ : ∃ t, min C N = t := ⟨_, rfl⟩
  have hcr := cut_ref s.data.toList A b.toNat N f t (by rw [hL]; exact hN) hf (by rw [hC]; exact ht)
  rw [← hA, hu, hL] at hcr
  have hpl : ∀ k, ((L.take k).drop f).flatten.length ≤ s.size := by
    intro k
    rw [← hL, Lib.size_eq]
    exact pieces_le _ _ _
  have hNs : N ≤ s.size := by
    have := (Qm.pc_le s.data.toList).1
    rw [hL, hN, ← Lib.size_eq] at this
    exact this
  have m1 : (if a < 0 then 0 else a) = (A : Int) := by split <;> omega
  have m3 : (if b < (f : Int) then (f : Int) else b) = (C : Int) := by split <;> omega
  have hf2 : (N < A ∧ N = f) ∨ (¬ N < A ∧ A = f) := by omega
  have ht2 : (N < C ∧ N = t) ∨ (¬ N < C ∧ C = t) := by omega
  have hft : f ≤ t := by omega
  have htN : t ≤ N := by omega
  have HS := rhide hs
  have HNS := rhide hNs
  have HPL := rhide hpl
  have HU := rhide hcr
  have HP := ref_parts s hs
  rw [hL, hN] at HP
  clear hcr hs hu hL hA hf hC ht hpl hNs
  go_enter Tryd.func14, Tryd.ntmps14
  go_wp2_with fail
  refine (HP _).mono ?_
  rintro e W ⟨v, rfl, hown, hB⟩
  clear HP
  rcases hown.2 with ⟨rfl, hx⟩ | ⟨g, cap, cur, rfl, hrest⟩
  · have hN0 : N = 0 := hx
    subst hN0
    have hu0 : u = ⟨#[]⟩ := by
      have := runhide HU
      rw [show f = 0 by omega, show t = 0 by omega, piece_none] at this
      apply bytes_eqR
      exact this
    subst hu0
    clear hown hx HPL HNS hN
    have e2 : f = 0 := by omega
    have e4 : t = 0 := by omega
    have hA2 : 0 < A ∨ A = 0 := by omega
    have hC2 : 0 < C ∨ C = 0 := by omega
    clear hf2 ht2 hft htN
    subst e2 e4
    replace m3 : (if b < 0 then 0 else b) = (C : Int) := m3
    rcases hA2 with h2 | h2 <;> rcases hC2 with h4 | h4
    all_goals
      (try (subst h2; replace m1 : (if a < 0 then 0 else a) = 0 := m1)); (try (subst h4; replace m3 : (if b < 0 then 0 else b) = 0 := m3))
      go_wp2
      go_loop [8, 9] (fun o i => o = .string ⟨#[]⟩ ∧ i = .int .i64 0) (fun _ _ => 0)
      case atStart => exact ⟨rfl, rfl⟩
      case round =>
        obtain ⟨rfl, rfl⟩ := hrel
        go_wp2
        go_ret
        exact ⟨rfl, hB⟩
  · have hcells := hown.cells (g := g) rfl
    have hg : ∀ k, ∀ h : k < L.length, W.cell? ⟨g, k, none⟩ = some (strV L[k]) := by
      intro k h
      have := hcells k (strV L[k]) (by rw [List.getElem?_map, List.getElem?_eq_getElem h]; rfl)
      have hadd : (⟨g, 0, none⟩ : Addr).add k = ⟨g, k, none⟩ := by unfold Addr.add; split <;> simp_all
      rwa [hadd] at this
    clear hown hcells hrest
    obtain ⟨F, hF⟩ : ∃ F, f = F := ⟨_, rfl⟩
    obtain ⟨T, hT⟩ : ∃ T, t = T := ⟨_, rfl⟩
    rw [hF, hT] at HU hft
    rw [hF] at HPL
    rw [hT] at htN
    have HF := rhide hF
    have HT := rhide hT
    clear hF hT
    rcases hf2 with ⟨h2, g2⟩ | ⟨h2, g2⟩ <;> rcases ht2 with ⟨h4, g4⟩ | ⟨h4, g4⟩
    all_goals
      (try subst g2); (try subst g4)
      go_wp2
      go_loop [8, 9] (fun o i => ∃ (k : Nat) (q : ByteArray), o = .string q ∧ i = .int .i64 (k : Int) ∧ F ≤ k ∧ k ≤ T ∧ q.data.toList = ((L.take k).drop F).flatten) (fun _ i => T - (intOf i).toNat)
      case atStart => exact ⟨F, ⟨#[]⟩, rfl, by rw [runhide HF], Nat.le_refl _, hft, (piece_none _ _).symm⟩
      case round =>
        obtain ⟨k, q, rfl, rfl, hfk, hkt, hq⟩ := hrel
        by_cases hlt : k < T
        · have hlt2 := hlt
          rw [← runhide HT] at hlt2
          have hkN : k < L.length := by omega
          have hgk := hg k hkN
          obtain ⟨p, hp⟩ : ∃ p : ByteArray, L[k] = p.data.toList := ⟨⟨L[k].toArray⟩, by simp⟩
          rw [hp] at hgk
          have hpm := piece_more L F k hfk hkN
          rw [← hq, hp] at hpm
          obtain ⟨r, hr⟩ : ∃ r, q ++ p = r := ⟨_, rfl⟩
          have hrl : r.data.toList = ((L.take (k + 1)).drop F).flatten := by rw [hpm, ← hr, ByteArray.data_append, Array.toList_append]
          have hrs : r.size ≤ s.size := by
            rw [Lib.size_eq, hrl]
            exact runhide HPL (k + 1)
          have j1 : ¬ (9223372036854775807 < q.size + p.size) := by
            have h1 := runhide HS
            rw [← hr, ByteArray.size_append] at hrs
            omega
          have w1 : IntKind.i64.wrap ((k : Int) + 1) = ((k + 1 : Nat) : Int) := by
            have h1 := runhide HS
            have h2 := runhide HNS
            rw [IntKind.wrap_i64]; omega
          have hkN2 : k < N := by omega
          replace hgk : W.cell? ⟨g, k, none⟩ = some (.string p) := hgk
          have HFK := rhide hfk
          have HLT := rhide hlt
          clear hg hq hpm hrs hkN hp hfk hkt hlt hft htN
          go_wp2
          go_round
          case rel => exact ⟨k + 1, r, rfl, rfl, by have := runhide HFK; omega, runhide HLT, hrl⟩
          case measure => have := runhide HLT; simp [intOf]; omega
        · have hlt2 := hlt
          rw [← runhide HT] at hlt2
          have hu0 : u = q := by
            have := runhide HU
            obtain rfl : k = T := by omega
            apply bytes_eqR
            rw [this, hq]
          subst hu0
          clear hg hq hfk hkt HU hlt hft htN
          go_wp2
          go_ret
          exact ⟨rfl, hB⟩
end Go.Proofs.YtdmhkibpkcbhaaaDoor
