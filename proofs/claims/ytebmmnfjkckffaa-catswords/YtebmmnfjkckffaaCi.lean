/- What is proved here: what Mask of package cats does with a row of names that lies, walked; conditions: as each theorem states. -/
import Derived.Test.YtebmmnfjkckffaaCc
import Derived.Test.YtebmmnfjkckffaaCg
import Derived.Test.YtebmmnfjkckffaaCp
import Derived.Test.YtebmmnfjkckffaaCs
namespace Go.Proofs.Ytebmmnfjkckffaa
open Go.RowKit Go.Maps
set_option linter.unusedVariables false
set_option linter.unusedSimpArgs false

theorem bytes_ext {x y : ByteArray} (e : x.data.toList = y.data.toList) : x = y := by
  cases x; cases y
  congr 1
  exact Array.toList_inj.1 e
theorem len_size (s : ByteArray) : s.data.toList.length = s.size := by rw [Array.length_toList]; rfl
/-- A text that is not empty, cut at its first blank. -/
theorem cut_ex (t : ByteArray) (hs : t.size ≤ 9223372036854775806) (h0 : t.size ≠ 0) : ∃ (a r : ByteArray) (b : Bool),
    (∀ W, Calls Try.prog 26 #[.string t, .string ⟨#[32]⟩] W fun e w' => e = .returned (.tuple #[.string a, .string r, .bool b]) ∧ ∃ n, w' = W.drewN n) ∧
    Cm.words t.data.toList = (if a.data.toList = [] then [] else [a.data.toList]) ++ Cm.words r.data.toList ∧ r.size < t.size ∧ a.size ≤ t.size := by
  by_cases hm : (32 : UInt8) ∈ t.data.toList
  · obtain ⟨p, q, hpq, hp⟩ := List.append_of_mem hm |> fun ⟨p, q, h⟩ => (show ∃ p q, t.data.toList = p ++ 32 :: q ∧ (32 : UInt8) ∉ p from by
      clear p q h
      generalize t.data.toList = l at hm
      induction l with
      | nil => cases hm
      | cons c l ih =>
        by_cases e : c = 32
        · exact ⟨[], l, by rw [e]; rfl, by simp⟩
        · obtain ⟨p, q, h1, h2⟩ := ih (by rcases List.mem_cons.1 hm with g | g; exact absurd g.symm e; exact g)
          exact ⟨c :: p, q, by rw [h1]; rfl, by simp only [List.mem_cons, not_or]; exact ⟨fun g => e g.symm, h2⟩⟩)
    refine ⟨⟨p.toArray⟩, ⟨q.toArray⟩, true, fun W => cutHit t ⟨p.toArray⟩ ⟨q.toArray⟩ W hs hpq hp, ?_, ?_, ?_⟩
    · rw [hpq, Cm.words_part, Cm.words_plain hp]
    · have := congrArg List.length hpq
      rw [len_size, List.length_append, List.length_cons] at this
      show q.length < t.size
      omega
    · have := congrArg List.length hpq
      rw [len_size, List.length_append, List.length_cons] at this
      show p.length ≤ t.size
      omega
  · refine ⟨t, ⟨#[]⟩, false, fun W => cutMiss t W hm, ?_, ?_, Nat.le_refl _⟩
    · rw [Cm.words_plain hm]
      exact (List.append_nil _).symm
    · show 0 < t.size
      omega
theorem ownsMap_drewN {w : World} {P : Program} {k : TypeId} {R : Value → Option (DataW Unit × List MemPlace)} {b n : Nat} {D : DataW Unit} (h : w.ownsMap P k R b n D) (j : Nat) : (w.drewN j).ownsMap P k R b n D := by
  have e : (w.drewN j).heap = w.heap := by first | rfl | simp
  unfold World.ownsMap at h ⊢
  rw [e]
  exact h

/-- What the map holds of a name. -/
theorem bits_idx {L : List Cm.Tx} {n : Nat} (hn : L.length = n) (hn2 : n ≤ 64) (hd : L.Nodup) (x : Cm.Tx) :
    (x ∉ L ∧ Cm.idx L x = none) ∨ ∃ i, Cm.idx L x = some i ∧ x ∈ L ∧ Cm.valK L n x = 2 ^ i ∧ 2 ^ i < 18446744073709551616 := by
  by_cases h : x ∈ L
  · obtain ⟨i, hi, rfl⟩ := List.getElem_of_mem h
    have hp : 2 ^ i < 2 ^ 64 := Nat.pow_lt_pow_right (by decide) (by omega)
    refine .inr ⟨i, Cm.idx_some hd hi, h, ?_, hp⟩
    rw [Cm.valK_one hd (List.getElem?_eq_getElem hi), if_pos (by omega)]
    unfold Cm.bitN
    rw [if_pos (by omega)]
  · exact .inl ⟨h, Cm.idx_none h⟩

set_option maxRecDepth 100000 in
set_option maxHeartbeats 2000000 in
theorem mask_any (g n c : Nat) (L : List Cm.Tx) (hn : L.length = n) (hn2 : n ≤ 64) (hl : ∀ x ∈ L, x.length ≤ 1000) (hd : L.Nodup) (s : ByteArray) (hs : s.size ≤ 9223372036854775806) (q e0 : Nat) (hq : Cm.maskF L 0 (Cm.words s.data.toList) = (q, e0)) (w : World) (hr : RowAt w g L) :
    Calls Try.prog 17 #[.slice (some ⟨g, 0, none⟩) n c, .string s] w fun e w' => e = .returned (.tuple #[.int .u64 (q : Int), .int .i64 (e0 : Int)]) ∧ Below w.heap.size w w' := by
  have C := fun W (h : RowAt W g L) => bitsOf_any g n c L hn (by omega) hl W h
  go_enter Try.func17, Try.ntmps17
  go_wp2_with fail
  refine (C _ hr).mono ?_
  rintro e w1 ⟨rfl, hB1, D, hown1, hD⟩
  clear C
  have hDh : ∀ x, has D (.string x) = decide (x ∈ L) := fun x => by rw [hD.1 x, List.take_of_length_le (by omega)]
  have hDv := hD.2.1
  clear hD
  go_wp2_with fail
  go_loopw [1, 7] (fun sv mv wr => ∃ (t : ByteArray) (m : Nat), sv = .string t ∧ mv = .int .u64 (m : Int) ∧ m < 18446744073709551616 ∧ t.size ≤ s.size ∧ Cm.maskF L m (Cm.words t.data.toList) = (q, e0) ∧ wr.ownsMap Try.prog 9 (plainElem (H := Unit) Try.prog 23) w.heap.size n D ∧ Below w.heap.size w wr) (fun sv _ _ => match sv with | .string t => t.size | _ => 0)
  case atStart => exact ⟨s, 0, rfl, rfl, by omega, Nat.le_refl _, hq, hown1, hB1⟩
  case round =>
    obtain ⟨t, m, rfl, rfl, hm, hts, hF, hown, hB⟩ := hrel
    by_cases h0 : t.size = 0
    · have hz := empty_yes h0
      have htn : t.data.toList = [] := List.eq_nil_of_length_eq_zero (by rw [len_size]; exact h0)
      rw [htn, Cm.words_nil, Cm.maskF_nil] at hF
      have hqm : m = q := congrArg Prod.fst hF
      have he0 : 0 = e0 := congrArg Prod.snd hF
      subst hqm
      subst he0
      clear hF htn h0 hq
      go_wp2
      go_ret2
      exact ⟨rfl, hB⟩
    · have hz := empty_no h0
      obtain ⟨a, r, b, CC, hw, hrs, has2⟩ := cut_ex t (by omega) h0
      by_cases ha0 : a.size = 0
      · have hza := empty_yes ha0
        have han : a.data.toList = [] := List.eq_nil_of_length_eq_zero (by rw [len_size]; exact ha0)
        rw [hw, han, if_pos rfl, List.nil_append] at hF
        have HF := hide hF
        have hrs2 : r.size ≤ s.size := by omega
        clear hw hF han ha0 h0
        go_wp2_with fail
        refine (CC _).mono ?_
        rintro e w2 ⟨rfl, j, rfl⟩
        have hown2 := ownsMap_drewN hown j
        have hB2 := below_drewN hB j
        clear CC hown hB
        go_wp2
        go_roundw
        case rel => exact ⟨r, m, rfl, rfl, hm, hrs2, unhide HF, hown2, hB2⟩
        case measure => exact hrs
      · have hza := empty_no ha0
        have han : a.data.toList ≠ [] := fun e => ha0 (by have := congrArg List.length e; rwa [len_size] at this)
        rw [hw, if_neg han, List.singleton_append] at hF
        have hkey : keyOf Try.prog 9 (.string a) = some (.string a.data.toList) := WideMaps.keyOf_string_mk Try.underlying9 (by unfold maxLen; omega)
        rcases bits_idx hn hn2 hd a.data.toList with ⟨hno, hi⟩ | ⟨i, hi, hmem, hval, hpl⟩
        · rw [Cm.maskF_miss _ _ hi] at hF
          have hqm : 0 = q := congrArg Prod.fst hF
          have he0 : 20 = e0 := congrArg Prod.snd hF
          subst hqm
          subst he0
          have hha := hDh a.data.toList
          rw [decide_eq_false hno] at hha
          clear hF hw hno hi han ha0 h0 hq
          go_wp2_with fail
          refine (CC _).mono ?_
          rintro e w2 ⟨rfl, j, rfl⟩
          have hown2 := ownsMap_drewN hown j
          have hB2 := below_drewN hB j
          obtain ⟨v, ps, hrun, hv⟩ := hown2.look_ok law Try.underlying43 (zero_u64 _) (plainElem_int Try.underlying23 (by decide)) hkey
          rw [hha] at hrun
          obtain ⟨cv, rfl, _, _⟩ := plainElem_int_inv Try.underlying23 hv
          clear CC hown hB hv hha hown2 hkey hDh hDv
          go_wp2
          go_ret2
          exact ⟨rfl, hB2⟩
        · rw [Cm.maskF_hit _ _ hi] at hF
          have hha := hDh a.data.toList
          rw [decide_eq_true hmem] at hha
          have hva := hDv a.data.toList
          rw [hval] at hva
          obtain ⟨p, hp⟩ : ∃ p, 2 ^ i = p := ⟨_, rfl⟩
          rw [hp] at hva hF hpl
          have hor : bits BinOp.or IntKind.u64 (m : Int) (p : Int) = ((m ||| p : Nat) : Int) := u64_or_nat _ _ hm hpl
          have hm2 : m ||| p < 18446744073709551616 := Nat.or_lt_two_pow (n := 64) hm hpl
          generalize m ||| p = m2 at hor hm2 hF
          have HF := hide hF
          have hrs2 : r.size ≤ s.size := by omega
          clear hF hw hi han ha0 h0 hval hp hmem
          go_wp2_with fail
          refine (CC _).mono ?_
          rintro e w2 ⟨rfl, j, rfl⟩
          have hown2 := ownsMap_drewN hown j
          have hB2 := below_drewN hB j
          obtain ⟨v, ps, hrun, hv⟩ := hown2.look_ok law Try.underlying43 (zero_u64 _) (plainElem_int Try.underlying23 (by decide)) hkey
          rw [hha] at hrun
          rw [hva] at hv
          obtain ⟨cv, rfl, hcv, _⟩ := plainElem_int_inv Try.underlying23 hv
          obtain rfl : cv = (p : Int) := by
            have := congrArg Prod.fst hcv
            simp only at this
            injection this with this
            injection this with _ this
            exact this.symm
          clear CC hown hB hv hha hkey hva hcv
          go_wp2
          go_roundw
          case rel => exact ⟨r, m2, rfl, rfl, hm2, hrs2, unhide HF, hown2, hB2⟩
          case measure => exact hrs
end Go.Proofs.Ytebmmnfjkckffaa
