/- What is proved here: what Names of package cats, and the document's own Names, do with a row of texts that lies, walked; conditions: as each theorem states. What is proved here: what the document's own Names does with a row of texts that lies, walked; conditions: as each theorem states. What is proved here: what Mask of package cats does with a row of names that lies, walked; conditions: as each theorem states. -/
import Derived.Test.YtnagecbepidfiaaGreatDoorBa
import Derived.Test.YtnagecbepidfiaaGreatDoorAb
import Derived.Test.YtnagecbepidfiaaGreatDoorAc
namespace Go.Proofs.YtnagecbepidfiaaGreatDoor.Nc
set_option maxRecDepth 100000
open Go.RowKit Go.Maps
set_option linter.unusedVariables false
set_option linter.unusedSimpArgs false

/-- A builder stands as it stood, if nothing that lay has turned. -/
theorem stays {T e : TypeId} {B b : Nat} {bs : List Value} {W W' : World} (h : Lib.IsBuilderF T e B b bs W) (hk : Below W.heap.size W W') : Lib.IsBuilderF T e B b bs W' := by
  have one : ∀ p, Lib.BuilderAtF T e B b p bs W → Lib.BuilderAtF T e B b p bs W' := fun p g => by
    have hlt := g.lt
    obtain ⟨g1, v, g2, g3, g4⟩ := g
    refine ⟨g1, v, ?_, ?_, g4⟩
    · rw [hk.block b hlt]; exact g2
    · exact g3.kept (row := none) ⟨hk.os, hk.tape, hk.output, hk.size, fun k hl _ => hk.block k hl⟩ (Classical.em _)
  rcases h with h | h
  · exact .inl (one _ h)
  · exact .inr (one _ h)
theorem strCells_is (s : ByteArray) : Lib.strCells s = Lib.byteCells s.data.toList := rfl

set_option maxRecDepth 100000 in
set_option maxHeartbeats 1000000 in
theorem names_any (g n c : Nat) (L : List Cm.Tx) (hn : L.length = n) (hn2 : n ≤ 1000) (hl : ∀ x ∈ L, x.length ≤ 1000) (m : Nat) (hm : m < 18446744073709551616) (u : ByteArray) (hu : Cm.joinB (Cm.selK L m n) = u.data.toList) (w : World) (hr : RowAt w g L) :
    Calls Tryz.prog 48 #[.slice (some ⟨g, 0, none⟩) n c, .int .u64 (m : Int)] w fun e w' => e = .returned (.string u) ∧ Below w.heap.size w w' := by
  have HU := hide hu
  clear hu
  go_enter Tryz.func48, Tryz.ntmps48
  go_wp2
  go_loopw [6, 11] (fun bt i wr => ∃ (k : Nat) (ws : List Cm.Tx), i = .int .i64 (k : Int) ∧ k ≤ n ∧ ws = Cm.selK L m k ∧ bt = .string (if ws = [] then ⟨#[]⟩ else ⟨#[32]⟩) ∧ Lib.IsBuilderF 81 5 w.heap.size w.heap.size (Lib.byteCells (Cm.joinB ws)) wr ∧ Below w.heap.size w wr) (fun _ i _ => n - (intOf i).toNat)
  case atStart => exact ⟨0, [], rfl, by omega, rfl, rfl, Lib.IsBuilderF.of (Lib.fresh_isBuilder 81 5 w), (Below.refl _ w).alloc (Nat.le_refl _) _⟩
  case round =>
    obtain ⟨k, ws, rfl, hk, hws, rfl, hI, hB⟩ := hrel
    have hlw : w.heap.size < wr.heap.size := by rcases hI with h | h <;> exact h.lt
    obtain ⟨sp, hsp⟩ : ∃ sp : ByteArray, (if ws = [] then (⟨#[]⟩ : ByteArray) else ⟨#[32]⟩) = sp := ⟨_, rfl⟩
    rw [hsp]
    have HSP := hide hsp
    by_cases hlt : k < n
    · obtain ⟨x, hx, hx2, hx3⟩ := txt (L[k]'(by omega))
      have hc := (hr.step hB).2 k (by omega)
      rw [hx] at hc
      have hxl := hl _ (List.getElem_mem (show k < L.length by omega))
      have hjl := Cm.names_len (m := m) (k := k) (by omega) hl
      rw [← hws] at hjl
      have hand : bits BinOp.and IntKind.u64 (m : Int) (Cm.bitN k : Int) = ((m &&& Cm.bitN k : Nat) : Int) := u64_and_nat _ _ hm (Cm.bitN_lt _)
      cases hbit : m.testBit k
      · have h0 := (Cm.bit_zero hm).2 hbit
        have hz : (bits BinOp.and IntKind.u64 (m : Int) (Cm.bitN k : Int) == 0) = true := by rw [hand, h0]; rfl
        have hws2 : ws = Cm.selK L m (k + 1) := by rw [Cm.selK_no hbit]; exact hws
        have HWS := hide hws2
        clear hand hbit h0 hws hws2 hx hx2 hx3 hxl hjl hsp
        go_wp2_with (go_at_call 83; refine (bitAt_any k _).mono ?_; rintro e wr ⟨rfl, rfl⟩)
        go_roundw
        case rel => exact ⟨k + 1, ws, by go_num, hlt, unhide HWS, by rw [unhide HSP], hI, hB⟩
        case measure => simp [intOf]; omega
      · have h0 : ¬ (m &&& Cm.bitN k = 0) := fun h => by have := (Cm.bit_zero hm).1 h; rw [hbit] at this; cases this
        have hz : (bits BinOp.and IntKind.u64 (m : Int) (Cm.bitN k : Int) == 0) = false := by rw [hand]; exact beq_eq_false_iff_ne.2 (by omega)
        have hws2 : ws ++ [x.data.toList] = Cm.selK L m (k + 1) := by rw [Cm.selK_yes (by omega) hbit, ← hws, hx2]
        have hsp2 : sp.data.toList = if ws = [] then [] else [32] := by rw [← hsp]; split <;> rfl
        have hjs := Cm.joinB_snoc ws x.data.toList
        rw [← hsp2] at hjs
        have hb1 : (Lib.byteCells (Cm.joinB ws)).length + sp.size ≤ 1002001 := by
          have : sp.size ≤ 1 := by rw [← hsp]; split <;> decide
          rw [Lib.byteCells_length]
          have := Nat.mul_le_mul_right 1001 (show k ≤ 1000 by omega)
          omega
        have hb2 : (Lib.byteCells (Cm.joinB ws) ++ Lib.strCells sp).length + x.size ≤ 2000000 := by
          rw [List.length_append, Lib.strCells_length]
          omega
        have hcs : Lib.byteCells (Cm.joinB ws) ++ Lib.strCells sp ++ Lib.strCells x = Lib.byteCells (Cm.joinB (ws ++ [x.data.toList])) := by
          rw [hjs, strCells_is, strCells_is, Lib.byteCells_append, Lib.byteCells_append, List.append_assoc]
        have HB1 := hide hb1
        have HB2 := hide hb2
        have HWS := hide hws2
        have HCS := hide hcs
        clear hand hbit h0 hws hws2 hx hx2 hx3 hxl hjl hb1 hb2 hjs hsp hsp2 hcs
        go_wp2_with (go_at_call 83; refine (bitAt_any k _).mono ?_; rintro e wr ⟨rfl, rfl⟩)
        refine (Tryz.Builder_WriteString_k w.heap.size w.heap.size _ _ _ hI (by have := unhide HB1; omega) (Nat.le_of_lt hlw)).mono ?_
        rintro e w2 ⟨rfl, i2, b2, k2⟩
        have hl2 := Nat.le_of_lt (Nat.lt_of_lt_of_le hlw b2.size)
        replace hB := hB.trans b2
        go_wp2_with fail
        refine (Tryz.Builder_WriteString_k w.heap.size w.heap.size _ _ _ (.inr i2) (by have := unhide HB2; omega) hl2).mono ?_
        rintro e w3 ⟨rfl, i3, b3, k3⟩
        replace hB := hB.trans b3
        rw [unhide HCS] at i3
        go_wp2
        go_roundw
        case rel => exact ⟨k + 1, _, by go_num, hlt, unhide HWS, by rw [if_neg (by simp)], .inr i3, hB⟩
        case measure => simp [intOf]; omega
    · have hkn : k = n := by omega
      rw [hkn] at hws
      have hu := unhide HU
      rw [← hws] at hu
      rw [hu] at hI
      clear hws hu HU hkn hsp HSP
      go_wp2_with fail
      refine (Tryz.Builder_String_any_k w.heap.size w.heap.size _ _ hI (Nat.le_of_lt hlw)).mono ?_
      rintro e w3 ⟨rfl, i3, b3, k3⟩
      go_wp2
      go_ret
      exact ⟨rfl, hB.trans b3⟩
end Go.Proofs.YtnagecbepidfiaaGreatDoor.Nc

namespace Go.Proofs.YtnagecbepidfiaaGreatDoor.Nc
set_option maxRecDepth 100000
open Go.RowKit Go.Maps
set_option linter.unusedVariables false
set_option linter.unusedSimpArgs false

theorem bit_tmod (m k : Nat) : (((m : Int) / 2 ^ k).tmod 2 == 1) = m.testBit k := by
  have h1 : ((m : Int) / 2 ^ k) = ((m / 2 ^ k : Nat) : Int) := by push_cast; rfl
  rw [h1, Bool.eq_iff_iff, ← Cm.shift_bit, beq_iff_eq]
  generalize m / 2 ^ k = q
  rw [Int.tmod_eq_emod_of_nonneg (by omega)]
  omega
theorem app_data (a b : ByteArray) : (a ++ b).data.toList = a.data.toList ++ b.data.toList := by rw [ByteArray.data_append, Array.toList_append]
theorem app_size (a b : ByteArray) : (a ++ b).size = a.size + b.size := ByteArray.size_append
set_option maxRecDepth 100000 in
set_option maxHeartbeats 1000000 in
theorem rnames_any (g n c : Nat) (L : List Cm.Tx) (hn : L.length = n) (hn2 : n ≤ 64) (hl : ∀ x ∈ L, x.length ≤ 1000) (hne : ∀ x ∈ L, x ≠ []) (m : Nat) (hm : m < 18446744073709551616) (u : ByteArray) (hu : Cm.joinB (Cm.selK L m n) = u.data.toList) (w : World) (hr : RowAt w g L) :
    Calls Tryz.prog 53 #[.slice (some ⟨g, 0, none⟩) n c, .int .u64 (m : Int)] w fun e w' => e = .returned (.string u) ∧ Below w.heap.size w w' := by
  have HU := hide hu
  clear hu
  go_enter Tryz.func53, Tryz.ntmps53
  go_wp2
  go_loopw [5, 6] (fun s i wr => ∃ (k : Nat) (t : ByteArray), i = .int .i64 (k : Int) ∧ k ≤ n ∧ s = .string t ∧ t.data.toList = Cm.joinB (Cm.selK L m k) ∧ Below w.heap.size w wr) (fun _ i _ => n - (intOf i).toNat)
  case atStart => exact ⟨0, ⟨#[]⟩, rfl, by omega, rfl, rfl, Below.refl _ _⟩
  case round =>
    obtain ⟨k, t, rfl, hk, rfl, ht, hB⟩ := hrel
    by_cases hlt : k < n
    · obtain ⟨x, hx, hx2, hx3⟩ := txt (L[k]'(by omega))
      have hc := (hr.step hB).2 k (by omega)
      rw [hx] at hc
      have hxl := hl _ (List.getElem_mem (show k < L.length by omega))
      have hjl := Cm.names_len (m := m) (k := k) (by omega) hl
      rw [← ht] at hjl
      cases hbit : m.testBit k
      · have ht2 : t.data.toList = Cm.joinB (Cm.selK L m (k + 1)) := by rw [Cm.selK_no hbit]; exact ht
        have HT := hide ht2
        have hb0 := hbit
        clear ht ht2 hx hx2 hx3 hxl hjl hbit
        have hbt := bit_tmod m k
        rw [hb0] at hbt
        clear hb0
        go_wp2
        go_roundw
        case rel => exact ⟨k + 1, t, by go_num, hlt, rfl, unhide HT, hB⟩
        case measure => simp [intOf]; omega
      · have hsk := Cm.selK_yes (L := L) (k := k) (by omega) hbit
        rw [← hx2] at hsk
        have hjs := Cm.joinB_snoc (Cm.selK L m k) x.data.toList
        rw [← hsk, ← ht] at hjs
        have hem := Cm.joinB_empty (ws := Cm.selK L m k) (fun y hy => hne y (Cm.selK_mem (by omega) hy))
        rw [← ht] at hem
        have hbt := bit_tmod m k
        rw [hbit] at hbt
        have htl : t.size ≤ 100000 := by
          have h1 : t.data.toList.length = t.size := by rw [Array.length_toList]; rfl
          have := Nat.mul_le_mul_right 1001 (show k ≤ 64 by omega)
          omega
        by_cases h0 : t.size = 0
        · have hz := empty_yes h0
          have htn : t.data.toList = [] := List.eq_nil_of_length_eq_zero (by rw [Array.length_toList]; exact h0)
          rw [if_pos (hem.1 htn), htn] at hjs
          have HT := hide (show (t ++ x).data.toList = Cm.joinB (Cm.selK L m (k + 1)) by rw [app_data, hjs, htn]; rfl)
          have j1 : ¬ (9223372036854775807 < t.size + x.size) := by omega
          clear ht hx hx2 hx3 hxl hjl hbit hem hjs hsk htn h0
          go_wp2
          go_roundw
          case rel => exact ⟨k + 1, t ++ x, by go_num, hlt, rfl, unhide HT, hB⟩
          case measure => simp [intOf]; omega
        · have hz := empty_no h0
          have htn : t.data.toList ≠ [] := fun e => h0 (by have := congrArg List.length e; rw [Array.length_toList] at this; exact this)
          rw [if_neg (fun e => htn (hem.2 e))] at hjs
          have HT := hide (show (t ++ ⟨#[32]⟩ ++ x).data.toList = Cm.joinB (Cm.selK L m (k + 1)) by rw [app_data, app_data, hjs, List.append_assoc])
          have j1 : ¬ (9223372036854775807 < t.size + 1) := by omega
          have j2 : ¬ (9223372036854775807 < t.size + 1 + x.size) := by omega
          clear ht hx hx2 hx3 hxl hjl hbit hem hjs hsk htn h0
          go_wp2
          go_roundw
          case rel => exact ⟨k + 1, t ++ ⟨#[32]⟩ ++ x, by go_num, hlt, rfl, unhide HT, hB⟩
          case measure => simp [intOf]; omega
    · have hkn : k = n := by omega
      rw [hkn] at ht
      have hut : t = u := by
        have e := ht.trans (unhide HU)
        cases t; cases u
        congr 1
        exact Array.toList_inj.1 e
      subst hut
      clear ht HU hkn
      go_wp2
      go_ret
      exact ⟨rfl, hB⟩
end Go.Proofs.YtnagecbepidfiaaGreatDoor.Nc

namespace Go.Proofs.YtnagecbepidfiaaGreatDoor.Nc
set_option maxRecDepth 100000
open Go.RowKit Go.Maps
set_option linter.unusedVariables false
set_option linter.unusedSimpArgs false

theorem bytes_ext {x y : ByteArray} (e : x.data.toList = y.data.toList) : x = y := by
  cases x; cases y
  congr 1
  exact Array.toList_inj.1 e
theorem len_size (s : ByteArray) : s.data.toList.length = s.size := by rw [Array.length_toList]; rfl
/-- A text that is not empty, cut at its first blank. -/
theorem cut_ex (t : ByteArray) (hs : t.size ≤ 9223372036854775806) (h0 : t.size ≠ 0) : ∃ (a r : ByteArray) (b : Bool),
    (∀ W, Calls Tryz.prog 96 #[.string t, .string ⟨#[32]⟩] W fun e w' => e = .returned (.tuple #[.string a, .string r, .bool b]) ∧ ∃ n, w' = W.drewN n) ∧
    Cm.words t.data.toList = (if a.data.toList = [] then [] else [a.data.toList]) ++ Cm.words r.data.toList ∧ r.size < t.size ∧ a.size ≤ t.size := by
  by_cases hm : (32 : UInt8) ∈ t.data.toList
  · obtain ⟨p, q, hpq, hp⟩ := List.append_of_mem hm |> fun ⟨p, q, h⟩ => (show ∃ p q, t.data.toList = p ++ 32 :: q ∧ (32 : UInt8) ∉ p from by
      clear p q h
      generalize t.data.toList = l at hm
      induction l with
      | nil => cases hm
      | cons c l ih =>
        by_cases e : c = 32
        · exact ⟨[], l, by rw [e]; rfl, by simp⟩
        · obtain ⟨p, q, h1, h2⟩ := ih (by rcases List.mem_cons.1 hm with g | g; exact absurd g.symm e; exact g)
          exact ⟨c :: p, q, by rw [h1]; rfl, by simp only [List.mem_cons, not_or]; exact ⟨fun g => e g.symm, h2⟩⟩)
    refine ⟨⟨p.toArray⟩, ⟨q.toArray⟩, true, fun W => cutHit t ⟨p.toArray⟩ ⟨q.toArray⟩ W hs hpq hp, ?_, ?_, ?_⟩
    · rw [hpq, Cm.words_part, Cm.words_plain hp]
    · have := congrArg List.length hpq
      rw [len_size, List.length_append, List.length_cons] at this
      show q.length < t.size
      omega
    · have := congrArg List.length hpq
      rw [len_size, List.length_append, List.length_cons] at this
      show p.length ≤ t.size
      omega
  · refine ⟨t, ⟨#[]⟩, false, fun W => cutMiss t W hm, ?_, ?_, Nat.le_refl _⟩
    · rw [Cm.words_plain hm]
      exact (List.append_nil _).symm
    · show 0 < t.size
      omega
theorem ownsMap_drewN {w : World} {P : Program} {k : TypeId} {R : Value → Option (DataW Unit × List MemPlace)} {b n : Nat} {D : DataW Unit} (h : w.ownsMap P k R b n D) (j : Nat) : (w.drewN j).ownsMap P k R b n D := by
  have e : (w.drewN j).heap = w.heap := by first | rfl | simp
  unfold World.ownsMap at h ⊢
  rw [e]
  exact h

/-- What the map holds of a name. -/
theorem bits_idx {L : List Cm.Tx} {n : Nat} (hn : L.length = n) (hn2 : n ≤ 64) (hd : L.Nodup) (x : Cm.Tx) :
    (x ∉ L ∧ Cm.idx L x = none) ∨ ∃ i, Cm.idx L x = some i ∧ x ∈ L ∧ Cm.valK L n x = 2 ^ i ∧ 2 ^ i < 18446744073709551616 := by
  by_cases h : x ∈ L
  · obtain ⟨i, hi, rfl⟩ := List.getElem_of_mem h
    have hp : 2 ^ i < 2 ^ 64 := Nat.pow_lt_pow_right (by decide) (by omega)
    refine .inr ⟨i, Cm.idx_some hd hi, h, ?_, hp⟩
    rw [Cm.valK_one hd (List.getElem?_eq_getElem hi), if_pos (by omega)]
    unfold Cm.bitN
    rw [if_pos (by omega)]
  · exact .inl ⟨h, Cm.idx_none h⟩

set_option maxRecDepth 100000 in
set_option maxHeartbeats 2000000 in
theorem mask_any (g n c : Nat) (L : List Cm.Tx) (hn : L.length = n) (hn2 : n ≤ 64) (hl : ∀ x ∈ L, x.length ≤ 1000) (hd : L.Nodup) (s : ByteArray) (hs : s.size ≤ 9223372036854775806) (q e0 : Nat) (hq : Cm.maskF L 0 (Cm.words s.data.toList) = (q, e0)) (w : World) (hr : RowAt w g L) :
    Calls Tryz.prog 101 #[.slice (some ⟨g, 0, none⟩) n c, .string s] w fun e w' => e = .returned (.tuple #[.int .u64 (q : Int), .int .i64 (e0 : Int)]) ∧ Below w.heap.size w w' := by
  have C := fun W (h : RowAt W g L) => bitsOf_any g n c L hn (by omega) hl W h
  go_enter Tryz.func101, Tryz.ntmps101
  go_wp2_with fail
  refine (C _ hr).mono ?_
  rintro e w1 ⟨rfl, hB1, D, hown1, hD⟩
  clear C
  have hDh : ∀ x, has D (.string x) = decide (x ∈ L) := fun x => by rw [hD.1 x, List.take_of_length_le (by omega)]
  have hDv := hD.2.1
  clear hD
  go_wp2_with fail
  go_loopw [1, 7] (fun sv mv wr => ∃ (t : ByteArray) (m : Nat), sv = .string t ∧ mv = .int .u64 (m : Int) ∧ m < 18446744073709551616 ∧ t.size ≤ s.size ∧ Cm.maskF L m (Cm.words t.data.toList) = (q, e0) ∧ wr.ownsMap Tryz.prog 9 (plainElem (H := Unit) Tryz.prog 37) w.heap.size n D ∧ Below w.heap.size w wr) (fun sv _ _ => match sv with | .string t => t.size | _ => 0)
  case atStart => exact ⟨s, 0, rfl, rfl, by omega, Nat.le_refl _, hq, hown1, hB1⟩
  case round =>
    obtain ⟨t, m, rfl, rfl, hm, hts, hF, hown, hB⟩ := hrel
    by_cases h0 : t.size = 0
    · have hz := empty_yes h0
      have htn : t.data.toList = [] := List.eq_nil_of_length_eq_zero (by rw [len_size]; exact h0)
      rw [htn, Cm.words_nil, Cm.maskF_nil] at hF
      have hqm : m = q := congrArg Prod.fst hF
      have he0 : 0 = e0 := congrArg Prod.snd hF
      subst hqm
      subst he0
      clear hF htn h0 hq
      go_wp2
      go_ret2
      exact ⟨rfl, hB⟩
    · have hz := empty_no h0
      obtain ⟨a, r, b, CC, hw, hrs, has2⟩ := cut_ex t (by omega) h0
      by_cases ha0 : a.size = 0
      · have hza := empty_yes ha0
        have han : a.data.toList = [] := List.eq_nil_of_length_eq_zero (by rw [len_size]; exact ha0)
        rw [hw, han, if_pos rfl, List.nil_append] at hF
        have HF := hide hF
        have hrs2 : r.size ≤ s.size := by omega
        clear hw hF han ha0 h0
        go_wp2_with fail
        refine (CC _).mono ?_
        rintro e w2 ⟨rfl, j, rfl⟩
        have hown2 := ownsMap_drewN hown j
        have hB2 := Go.below_drewN hB j
        clear CC hown hB
        go_wp2
        go_roundw
        case rel => exact ⟨r, m, rfl, rfl, hm, hrs2, unhide HF, hown2, hB2⟩
        case measure => exact hrs
      · have hza := empty_no ha0
        have han : a.data.toList ≠ [] := fun e => ha0 (by have := congrArg List.length e; rwa [len_size] at this)
        rw [hw, if_neg han, List.singleton_append] at hF
        have hkey : keyOf Tryz.prog 9 (.string a) = some (.string a.data.toList) := WideMaps.keyOf_string_mk Tryz.underlying9 (by unfold maxLen; omega)
        rcases bits_idx hn hn2 hd a.data.toList with ⟨hno, hi⟩ | ⟨i, hi, hmem, hval, hpl⟩
        · rw [Cm.maskF_miss _ _ hi] at hF
          have hqm : 0 = q := congrArg Prod.fst hF
          have he0 : 20 = e0 := congrArg Prod.snd hF
          subst hqm
          subst he0
          have hha := hDh a.data.toList
          rw [decide_eq_false hno] at hha
          clear hF hw hno hi han ha0 h0 hq
          go_wp2_with fail
          refine (CC _).mono ?_
          rintro e w2 ⟨rfl, j, rfl⟩
          have hown2 := ownsMap_drewN hown j
          have hB2 := Go.below_drewN hB j
          obtain ⟨v, ps, hrun, hv⟩ := hown2.look_ok law Tryz.underlying111 (zero_u64 _) (plainElem_int Tryz.underlying37 (by decide)) hkey
          rw [hha] at hrun
          obtain ⟨cv, rfl, _, _⟩ := plainElem_int_inv Tryz.underlying37 hv
          clear CC hown hB hv hha hown2 hkey hDh hDv
          go_wp2
          go_ret2
          exact ⟨rfl, hB2⟩
        · rw [Cm.maskF_hit _ _ hi] at hF
          have hha := hDh a.data.toList
          rw [decide_eq_true hmem] at hha
          have hva := hDv a.data.toList
          rw [hval] at hva
          obtain ⟨p, hp⟩ : ∃ p, 2 ^ i = p := ⟨_, rfl⟩
          rw [hp] at hva hF hpl
          have hor : bits BinOp.or IntKind.u64 (m : Int) (p : Int) = ((m ||| p : Nat) : Int) := u64_or_nat _ _ hm hpl
          have hm2 : m ||| p < 18446744073709551616 := Nat.or_lt_two_pow (n := 64) hm hpl
          generalize m ||| p = m2 at hor hm2 hF
          have HF := hide hF
          have hrs2 : r.size ≤ s.size := by omega
          clear hF hw hi han ha0 h0 hval hp hmem
          go_wp2_with fail
          refine (CC _).mono ?_
          rintro e w2 ⟨rfl, j, rfl⟩
          have hown2 := ownsMap_drewN hown j
          have hB2 := Go.below_drewN hB j
          obtain ⟨v, ps, hrun, hv⟩ := hown2.look_ok law Tryz.underlying111 (zero_u64 _) (plainElem_int Tryz.underlying37 (by decide)) hkey
          rw [hha] at hrun
          rw [hva] at hv
          obtain ⟨cv, rfl, hcv, _⟩ := plainElem_int_inv Tryz.underlying37 hv
          obtain rfl : cv = (p : Int) := by
            have := congrArg Prod.fst hcv
            simp only at this
            injection this with this
            injection this with _ this
            exact this.symm
          clear CC hown hB hv hha hkey hva hcv
          go_wp2
          go_roundw
          case rel => exact ⟨r, m2, rfl, rfl, hm2, hrs2, unhide HF, hown2, hB2⟩
          case measure => exact hrs
end Go.Proofs.YtnagecbepidfiaaGreatDoor.Nc
