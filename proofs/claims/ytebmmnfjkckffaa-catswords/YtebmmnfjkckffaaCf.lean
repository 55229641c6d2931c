/- What is proved here: what Names of package cats, and the document's own Names, do with a row of texts that lies, walked; conditions: as each theorem states. -/
import Derived.Test.YtebmmnfjkckffaaCb
import Derived.Test.YtebmmnfjkckffaaCo
import Derived.Test.YtebmmnfjkckffaaCt
namespace Go.Proofs.Ytebmmnfjkckffaa
open Go.RowKit Go.Maps
set_option linter.unusedVariables false
set_option linter.unusedSimpArgs false

/-- A builder stands as it stood, if nothing that lay has turned. -/
theorem stays {T e : TypeId} {B b : Nat} {bs : List Value} {W W' : World} (h : Lib.IsBuilderF T e B b bs W) (hk : Below W.heap.size W W') : Lib.IsBuilderF T e B b bs W' := by
  have one : ∀ p, Lib.BuilderAtF T e B b p bs W → Lib.BuilderAtF T e B b p bs W' := fun p g => by
    have hlt := g.lt
    obtain ⟨g1, v, g2, g3, g4⟩ := g
    refine ⟨g1, v, ?_, ?_, g4⟩
    · rw [hk.block b hlt]; exact g2
    · exact g3.kept (row := none) ⟨hk.os, hk.tape, hk.output, hk.size, fun k hl _ => hk.block k hl⟩ (Classical.em _)
  rcases h with h | h
  · exact .inl (one _ h)
  · exact .inr (one _ h)
theorem strCells_is (s : ByteArray) : Lib.strCells s = Lib.byteCells s.data.toList := rfl

set_option maxRecDepth 100000 in
set_option maxHeartbeats 1000000 in
theorem names_any (g n c : Nat) (L : List Cm.Tx) (hn : L.length = n) (hn2 : n ≤ 1000) (hl : ∀ x ∈ L, x.length ≤ 1000) (m : Nat) (hm : m < 18446744073709551616) (u : ByteArray) (hu : Cm.joinB (Cm.selK L m n) = u.data.toList) (w : World) (hr : RowAt w g L) :
    Calls Try.prog 19 #[.slice (some ⟨g, 0, none⟩) n c, .int .u64 (m : Int)] w fun e w' => e = .returned (.string u) ∧ Below w.heap.size w w' := by
  have HU := hide hu
  clear hu
  go_enter Try.func19, Try.ntmps19
  go_wp2
  go_loopw [6, 11] (fun bt i wr => ∃ (k : Nat) (ws : List Cm.Tx), i = .int .i64 (k : Int) ∧ k ≤ n ∧ ws = Cm.selK L m k ∧ bt = .string (if ws = [] then ⟨#[]⟩ else ⟨#[32]⟩) ∧ Lib.IsBuilderF 52 5 w.heap.size w.heap.size (Lib.byteCells (Cm.joinB ws)) wr ∧ Below w.heap.size w wr) (fun _ i _ => n - (intOf i).toNat)
  case atStart => exact ⟨0, [], rfl, by omega, rfl, rfl, Lib.IsBuilderF.of (Lib.fresh_isBuilder 52 5 w), (Below.refl _ w).alloc (Nat.le_refl _) _⟩
  case round =>
    obtain ⟨k, ws, rfl, hk, hws, rfl, hI, hB⟩ := hrel
    have hlw : w.heap.size < wr.heap.size := by rcases hI with h | h <;> exact h.lt
    obtain ⟨sp, hsp⟩ : ∃ sp : ByteArray, (if ws = [] then (⟨#[]⟩ : ByteArray) else ⟨#[32]⟩) = sp := ⟨_, rfl⟩
    rw [hsp]
    have HSP := hide hsp
    by_cases hlt : k < n
    · obtain ⟨x, hx, hx2, hx3⟩ := txt (L[k]'(by omega))
      have hc := (hr.step hB).2 k (by omega)
      rw [hx] at hc
      have hxl := hl _ (List.getElem_mem (show k < L.length by omega))
      have hjl := Cm.names_len (m := m) (k := k) (by omega) hl
      rw [← hws] at hjl
      have hand : bits BinOp.and IntKind.u64 (m : Int) (Cm.bitN k : Int) = ((m &&& Cm.bitN k : Nat) : Int) := u64_and_nat _ _ hm (Cm.bitN_lt _)
      cases hbit : m.testBit k
      · have h0 := (Cm.bit_zero hm).2 hbit
        have hz : (bits BinOp.and IntKind.u64 (m : Int) (Cm.bitN k : Int) == 0) = true := by rw [hand, h0]; rfl
        have hws2 : ws = Cm.selK L m (k + 1) := by rw [Cm.selK_no hbit]; exact hws
        have HWS := hide hws2
        clear hand hbit h0 hws hws2 hx hx2 hx3 hxl hjl hsp
        go_wp2_with (go_at_call 27; refine (bitAt_any k _).mono ?_; rintro e wr ⟨rfl, rfl⟩)
        go_roundw
        case rel => exact ⟨k + 1, ws, by go_num, hlt, unhide HWS, by rw [unhide HSP], hI, hB⟩
        case measure => simp [intOf]; omega
      · have h0 : ¬ (m &&& Cm.bitN k = 0) := fun h => by have := (Cm.bit_zero hm).1 h; rw [hbit] at this; cases this
        have hz : (bits BinOp.and IntKind.u64 (m : Int) (Cm.bitN k : Int) == 0) = false := by rw [hand]; exact beq_eq_false_iff_ne.2 (by omega)
        have hws2 : ws ++ [x.data.toList] = Cm.selK L m (k + 1) := by rw [Cm.selK_yes (by omega) hbit, ← hws, hx2]
        have hsp2 : sp.data.toList = if ws = [] then [] else [32] := by rw [← hsp]; split <;> rfl
        have hjs := Cm.joinB_snoc ws x.data.toList
        rw [← hsp2] at hjs
        have hb1 : (Lib.byteCells (Cm.joinB ws)).length + sp.size ≤ 1002001 := by
          have : sp.size ≤ 1 := by rw [← hsp]; split <;> decide
          rw [Lib.byteCells_length]
          have := Nat.mul_le_mul_right 1001 (show k ≤ 1000 by omega)
          omega
        have hb2 : (Lib.byteCells (Cm.joinB ws) ++ Lib.strCells sp).length + x.size ≤ 2000000 := by
          rw [List.length_append, Lib.strCells_length]
          omega
        have hcs : Lib.byteCells (Cm.joinB ws) ++ Lib.strCells sp ++ Lib.strCells x = Lib.byteCells (Cm.joinB (ws ++ [x.data.toList])) := by
          rw [hjs, strCells_is, strCells_is, Lib.byteCells_append, Lib.byteCells_append, List.append_assoc]
        have HB1 := hide hb1
        have HB2 := hide hb2
        have HWS := hide hws2
        have HCS := hide hcs
        clear hand hbit h0 hws hws2 hx hx2 hx3 hxl hjl hb1 hb2 hjs hsp hsp2 hcs
        go_wp2_with (go_at_call 27; refine (bitAt_any k _).mono ?_; rintro e wr ⟨rfl, rfl⟩)
        refine (Try.Builder_WriteString_k w.heap.size w.heap.size _ _ _ hI (by have := unhide HB1; omega) (Nat.le_of_lt hlw)).mono ?_
        rintro e w2 ⟨rfl, i2, b2, k2⟩
        have hl2 := Nat.le_of_lt (Nat.lt_of_lt_of_le hlw b2.size)
        replace hB := hB.trans b2
        go_wp2_with fail
        refine (Try.Builder_WriteString_k w.heap.size w.heap.size _ _ _ (.inr i2) (by have := unhide HB2; omega) hl2).mono ?_
        rintro e w3 ⟨rfl, i3, b3, k3⟩
        replace hB := hB.trans b3
        rw [unhide HCS] at i3
        go_wp2
        go_roundw
        case rel => exact ⟨k + 1, _, by go_num, hlt, unhide HWS, by rw [if_neg (by simp)], .inr i3, hB⟩
        case measure => simp [intOf]; omega
    · have hkn : k = n := by omega
      rw [hkn] at hws
      have hu := unhide HU
      rw [← hws] at hu
      rw [hu] at hI
      clear hws hu HU hkn hsp HSP
      go_wp2_with fail
      refine (Try.Builder_String_any_k w.heap.size w.heap.size _ _ hI (Nat.le_of_lt hlw)).mono ?_
      rintro e w3 ⟨rfl, i3, b3, k3⟩
      go_wp2
      go_ret
      exact ⟨rfl, hB.trans b3⟩
end Go.Proofs.Ytebmmnfjkckffaa
