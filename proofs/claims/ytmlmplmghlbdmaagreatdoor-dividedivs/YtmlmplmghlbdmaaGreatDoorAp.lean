/- What is proved here: what append of a text's bytes to a text's converted bytes leaves in memory; conditions: both are short. -/
import Derived.Test.YtmlmplmghlbdmaaGreatDoorWe
import Derived.Deep.AppendSrc
import Derived.Lib.ConvBytes
import Derived.Laws.IdiomCopy
namespace Go.Proofs.YtmlmplmghlbdmaaGreatDoor
open Go.RowKit
set_option linter.unusedVariables false
set_option linter.unusedSimpArgs false

theorem below_setCells {B : Nat} {a : World} (b : Nat) (hb : B ≤ b) : ∀ (vs : List Value) (o : Nat) (w : World), Below B a w → Below B a (w.setCells b o vs) := by
  intro vs
  induction vs with
  | nil => intro o w h; exact h
  | cons v vs ih => intro o w h; exact ih _ _ (h.setCell hb v)
theorem bytesWorld_below (W : World) (e : TypeId) (s : ByteArray) : Below W.heap.size W (Lib.bytesWorld W e s) :=
  ⟨rfl, rfl, rfl, by rw [Lib.bytesWorld_size]; omega, fun k hk => Lib.bytesWorld_at_old W e s k hk⟩
theorem appended (l m : List UInt8) (i : Nat) : (l ++ m).getD i 0 = if i < l.length then l.getD i 0 else m.getD (i - l.length) 0 := by
  by_cases h : i < l.length
  · rw [if_pos h]; simp [List.getD, List.getElem?_append_left h]
  · rw [if_neg h]; simp [List.getD, List.getElem?_append_right (Nat.le_of_not_lt h)]

theorem appendText (W : World) (s p : ByteArray) (hs : s.size ≤ 100000) (hp : p.size ≤ 100000) :
    ∃ g c w2, (Builtin.append_ #[38, 9] 38 #[.slice (some ⟨W.heap.size, 0, none⟩) s.size (grownCap W s.size 0 5), .string p]).run Tryz.prog (Lib.bytesWorld W 5 s) = .ok (.slice (some ⟨g, 0, none⟩) (s.size + p.size) c) w2 ∧
      Row w2 g 0 (s.data.toList ++ p.data.toList) ∧ Below W.heap.size W w2 ∧ s.size + p.size ≤ c ∧ c ≤ 9223372036854775807 := by
  obtain ⟨i, hi, hz, hsz, hby⟩ : ∃ i, Tryz.prog.info? 5 = some i ∧ i.zero = some (.int .u8 0) ∧ i.size = 1 ∧ i.bytes = 1 := by
    have : (Tryz.prog.info? 5).map (fun i => (i.zero, i.size, i.bytes)) = some (some (.int .u8 0), 1, 1) := by kernel_rfl
    cases h : Tryz.prog.info? 5 with
    | none => rw [h] at this; cases this
    | some i =>
      rw [h] at this
      simp only [Option.map_some, Option.some.injEq, Prod.mk.injEq] at this
      exact ⟨i, rfl, this.1, this.2.1, this.2.2⟩
  have hls := size_len s
  have hlp := size_len p
  have hb0 := bytesWorld_below W 5 s
  have hge := grownCap_ge W s.size 0 5
  have hml : s.size ≤ maxLen := by unfold maxLen; omega
  have hcm := grownCap_le_maxLen W s.size 0 5 hml
  have hcs : (Lib.bytesCells W 5 s).size = grownCap W s.size 0 5 := by
    unfold Lib.bytesCells
    simp only [Array.size_append, Array.size_map, Array.size_replicate]
    show s.size + _ = _
    omega
  have hsrc := Src.ofString (P := Tryz.prog) (Lib.bytesWorld W 5 s) (tx := 9) Tryz.underlying9 p
  by_cases hroom : s.size + p.size ≤ grownCap W s.size 0 5
  · have hin : ∀ j, j < (byteCells p).length → ((Lib.bytesWorld W 5 s).cell? ⟨W.heap.size, 0 + s.size * 1 + j, none⟩).isSome = true := by
      intro j hj
      rw [byteCells_length] at hj
      simp only [World.cell?, Lib.bytesWorld_at_new]
      have : 0 + s.size * 1 + j < (Lib.bytesCells W 5 s).size := by rw [hcs]; omega
      simp
      omega
    have hfz : ∀ j, j < (byteCells p).length → (Lib.bytesWorld W 5 s).frozen? ⟨W.heap.size, 0 + s.size * 1 + j, none⟩ = false := by
      intro j hj
      rw [byteCells_length] at hj
      have : 0 + s.size * 1 + j < (Lib.bytesCells W 5 s).size := by rw [hcs]; omega
      have hw : (Lib.bytesWorld W 5 s).frozen? ⟨W.heap.size, 0 + s.size * 1 + j, none⟩ = (decide ((Lib.bytesCells W 5 s).size ≤ 0 + s.size * 1 + j) && decide (0 + s.size * 1 + j < (Lib.bytesCells W 5 s).size + 1)) := by
        unfold World.frozen?
        rw [Lib.bytesWorld_at_new]
      rw [hw, decide_eq_false (by omega), Bool.false_and]
    have hr := run_append_room_src (P := Tryz.prog) (Lib.bytesWorld W 5 s) 38 9 38 5 i Tryz.underlying38 hi W.heap.size 0 s.size (grownCap W s.size 0 5) (.string p) p.size (byteCells p) (by rw [hsz]; exact hsrc) hroom (by rw [hsz]; exact hin) (by rw [hsz]; exact hfz)
    rw [hsz] at hr
    refine ⟨W.heap.size, _, _, hr, ?_, below_setCells _ (Nat.le_refl _) _ _ _ hb0, hroom, by unfold maxLen at hcm; omega⟩
    intro j hj
    rw [List.length_append] at hj
    rw [appended, Nat.zero_add j]
    by_cases g : j < s.data.toList.length
    · rw [if_pos g, World.cell?_setCells_out _ _ _ _ _ (by intro _ _; left; simp; omega)]
      have := Lib.bytesWorld_cell W 5 s j (by omega)
      rw [this]
    · rw [if_neg g]
      obtain ⟨q, rfl⟩ : ∃ q, j = s.size + q := ⟨j - s.size, by omega⟩
      have hq : q < (byteCells p).length := by rw [byteCells_length]; omega
      have := World.cell?_setCells_in W.heap.size (byteCells p) (0 + s.size * 1) (Lib.bytesWorld W 5 s) hin q hq
      rw [show 0 + s.size * 1 + q = s.size + q by omega, show 0 + s.size * 1 = 0 + s.size * 1 from rfl] at this
      rw [this, ← hls, Nat.add_sub_cancel_left]
      simp only [byteCells, List.getElem_map]
      simp [List.getD, List.getElem?_eq_getElem (show q < p.data.toList.length by omega)]
  · have hold : (Builtin.firstCells i.size s.size (.slice (some ⟨W.heap.size, 0, none⟩) s.size (grownCap W s.size 0 5))).run Tryz.prog (Lib.bytesWorld W 5 s).drew = .ok (byteCells s).toArray (Lib.bytesWorld W 5 s).drew := by
      have := run_firstCells_some (P := Tryz.prog) (Lib.bytesWorld W 5 s).drew i.size s.size ⟨W.heap.size, 0, none⟩ s.size (grownCap W s.size 0 5) (byteCells s) (by rw [byteCells_length, hsz]; omega) (by
        intro j u hu
        have hjl : j < (byteCells s).length := by
          rcases Nat.lt_or_ge j (byteCells s).length with g | g
          · exact g
          · rw [List.getElem?_eq_none g] at hu; cases hu
        have hj := hjl
        rw [byteCells_length] at hj
        have hc := Lib.bytesWorld_cell W 5 s j hj
        rw [List.getElem?_eq_getElem hjl] at hu
        simp only [Option.some.injEq] at hu
        have e1 : (⟨W.heap.size, 0, none⟩ : Addr).add j = ⟨W.heap.size, j, none⟩ := by rw [Addr.add_lit, Nat.zero_add]
        rw [e1]
        have e2 : (Lib.bytesWorld W 5 s).drew.cell? ⟨W.heap.size, j, none⟩ = (Lib.bytesWorld W 5 s).cell? ⟨W.heap.size, j, none⟩ := rfl
        rw [e2, hc, ← hu]
        simp only [byteCells, List.getElem_map]
        simp [List.getD, List.getElem?_eq_getElem (show j < s.data.toList.length by omega)])
      exact this
    have hlt : grownCap W s.size 0 5 < s.size + p.size := by omega
    have hr := run_append_grow_src (P := Tryz.prog) (Lib.bytesWorld W 5 s) 38 9 38 5 i (.int .u8 0) Tryz.underlying38 hi hz (some ⟨W.heap.size, 0, none⟩) s.size (grownCap W s.size 0 5) (byteCells s) hold (.string p) p.size (byteCells p) (by rw [hsz]; exact hsrc) hlt (by omega) (growslice_fits hlt (by rw [hby]; omega))
    have hge2 := grownCap_ge (Lib.bytesWorld W 5 s) (s.size + p.size) (grownCap W s.size 0 5) 5
    have hml2 : s.size + p.size ≤ maxLen := by unfold maxLen; omega
    have hcm2 := grownCap_le_maxLen (Lib.bytesWorld W 5 s) (s.size + p.size) (grownCap W s.size 0 5) 5 hml2
    refine ⟨_, _, _, hr, ?_, (hb0.drew).alloc (by show W.heap.size ≤ (Lib.bytesWorld W 5 s).heap.size; rw [Lib.bytesWorld_size]; omega) _, hge2, by unfold maxLen at hcm2; omega⟩
    intro j hj
    rw [Nat.zero_add j]
    have hz' : (Lib.bytesWorld W 5 s).heap.size = (Lib.bytesWorld W 5 s).drew.heap.size := rfl
    rw [hz', World.cell?_alloc_at _ _ _ _ rfl]
    have hl : j < (byteCells s ++ byteCells p).length := by
      rw [List.length_append] at hj
      rw [List.length_append, byteCells_length, byteCells_length]; omega
    rw [Array.getElem?_append_left (by simpa using hl)]
    have : byteCells s ++ byteCells p = (s.data.toList ++ p.data.toList).map fun b => Value.int .u8 b.toNat := by simp [byteCells]
    rw [this]
    simp only [List.getElem?_toArray, List.getElem?_map]
    simp [List.getD, List.getElem?_eq_getElem hj]

/-- An append whose run is known. -/
theorem wpList_append_runT {ops : Array Oper} {rest : List Oper} {o : Oper} {a : Act} {Q : Exit → Act → World → Prop} (w : World) (hgd : o.guard = none) (s x : Operand) (t u : TypeId)
    (ho : o.op = .call { callee := .builtin .append, args := #[s, x], argTypes := #[t, u] }) (v y : Value) (hs : a.eval s = v) (hx : a.eval x = y) {v' : Value} {w' : World}
    (hr : (Builtin.append_ #[t, u] o.type #[v, y]).run Tryz.prog w = .ok v' w') (h : wpList Tryz.prog ops Q rest (a.put o.dst v') w') : wpList Tryz.prog ops Q (o :: rest) a w := by
  refine wpList_plain hgd fun K hK => ?_
  unfold Oper.wp execOp
  simp only [ho, resolve, invoke, builtin, Sem.run_bind, Sem.run_pure, Result.andThen_ok, List.map_toArray, List.map_cons, List.map_nil, hs, hx, hr]
  exact hK _ _ h
end Go.Proofs.YtmlmplmghlbdmaaGreatDoor
