/- What is proved here: append of a row of the call's own and any row that lies, empty or not; the tokens' rows that come of it; what All tells of two texts with a blank between; conditions: as each theorem states. -/
import Derived.Test.YtppkknmgdahniabDoorNx
import Derived.Test.YtppkknmgdahniabDoorNm
import Derived.Test.YtppkknmgdahniabDoorNn
namespace Go.Proofs.YtppkknmgdahniabDoor.Lex
set_option maxRecDepth 100000
open Go.RowKit Go.Joins Go.Proofs.YtppkknmgdahniabDoor.Nc Go.Proofs.YtppkknmgdahniabDoor.Nq
set_option maxRecDepth 100000
set_option linter.unusedVariables false
set_option linter.unusedSimpArgs false

theorem run_append_none {P : Program} (w : World) (base : Nat) (t ty e : TypeId) (i : TypeInfo) (size : Nat) (ht : P.underlying t = some (.slice e)) (hi : P.info? e = some i) (hsize : i.size = size)
    (v : Value) (n : Nat) (xs : List Value) (hown : w.ownsRow base e size v n xs) :
    (Builtin.append_ #[t, t] ty #[v, .slice none 0 0]).run P w = .ok v w := by
  subst hsize
  rcases hown.2 with ⟨rfl, rfl⟩ | ⟨g, cap, cur, rfl, hbg, hg, hnc, hcm, hcs, htake⟩
  · simp [Builtin.append_, run_underlying ht, sizeOf, typeInfo, hi, Builtin.lenOf, Builtin.firstCells]
  · simp [Builtin.append_, run_underlying ht, sizeOf, typeInfo, hi, Builtin.lenOf, Builtin.firstCells, hnc, storeCells]
theorem wpList_append_rows {P : Program} (w : World) {ops : Array Oper} {rest : List Oper} {o : Oper} {a : Act} {Q : Exit → Act → World → Prop} (hgd : o.guard = none) (s x : Operand) (t : TypeId)
    (ho : o.op = .call { callee := .builtin .append, args := #[s, x], argTypes := #[t, t] })
    (base : Nat) (e : TypeId) (i : TypeInfo) (z : Value) (size bytes : Nat) (ht : P.underlying t = some (.slice e)) (hi : P.info? e = some i) (hz : i.zero = some z)
    (hsize : i.size = size) (hby : i.bytes = bytes) (hzs : z.cells.size = size) (hsz : 0 < size)
    (v : Value) (n : Nat) (xs : List Value) (hs : a.eval s = v) (hown : w.ownsRow base e size v n xs)
    (b2 m : Nat) (V : Value) (news : List Value) (hx : a.eval x = V) (hV : w.ownsRow b2 e size V m news) (h1 : ∀ u ∈ news, u.oneCell' = true)
    (h63 : n + m ≤ maxLen) (hbytes : (n + m) * bytes ≤ 140737488355328) (hbase : base ≤ w.heap.size)
    (h : ∀ v' w', w'.ownsRow base e size v' (n + m) (xs ++ news) → w.grownBy w' v.ownBlock → wpList P ops Q rest (a.put o.dst v') w') : wpList P ops Q (o :: rest) a w := by
  rcases hV.2 with ⟨hv, hm⟩ | ⟨g, cap, cur, hv, hbg, hg, hnc, hcm, hcs, htake⟩
  · have hn : news = [] := by
      refine List.eq_nil_of_length_eq_zero ?_
      rw [hV.1, hm, Nat.zero_mul]
    refine wpList_plain hgd fun K hK => ?_
    have hr := run_append_none (P := P) w base t o.type e i size ht hi hsize v n xs hown
    have hh := h v w (by rw [hm, hn, Nat.add_zero, List.append_nil]; exact hown) ⟨rfl, rfl, rfl, Nat.le_refl _, fun _ _ _ => rfl⟩
    unfold Oper.wp execOp
    simp only [ho, resolve, invoke, builtin, Sem.run_bind, Sem.run_pure, Result.andThen_ok, List.map_toArray, List.map_cons, List.map_nil, hs, hx.trans hv, hr]
    exact hK _ _ hh
  · subst hv
    exact wpList_append_own w hgd s x t ho base e i z size bytes ht hi hz hsize hby hzs hsz v n xs hs hown ⟨g, 0, none⟩ m cap news hx hV.1 (hV.cells (g := g) rfl) h1 h63 hbytes hbase (fun v' w' a b _ => h v' w' a b)

theorem one_row (N : Nat) (T : List (Lx.Tk × Nat)) : ∀ u ∈ rowC N T, u.oneCell' = true := by
  intro u hu
  obtain ⟨x, -, hx⟩ := List.mem_flatMap.1 hu
  exact one_tk N x u hx
def farther (k : Nat) (T : List (Lx.Tk × Nat)) : List (Lx.Tk × Nat) := T.map (fun y => (y.1, y.2 + k))
theorem far_len (k : Nat) (T : List (Lx.Tk × Nat)) : (farther k T).length = T.length := List.length_map ..
theorem far_fst (k : Nat) (T : List (Lx.Tk × Nat)) : (farther k T).map Prod.fst = T.map Prod.fst := by simp [farther, Function.comp_def]
theorem tkC_far (N k : Nat) (x : Lx.Tk × Nat) : tkC (N + k) (x.1, x.2 + k) = tkC N x := by
  have : ((N + k : Nat) : Int) - ((x.2 + k : Nat) : Int) = (N : Int) - (x.2 : Int) := by omega
  simp only [tkC]
  rw [this]
theorem rowC_far (N k : Nat) : ∀ (T : List (Lx.Tk × Nat)), rowC (N + k) (farther k T) = rowC N T
  | [] => rfl
  | x :: r => by
    have := rowC_far N k r
    simp only [rowC, farther, List.map_cons, List.flatMap_cons] at this ⊢
    rw [tkC_far, this]
theorem both_row (N M : Nat) (T U : List (Lx.Tk × Nat)) : rowC (N + M) (farther M T ++ farther N U) = rowC N T ++ rowC M U := by
  have e1 := rowC_far N M T
  have e2 := rowC_far M N U
  rw [Nat.add_comm M N] at e2
  rw [← e1, ← e2]
  simp [rowC, List.flatMap_append]
/-- The rows of both, one behind the other, are tokens that lie. -/
theorem both_in {w : World} {B N M : Nat} {V : Value} {T U : List (Lx.Tk × Nat)} (h : w.ownsRow B 33 6 V (T.length + U.length) (rowC N T ++ rowC M U)) : TokIn w V (N + M) (farther M T ++ farther N U) := by
  unfold TokIn
  rw [both_row, List.length_append, far_len, far_len]
  exact own_base h (Nat.zero_le _)
theorem join_fst (k N M : Nat) (T U : List (Lx.Tk × Nat)) : (farther k T ++ U).map Prod.fst = (farther M T ++ farther N U).map Prod.fst := by
  rw [List.map_append, List.map_append, far_fst, far_fst, far_fst]
/-- The place of a token of the second text. -/
theorem join_at (k : Nat) (T U : List (Lx.Tk × Nat)) (j : Nat) (hj : j < U.length) (h2 : T.length + j < (farther k T ++ U).length) : (farther k T ++ U)[T.length + j]'h2 = U[j]'hj := by
  rw [List.getElem_append_right (by rw [far_len]; omega)]
  congr 1
  rw [far_len]
  omega
/-- What the third reading tells, where both texts are read. -/
theorem join_all (s t : ByteArray) (h5 : s.size ≤ 500) (h6 : t.size ≤ 500) (T U : List (Lx.Tk × Nat)) (hT9 : Lx.lexO s.data.toList = some T) (hU9 : Lx.lexO t.data.toList = some U) (w : World) (hT : Tabs w) (hS : Sg w) :
    T.length ≤ 500 ∧ U.length ≤ 500 ∧ ((600 < T.length + U.length ∧ Hid (∀ W, Below w.heap.size w W → Calls Tryd.prog 8 #[.string ((s ++ ⟨#[32]⟩) ++ t)] W fun e w' => ∃ V, e = .returned (.tuple #[V, .int .i64 3]) ∧ TokIn w' V (s.size + 1 + t.size) [] ∧ Below W.heap.size W w')) ∨
    (T.length + U.length ≤ 600 ∧ Hid (∀ W, Below w.heap.size w W → Calls Tryd.prog 8 #[.string ((s ++ ⟨#[32]⟩) ++ t)] W fun e w' => ∃ V, e = .returned (.tuple #[V, .int .i64 0]) ∧ TokIn w' V (s.size + 1 + t.size) (farther (t.size + 1) T ++ U) ∧ Below W.heap.size W w'))) := by
  have c1 := Lx.lex_count _ s.data.toList (Nat.le_refl _) T hT9
  have c2 := Lx.lex_count _ t.data.toList (Nat.le_refl _) U hU9
  rw [lsize] at c1 c2
  have hz : ((s ++ ⟨#[32]⟩) ++ t : ByteArray).size = s.size + 1 + t.size := by
    rw [ByteArray.size_append, ByteArray.size_append]
    rfl
  have hl : ((s ++ ⟨#[32]⟩) ++ t : ByteArray).data.toList = s.data.toList ++ 32 :: t.data.toList := by
    rw [dapp, dapp, List.append_assoc]
    rfl
  have hj := Lx.lex_join hU9 _ s.data.toList (Nat.le_refl _) T hT9
  rw [← hl, lsize] at hj
  have hj2 : Lx.lexO ((s ++ ⟨#[32]⟩) ++ t : ByteArray).data.toList = some (farther (t.size + 1) T ++ U) := hj
  have hln : (farther (t.size + 1) T ++ U).length = T.length + U.length := by rw [List.length_append, far_len]
  have hall := all_any ((s ++ ⟨#[32]⟩) ++ t) (by rw [hz]; omega)
  obtain ⟨k1, k2⟩ := err_of (l := ((s ++ ⟨#[32]⟩) ++ t : ByteArray).data.toList) (by rw [lsize, hz]; omega) hj2
  rw [hln] at k1 k2
  refine ⟨by omega, by omega, ?_⟩
  by_cases h : 600 < T.length + U.length
  · refine .inl ⟨h, lhide (fun W hW => ?_)⟩
    have := hall W (Nq.Tabs.step hT hW) (Sg.below hS hW)
    rw [(k2 h).1, (k2 h).2, hz] at this
    exact this
  · refine .inr ⟨by omega, lhide (fun W hW => ?_)⟩
    have := hall W (Nq.Tabs.step hT hW) (Sg.below hS hW)
    rw [(k1 (by omega)).1, (k1 (by omega)).2, hz] at this
    exact this
/-- .. and else. -/
theorem join_some (s t : ByteArray) (h5 : s.size ≤ 500) (h6 : t.size ≤ 500) (w : World) (hT : Tabs w) (hS : Sg w) :
    ∃ (er : Nat) (T : List (Lx.Tk × Nat)), Hid (∀ W, Below w.heap.size w W → Calls Tryd.prog 8 #[.string ((s ++ ⟨#[32]⟩) ++ t)] W fun e w' => ∃ V, e = .returned (.tuple #[V, .int .i64 (er : Int)]) ∧ TokIn w' V (s.size + 1 + t.size) T ∧ Below W.heap.size W w') := by
  have hz : ((s ++ ⟨#[32]⟩) ++ t : ByteArray).size = s.size + 1 + t.size := by
    rw [ByteArray.size_append, ByteArray.size_append]
    rfl
  refine ⟨Lx.errL ((s ++ ⟨#[32]⟩) ++ t : ByteArray).data.toList, Lx.allL ((s ++ ⟨#[32]⟩) ++ t : ByteArray).data.toList, lhide (fun W hW => ?_)⟩
  have := all_any ((s ++ ⟨#[32]⟩) ++ t) (by rw [hz]; omega) W (Nq.Tabs.step hT hW) (Sg.below hS hW)
  rw [hz] at this
  exact this
end Go.Proofs.YtppkknmgdahniabDoor.Lex
