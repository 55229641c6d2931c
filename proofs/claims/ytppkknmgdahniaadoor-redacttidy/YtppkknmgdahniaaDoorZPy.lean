/- What is proved here: a row of the call's own that grows by any other row, with the number of its block; rows of steps among them; conditions: as each theorem states. -/
import Derived.Test.YtppkknmgdahniaaDoorZBe
import Derived.OwnWalk
import Derived.BigFrame
namespace Go.Proofs.YtppkknmgdahniaaDoor.Np
set_option maxRecDepth 100000
open Go.RowKit
set_option linter.unusedVariables false
set_option linter.unusedSimpArgs false

theorem run_append_own2 {P : Program} (w : World) (base : Nat) (t ty e : TypeId) (i : TypeInfo) (z : Value) (size bytes : Nat) (ht : P.underlying t = some (.slice e)) (hi : P.info? e = some i) (hz : i.zero = some z)
    (hsize : i.size = size) (hby : i.bytes = bytes) (hzs : z.cells.size = size) (hsz : 0 < size)
    (g cap n : Nat) (xs : List Value) (hown : w.ownsRow base e size (.slice (some ⟨g, 0, none⟩) n cap) n xs)
    (a : Addr) (m c : Nat) (news : List Value) (hl : news.length = m * size) (hnews : ∀ j u, news[j]? = some u → w.cell? (a.add j) = some u) (h1 : ∀ u ∈ news, u.oneCell' = true)
    (h63 : n + m ≤ maxLen) (hbytes : (n + m) * bytes ≤ 140737488355328) (hbase : base ≤ w.heap.size) :
    ∃ g' cap' w', (Builtin.append_ #[t, t] ty #[.slice (some ⟨g, 0, none⟩) n cap, .slice (some a) m c]).run P w = .ok (.slice (some ⟨g', 0, none⟩) (n + m) cap') w' ∧
      w'.ownsRow base e size (.slice (some ⟨g', 0, none⟩) (n + m) cap') (n + m) (xs ++ news) ∧ w.grownBy w' (some g) ∧ (g' = g ∨ w.heap.size ≤ g') := by
  rcases hown.2 with ⟨h, _⟩ | ⟨g', cap', cur, hv, hbg, hg, hnc, hcm, hcs, htake⟩
  · cases h
  · have e1 := Value.slice.inj hv
    obtain ⟨rfl, _, _⟩ := Addr.mk.inj (Option.some.inj e1.1)
    obtain rfl := e1.2.2
    by_cases hroom : n + m ≤ cap
    · obtain ⟨w', r1, r2, r3⟩ := run_append_fits (P := P) w base t ty e i size ht hi hsize g n cap xs hown a m c news hl hnews h1 hroom
      exact ⟨g, cap, w', r1, r2, r3, .inl rfl⟩
    · obtain ⟨v', w', r1, r2, r3⟩ := run_append_arg_grows (P := P) w t ty e i z size bytes ht hi hz hsize hby hzs hsz ⟨g, 0, none⟩ n cap xs hown.1 (hown.cells (g := g) rfl) a m c news hl hnews (by omega) h63 hbytes
      rcases r2.2 with ⟨_, h0⟩ | ⟨g2, cap2, cur2, hv2, hbg2, hg2, hnc2, hcm2, hcs2, ht2⟩
      · omega
      · subst hv2
        refine ⟨g2, cap2, w', r1, ⟨r2.1, .inr ⟨g2, cap2, cur2, rfl, by omega, hg2, hnc2, hcm2, hcs2, ht2⟩⟩, ⟨r3.os, r3.tape, r3.output, r3.size, fun k hk _ => r3.block k hk (by simp)⟩, .inr hbg2⟩
theorem wpList_append_own2 {P : Program} (w : World) {ops : Array Oper} {rest : List Oper} {o : Oper} {a : Act} {Q : Exit → Act → World → Prop} (hgd : o.guard = none) (s x : Operand) (t : TypeId)
    (ho : o.op = .call { callee := .builtin .append, args := #[s, x], argTypes := #[t, t] })
    (base : Nat) (e : TypeId) (i : TypeInfo) (z : Value) (size bytes : Nat) (ht : P.underlying t = some (.slice e)) (hi : P.info? e = some i) (hz : i.zero = some z)
    (hsize : i.size = size) (hby : i.bytes = bytes) (hzs : z.cells.size = size) (hsz : 0 < size)
    (g cap n : Nat) (xs : List Value) (hs : a.eval s = .slice (some ⟨g, 0, none⟩) n cap) (hown : w.ownsRow base e size (.slice (some ⟨g, 0, none⟩) n cap) n xs)
    (ad : Addr) (m c : Nat) (news : List Value) (hx : a.eval x = .slice (some ad) m c) (hl : news.length = m * size) (hnews : ∀ j u, news[j]? = some u → w.cell? (ad.add j) = some u) (h1 : ∀ u ∈ news, u.oneCell' = true)
    (h63 : n + m ≤ maxLen) (hbytes : (n + m) * bytes ≤ 140737488355328) (hbase : base ≤ w.heap.size)
    (h : ∀ g' cap' w', w'.ownsRow base e size (.slice (some ⟨g', 0, none⟩) (n + m) cap') (n + m) (xs ++ news) → w.grownBy w' (some g) → (g' = g ∨ w.heap.size ≤ g') → wpList P ops Q rest (a.put o.dst (.slice (some ⟨g', 0, none⟩) (n + m) cap')) w') :
    wpList P ops Q (o :: rest) a w := by
  refine wpList_plain hgd fun K hK => ?_
  obtain ⟨g', cap', w', hr, h2, h3, h4⟩ := run_append_own2 (P := P) w base t o.type e i z size bytes ht hi hz hsize hby hzs hsz g cap n xs hown ad m c news hl hnews h1 h63 hbytes hbase
  unfold Oper.wp execOp
  simp only [ho, resolve, invoke, builtin, Sem.run_bind, Sem.run_pure, Result.andThen_ok, List.map_toArray, List.map_cons, List.map_nil, hs, hx, hr]
  exact hK _ _ (h g' cap' w' h2 h3 h4)


theorem RowSt.news {w : World} {b o : Nat} {L : List Pm.St} (h : RowSt w b o L) : ∀ j u, (rowS L)[j]? = some u → w.cell? ((⟨b, o, none⟩ : Addr).add j) = some u := by
  intro j u hj
  have hl : j < (rowS L).length := (List.getElem?_eq_some_iff.1 hj).1
  rw [rowS_len] at hl
  have hi : j / 3 < L.length := by omega
  have hr : j % 3 < 3 := Nat.mod_lt _ (by decide)
  have e := rowS_at L (j / 3) (j % 3) hr hi
  rw [show j / 3 * 3 + j % 3 = j by omega, hj] at e
  have ea : (⟨b, o, none⟩ : Addr).add j = ⟨b, o + j, none⟩ := by unfold Addr.add; split <;> simp_all
  rw [ea]
  obtain ⟨c0, c1, c2⟩ := h.2 (j / 3) hi
  rcases (show j % 3 = 0 ∨ j % 3 = 1 ∨ j % 3 = 2 by omega) with m | m | m
  · rw [m] at e
    rw [show o + j = o + j / 3 * 3 by omega, c0]; exact e.symm
  · rw [m] at e
    rw [show o + j = o + j / 3 * 3 + 1 by omega, c1]; exact e.symm
  · rw [m] at e
    rw [show o + j = o + j / 3 * 3 + 2 by omega, c2]; exact e.symm
theorem RowSt.below {w w' : World} {b o S : Nat} {L : List Pm.St} (h : RowSt w b o L) (hb : b < S) (hB : Below S w w') : RowSt w' b o L :=
  ⟨Nat.lt_of_lt_of_le h.1 hB.size, fun i hi => ⟨(hB.cell (p := ⟨b, _, none⟩) hb).trans (h.2 i hi).1, (hB.cell (p := ⟨b, _, none⟩) hb).trans (h.2 i hi).2.1, (hB.cell (p := ⟨b, _, none⟩) hb).trans (h.2 i hi).2.2⟩⟩
end Go.Proofs.YtppkknmgdahniaaDoor.Np
