/- What is proved here: a row of the call's own that grows, with the number of its block; rows of values that are told with it. -/
import Derived.Test.YtigpfbfkdccdaaaDoorKh
namespace Go.Proofs.YtigpfbfkdccdaaaDoor
open Go.RowKit
set_option linter.unusedVariables false
set_option linter.unusedSimpArgs false

theorem run_append_own2 {P : Program} (w : World) (base : Nat) (t ty e : TypeId) (i : TypeInfo) (z : Value) (size bytes : Nat) (ht : P.underlying t = some (.slice e)) (hi : P.info? e = some i) (hz : i.zero = some z)
    (hsize : i.size = size) (hby : i.bytes = bytes) (hzs : z.cells.size = size) (hsz : 0 < size)
    (g cap n : Nat) (xs : List Value) (hown : w.ownsRow base e size (.slice (some ⟨g, 0, none⟩) n cap) n xs)
    (a : Addr) (m c : Nat) (news : List Value) (hl : news.length = m * size) (hnews : ∀ j u, news[j]? = some u → w.cell? (a.add j) = some u) (h1 : ∀ u ∈ news, u.oneCell' = true)
    (h63 : n + m ≤ maxLen) (hbytes : (n + m) * bytes ≤ 140737488355328) (hbase : base ≤ w.heap.size) :
    ∃ g' cap' w', (Builtin.append_ #[t, t] ty #[.slice (some ⟨g, 0, none⟩) n cap, .slice (some a) m c]).run P w = .ok (.slice (some ⟨g', 0, none⟩) (n + m) cap') w' ∧
      w'.ownsRow base e size (.slice (some ⟨g', 0, none⟩) (n + m) cap') (n + m) (xs ++ news) ∧ w.grownBy w' (some g) ∧ (g' = g ∨ w.heap.size ≤ g') := by
  rcases hown.2 with ⟨h, _⟩ | ⟨g', cap', cur, hv, hbg, hg, hnc, hcm, hcs, htake⟩
  · cases h
  · have e1 := Value.slice.inj hv
    obtain ⟨rfl, _, _⟩ := Addr.mk.inj (Option.some.inj e1.1)
    obtain rfl := e1.2.2
    by_cases hroom : n + m ≤ cap
    · obtain ⟨w', r1, r2, r3⟩ := run_append_fits (P := P) w base t ty e i size ht hi hsize g n cap xs hown a m c news hl hnews h1 hroom
      exact ⟨g, cap, w', r1, r2, r3, .inl rfl⟩
    · obtain ⟨v', w', r1, r2, r3⟩ := run_append_arg_grows (P := P) w t ty e i z size bytes ht hi hz hsize hby hzs hsz ⟨g, 0, none⟩ n cap xs hown.1 (hown.cells (g := g) rfl) a m c news hl hnews (by omega) h63 hbytes
      rcases r2.2 with ⟨_, h0⟩ | ⟨g2, cap2, cur2, hv2, hbg2, hg2, hnc2, hcm2, hcs2, ht2⟩
      · omega
      · subst hv2
        refine ⟨g2, cap2, w', r1, ⟨r2.1, .inr ⟨g2, cap2, cur2, rfl, by omega, hg2, hnc2, hcm2, hcs2, ht2⟩⟩, ⟨r3.os, r3.tape, r3.output, r3.size, fun k hk _ => r3.block k hk (by simp)⟩, .inr hbg2⟩
theorem wpList_append_own2 {P : Program} (w : World) {ops : Array Oper} {rest : List Oper} {o : Oper} {a : Act} {Q : Exit → Act → World → Prop} (hgd : o.guard = none) (s x : Operand) (t : TypeId)
    (ho : o.op = .call { callee := .builtin .append, args := #[s, x], argTypes := #[t, t] })
    (base : Nat) (e : TypeId) (i : TypeInfo) (z : Value) (size bytes : Nat) (ht : P.underlying t = some (.slice e)) (hi : P.info? e = some i) (hz : i.zero = some z)
    (hsize : i.size = size) (hby : i.bytes = bytes) (hzs : z.cells.size = size) (hsz : 0 < size)
    (g cap n : Nat) (xs : List Value) (hs : a.eval s = .slice (some ⟨g, 0, none⟩) n cap) (hown : w.ownsRow base e size (.slice (some ⟨g, 0, none⟩) n cap) n xs)
    (ad : Addr) (m c : Nat) (news : List Value) (hx : a.eval x = .slice (some ad) m c) (hl : news.length = m * size) (hnews : ∀ j u, news[j]? = some u → w.cell? (ad.add j) = some u) (h1 : ∀ u ∈ news, u.oneCell' = true)
    (h63 : n + m ≤ maxLen) (hbytes : (n + m) * bytes ≤ 140737488355328) (hbase : base ≤ w.heap.size)
    (h : ∀ g' cap' w', w'.ownsRow base e size (.slice (some ⟨g', 0, none⟩) (n + m) cap') (n + m) (xs ++ news) → w.grownBy w' (some g) → (g' = g ∨ w.heap.size ≤ g') → wpList P ops Q rest (a.put o.dst (.slice (some ⟨g', 0, none⟩) (n + m) cap')) w') :
    wpList P ops Q (o :: rest) a w := by
  refine wpList_plain hgd fun K hK => ?_
  obtain ⟨g', cap', w', hr, h2, h3, h4⟩ := run_append_own2 (P := P) w base t o.type e i z size bytes ht hi hz hsize hby hzs hsz g cap n xs hown ad m c news hl hnews h1 h63 hbytes hbase
  unfold Oper.wp execOp
  simp only [ho, resolve, invoke, builtin, Sem.run_bind, Sem.run_pure, Result.andThen_ok, List.map_toArray, List.map_cons, List.map_nil, hs, hx, hr]
  exact hK _ _ (h g' cap' w' h2 h3 h4)

/-- A row of values that the call owns, with the trees that they are. -/
def RowIn (lo : Nat) (w : World) (d g cap : Nat) (Ts : List Tr) : Prop :=
  ∃ css : List (List Value), css.length = Ts.length ∧ (∀ c, c ∈ css → c.length = 9 ∧ ∀ u, u ∈ c → u.oneCell' = true) ∧ w.ownsRow lo 33 9 (.slice (some ⟨g, 0, none⟩) Ts.length cap) Ts.length css.flatten ∧
    ∀ j, ∀ h1 : j < css.length, ∀ h2 : j < Ts.length, Lies (fun b => lo ≤ b ∧ b ≠ g) w d (.agg (css[j]'h1).toArray) (Ts[j]'h2)
theorem flat_len : ∀ css : List (List Value), (∀ c, c ∈ css → c.length = 9) → css.flatten.length = css.length * 9
  | [], _ => rfl
  | c :: r, h => by
    rw [List.flatten_cons, List.length_append, flat_len r (fun x hx => h x (by simp [hx])), h c (by simp), List.length_cons]
    omega
theorem flat_at : ∀ (css : List (List Value)), (∀ c, c ∈ css → c.length = 9) → ∀ (i r : Nat), r < 9 → ∀ h : i < css.length, css.flatten[i * 9 + r]? = (css[i]'h)[r]?
  | [], _, _, _, _, h => absurd h (by simp)
  | c :: t, hc, 0, r, hr, _ => by
    rw [List.flatten_cons, Nat.zero_mul, Nat.zero_add, List.getElem?_append_left (by rw [hc c (by simp)]; exact hr)]
    rfl
  | c :: t, hc, i + 1, r, hr, h => by
    have hl := hc c (by simp)
    rw [List.flatten_cons, List.getElem?_append_right (by omega), show (i + 1) * 9 + r - c.length = i * 9 + r by omega, flat_at t (fun x hx => hc x (by simp [hx])) i r hr (by simpa using h)]
    rfl
theorem flat_drop : ∀ (css : List (List Value)), (∀ c, c ∈ css → c.length = 9) → ∀ i, (css.drop i).flatten = css.flatten.drop (i * 9)
  | [], _, i => by simp
  | c :: t, hc, 0 => by simp
  | c :: t, hc, i + 1 => by
    have hl := hc c (by simp)
    rw [List.drop_succ_cons, flat_drop t (fun x hx => hc x (by simp [hx])) i, List.flatten_cons, show (i + 1) * 9 = c.length + i * 9 by omega]
    exact (List.drop_length_add_append (l₁ := c) (l₂ := t.flatten) (i := i * 9)).symm
theorem flat_take : ∀ (css : List (List Value)), (∀ c, c ∈ css → c.length = 9) → ∀ i, (css.take i).flatten = css.flatten.take (i * 9)
  | [], _, i => by simp
  | c :: t, hc, 0 => by simp
  | c :: t, hc, i + 1 => by
    have hl := hc c (by simp)
    rw [List.take_succ_cons, List.flatten_cons, flat_take t (fun x hx => hc x (by simp [hx])) i, List.flatten_cons, show (i + 1) * 9 = c.length + i * 9 by omega]
    exact (List.take_length_add_append (l₁ := c) (l₂ := t.flatten) (i := i * 9)).symm
/-- The cells of a part of a row. -/
theorem row_news {lo d g cap : Nat} {w : World} {Ts : List Tr} {css : List (List Value)} (hc : ∀ c, c ∈ css → c.length = 9) (hown : w.ownsRow lo 33 9 (.slice (some ⟨g, 0, none⟩) Ts.length cap) Ts.length css.flatten) (i : Nat) :
    ∀ j u, (css.drop i).flatten[j]? = some u → w.cell? ((⟨g, i * 9, none⟩ : Addr).add j) = some u := by
  intro j u hj
  rw [flat_drop css hc i, List.getElem?_drop] at hj
  have := hown.cells (g := g) rfl (i * 9 + j) u hj
  have e1 : (⟨g, 0, none⟩ : Addr).add (i * 9 + j) = ⟨g, i * 9 + j, none⟩ := by unfold Addr.add; split <;> simp_all
  have e2 : (⟨g, i * 9, none⟩ : Addr).add j = ⟨g, i * 9 + j, none⟩ := by unfold Addr.add; split <;> simp_all
  rw [e1] at this
  rw [e2]
  exact this
theorem RowIn.kids {lo d g cap : Nat} {w : World} {Ts : List Tr} {ok : Nat → Prop} (h : RowIn lo w d g cap Ts) (hg : ok g) (hi : ∀ b, lo ≤ b → b ≠ g → ok b) : CapOk (some ⟨g, 0, none⟩) Ts.length cap ∧
    ∀ i, ∀ hi : i < Ts.length, ∃ b o cs, (some (⟨g, 0, none⟩ : Addr)) = some ⟨b, o, none⟩ ∧ ok b ∧ b < w.heap.size ∧ Row9 w b (o + i * 9) cs ∧ Lies ok w d (.agg cs) (Ts[i]'hi) := by
  obtain ⟨css, h1, h2, hown, h4⟩ := h
  have hlt := (hown.lt g rfl).2
  refine ⟨?_, fun i hi' => ?_⟩
  · rcases hown.2 with ⟨e, _⟩ | ⟨g', cap', cur, hv, _, _, hnc, _⟩
    · cases e
    · have e1 := Value.slice.inj hv
      rw [e1.2.2]
      exact ⟨hnc, fun e => by cases e⟩
  · refine ⟨g, 0, (css[i]'(by omega)).toArray, rfl, hg, hlt, ?_, (h4 i (by omega) hi').weak (fun b _ hb => hi b hb.1 hb.2)⟩
    intro r hr
    have hc9 : (css[i]'(by omega)).length = 9 := (h2 _ (List.getElem_mem _)).1
    have hr9 : r < 9 := by simpa [hc9] using hr
    have hfa := flat_at css (fun c hc => (h2 c hc).1) i r hr9 (by omega)
    have := hown.cells (g := g) rfl (i * 9 + r) ((css[i]'(by omega))[r]'(by omega)) (by rw [hfa, List.getElem?_eq_getElem (by omega)])
    have e1 : (⟨g, 0, none⟩ : Addr).add (i * 9 + r) = ⟨g, 0 + i * 9 + r, none⟩ := by unfold Addr.add; split <;> simp_all
    rw [e1] at this
    rw [this]
    simp
theorem RowIn.keep {lo d g cap : Nat} {w w' : World} {Ts : List Tr} (h : RowIn lo w d g cap Ts) (hk : Kept (fun b => lo ≤ b) w w') (d' : Nat) (hd : d ≤ d') : RowIn lo w' d' g cap Ts := by
  obtain ⟨css, h1, h2, hown, h4⟩ := h
  refine ⟨css, h1, h2, ⟨hown.1, ?_⟩, fun j j1 j2 => ((h4 j j1 j2).keep (hk.weak (fun b _ hb => hb.1)) (fun b _ hb => hb)).more hd⟩
  rcases hown.2 with ⟨e, e2⟩ | ⟨g', cap', cur, hv, hg, hh, r⟩
  · exact .inl ⟨e, e2⟩
  · refine .inr ⟨g', cap', cur, hv, hg, ?_, r⟩
    rw [hk.2 g' hg (Array.getElem?_eq_some_iff.1 hh).1]
    exact hh
/-- A value more. -/
theorem RowIn.more {lo d g cap g' cap' : Nat} {w w' : World} {Ts : List Tr} {css : List (List Value)} {c : List Value} {t : Tr} (h1 : css.length = Ts.length) (h2 : ∀ c, c ∈ css → c.length = 9 ∧ ∀ u, u ∈ c → u.oneCell' = true)
    (h4 : ∀ j, ∀ h1 : j < css.length, ∀ h2 : j < Ts.length, Lies (fun b => lo ≤ b ∧ b ≠ g) w d (.agg (css[j]'h1).toArray) (Ts[j]'h2))
    (hc : c.length = 9 ∧ ∀ u, u ∈ c → u.oneCell' = true) (hl : Lies (fun b => lo ≤ b ∧ b ≠ g) w d (.agg c.toArray) t)
    (hown : w'.ownsRow lo 33 9 (.slice (some ⟨g', 0, none⟩) (Ts.length + 1) cap') (Ts.length + 1) (css.flatten ++ c)) (hgr : w.grownBy w' (some g)) (hgg : g' = g ∨ w.heap.size ≤ g') : RowIn lo w' d g' cap' (Ts ++ [t]) := by
  have hkept : Kept (fun b => lo ≤ b ∧ b ≠ g) w w' := ⟨hgr.size, fun b hb hlb => hgr.block b hlb (fun e => hb.2 (Option.some.inj e))⟩
  have conv : ∀ (v : Value) (t : Tr), Lies (fun b => lo ≤ b ∧ b ≠ g) w d v t → Lies (fun b => lo ≤ b ∧ b ≠ g') w' d v t := by
    intro v t hv
    have h5 : Lies (fun b => (lo ≤ b ∧ b ≠ g) ∧ b < w.heap.size) w d v t := hv.weak (fun b hb hq => ⟨hq, hb⟩)
    exact h5.keep (hkept.weak (fun b _ hb => hb.1)) (fun b hb hq => ⟨hq.1.1, by rcases hgg with rfl | e; exact hq.1.2; omega⟩)
  refine ⟨css ++ [c], by simp [h1], ?_, ?_, ?_⟩
  · intro x hx
    rcases List.mem_append.1 hx with hx | hx
    · exact h2 x hx
    · rw [List.mem_singleton.1 hx]; exact hc
  · rw [List.flatten_append, List.length_append]
    simpa using hown
  · intro j j1 j2
    by_cases e : j < css.length
    · rw [List.getElem_append_left e, List.getElem_append_left (by omega)]
      exact conv _ _ (h4 j e (by omega))
    · have e2 : j = css.length := by simp at j1; omega
      subst e2
      rw [List.getElem_append_right (by omega), List.getElem_append_right (by omega)]
      simp only [h1, Nat.sub_self, List.getElem_cons_zero]
      exact conv _ _ hl
end Go.Proofs.YtigpfbfkdccdaaaDoor
