/- What is proved here: plain facts on how decimals are printed, and parsed with an exponent behind; conditions: none. It imports nothing of any program but plain facts. -/
import Derived.Test.YtmlmplmghlbdmaaGreatDoorM
set_option linter.unusedSimpArgs false
set_option linter.unusedVariables false
namespace Go.Proofs.YtmlmplmghlbdmaaGreatDoor
namespace Dm

theorem print_shape {d : D} (h : May d) : ∃ w p, allD w ∧ w ≠ [] ∧ (w.length = 1 ∨ w.headD 0 ≠ 48) ∧ allD p ∧ p.length = d.sc ∧
    printL d = (if d.ng then [45] else []) ++ (w ++ (if 0 < d.sc then 46 :: p else [])) ∧ num (w ++ p) = num d.ds := by
  have hm := h
  obtain ⟨h1, h2, h3, h4⟩ := h
  have hne : d.ds ≠ [] := by
    rcases h4 with ⟨e, _⟩ | ⟨e, _⟩
    · rw [e]; simp
    · exact noLead_ne e
  have hlead : d.ds.length = 1 ∨ d.ds.headD 0 ≠ 48 := by
    rcases h4 with ⟨e, _⟩ | ⟨⟨c, t, e, hc⟩, _⟩
    · left; rw [e]; rfl
    · right; rw [e]; exact hc
  have hpos : 1 ≤ d.ds.length := by
    cases hd : d.ds with
    | nil => exact absurd hd hne
    | cons => simp
  unfold printL
  by_cases hs : d.ds.length ≤ d.sc
  · have h0 : 0 < d.sc := by omega
    rw [if_pos hs]
    simp only [if_pos h0]
    refine ⟨[48], List.replicate (d.sc - d.ds.length) 48 ++ d.ds, ?_, by simp, .inl rfl, allD_append.2 ⟨allD_zeros _, h1⟩, by simp; omega, by simp, ?_⟩
    · intro c hc; simp at hc; rw [hc]; rfl
    · have e2 : [48] ++ (List.replicate (d.sc - d.ds.length) 48 ++ d.ds) = List.replicate (d.sc - d.ds.length + 1) 48 ++ d.ds := by
        rw [List.replicate_succ]; rfl
      rw [e2, num_zeros_append]
  · rw [if_neg hs]
    have ha : allD (d.ds.take (d.ds.length - d.sc)) := fun c hc => h1 c (List.mem_of_mem_take hc)
    have hb : allD (d.ds.drop (d.ds.length - d.sc)) := fun c hc => h1 c (List.mem_of_mem_drop hc)
    have hn : d.ds.take (d.ds.length - d.sc) ≠ [] := by
      intro e
      have := congrArg List.length e
      simp at this; omega
    have hl : (d.ds.take (d.ds.length - d.sc)).length = 1 ∨ (d.ds.take (d.ds.length - d.sc)).headD 0 ≠ 48 := by
      rcases hlead with e | e
      · left; simp; omega
      · right
        cases hd : d.ds with
        | nil => exact absurd hd hne
        | cons c t =>
          rw [hd] at e hs
          cases hk : (c :: t).length - d.sc with
          | zero => omega
          | succ k => simpa using e
    exact ⟨d.ds.take (d.ds.length - d.sc), d.ds.drop (d.ds.length - d.sc), ha, hn, hl, hb, by simp; omega, rfl, by rw [List.take_append_drop]⟩

theorem digit_ne {l : List UInt8} (h : allD l) (i : Nat) (hi : i < l.length) : l.getD i 0 ≠ 46 := by
  have : l.getD i 0 = l[i] := by simp [List.getD, hi]
  rw [this]
  intro e
  have := h _ (List.getElem_mem hi)
  rw [e] at this
  exact absurd this (by decide)
theorem getD_app (l m : List UInt8) (i : Nat) : (l ++ m).getD i 0 = if i < l.length then l.getD i 0 else m.getD (i - l.length) 0 := by
  by_cases h : i < l.length
  · rw [if_pos h]; simp [List.getD, List.getElem?_append_left h]
  · rw [if_neg h]; simp [List.getD, List.getElem?_append_right (Nat.le_of_not_lt h)]
theorem print_facts {d : D} (h : May d) : ∃ P, (∀ i, i < (printL d).length → ((printL d).getD i 0 = 46 ↔ i = P)) ∧ (d.sc = 0 → P = (printL d).length) ∧ (0 < d.sc → P + 1 + d.sc = (printL d).length) ∧ 0 < (printL d).length ∧ ((printL d).getD 0 0 = 45 ↔ d.ng = true) := by
  obtain ⟨w, p, hw, hn, _, hp, hpl, e, _⟩ := print_shape h
  have hw0 : 0 < w.length := List.length_pos_iff.2 hn
  rw [e]
  have key : ∀ g : List UInt8, (g = [] ∨ g = [45]) → ∃ P, (∀ i, i < (g ++ (w ++ (if 0 < d.sc then 46 :: p else []))).length → ((g ++ (w ++ (if 0 < d.sc then 46 :: p else []))).getD i 0 = 46 ↔ i = P)) ∧ (d.sc = 0 → P = (g ++ (w ++ (if 0 < d.sc then 46 :: p else []))).length) ∧ (0 < d.sc → P + 1 + d.sc = (g ++ (w ++ (if 0 < d.sc then 46 :: p else []))).length) ∧ 0 < (g ++ (w ++ (if 0 < d.sc then 46 :: p else []))).length := by
    intro g hg
    have hg1 : ∀ i, i < g.length → g.getD i 0 ≠ 46 := by
      rcases hg with rfl | rfl
      · intro i hi; simp at hi
      · intro i hi
        have : i = 0 := by simpa using hi
        subst this; simp
    refine ⟨g.length + w.length, ?_, ?_, ?_, ?_⟩
    · intro i hi
      rw [getD_app]
      by_cases h1 : i < g.length
      · rw [if_pos h1]
        exact ⟨fun x => absurd x (hg1 i h1), fun x => by omega⟩
      · rw [if_neg h1, getD_app]
        by_cases h2 : i - g.length < w.length
        · rw [if_pos h2]
          exact ⟨fun x => absurd x (digit_ne hw _ h2), fun x => by omega⟩
        · rw [if_neg h2]
          by_cases h3 : 0 < d.sc
          · rw [if_pos h3] at hi ⊢
            simp only [List.length_append, List.length_cons] at hi
            by_cases h4 : i = g.length + w.length
            · subst h4
              have : g.length + w.length - g.length - w.length = 0 := by omega
              rw [this]; simp
            · obtain ⟨j, hj⟩ : ∃ j, i - g.length - w.length = j + 1 := ⟨i - g.length - w.length - 1, by omega⟩
              rw [hj, List.getD_cons_succ]
              exact ⟨fun x => absurd x (digit_ne hp _ (by omega)), fun x => absurd x h4⟩
          · rw [if_neg h3] at hi
            simp only [List.length_append, List.length_nil] at hi
            omega
    · intro h0; rw [if_neg (by omega)]; simp
    · intro h0; rw [if_pos h0]; simp [hpl]; omega
    · simp only [List.length_append]; omega
  cases hng : d.ng with
  | true =>
    simp only [if_true]
    obtain ⟨P, a, b, c, f⟩ := key [45] (.inr rfl)
    exact ⟨P, a, b, c, f, by simp⟩
  | false =>
    simp only [Bool.false_eq_true, if_false]
    obtain ⟨P, a, b, c, f⟩ := key [] (.inl rfl)
    refine ⟨P, a, b, c, f, ?_⟩
    simp only [List.nil_append, iff_false]
    rw [getD_app, if_pos hw0]
    have : w.getD 0 0 = w[0] := by simp [List.getD, hw0]
    rw [this]
    intro e
    have := hw _ (List.getElem_mem hw0)
    rw [e] at this
    exact absurd this (by decide)

theorem exp_one {x : UInt8} (h : isD x = true) : expL [101, x] = some (dv x : Int) := by
  have h1 : x ≠ 45 := by rintro rfl; exact absurd h (by decide)
  have h2 : x ≠ 43 := by rintro rfl; exact absurd h (by decide)
  simp [expL, h1, h2, h, num_one]
theorem parseU_whole_e {ng : Bool} {w : List UInt8} {x : UInt8} (hw : allD w) (h1 : w ≠ []) (h2 : w.length = 1 ∨ w.headD 0 ≠ 48) (hx : isD x = true) : parseU ng (w ++ [101, x]) = some (fitL ng w (0 - (dv x : Int))) := by
  have a := takeWhile_all (m := [101, x]) hw (by intro c t e; cases e; rfl)
  unfold parseU
  rw [a.1, a.2, if_neg, if_neg]
  · rw [exp_one hx]; rfl
  · simp
  · rintro (e | ⟨e, e'⟩)
    · exact h1 e
    · rcases h2 with g | g
      · omega
      · exact g e'
theorem parseU_point_e {ng : Bool} {w p : List UInt8} {x : UInt8} (hw : allD w) (hp : allD p) (h1 : w ≠ []) (h2 : w.length = 1 ∨ w.headD 0 ≠ 48) (h3 : p ≠ []) (hx : isD x = true) : parseU ng (w ++ 46 :: (p ++ [101, x])) = some (fitL ng (w ++ p) ((p.length : Int) - (dv x : Int))) := by
  have a := takeWhile_all (m := 46 :: (p ++ [101, x])) hw (by intro c t e; cases e; rfl)
  have b := takeWhile_all (m := [101, x]) hp (by intro c t e; cases e; rfl)
  unfold parseU
  rw [a.1, a.2, if_neg, if_pos (by rfl), List.tail_cons, b.1, b.2, if_neg h3]
  · rw [exp_one hx]; rfl
  · rintro (e | ⟨e, e'⟩)
    · exact h1 e
    · rcases h2 with g | g
      · omega
      · exact g e'
/-- A printed decimal with one digit of an exponent behind. -/
theorem parse_print_e {d : D} {x : UInt8} (h : May d) (hx : isD x = true) : ∃ r, parseL (printL d ++ [101, x]) = some r ∧ Rep (sg d * p10 (dv x)) d.sc r := by
  obtain ⟨w, p, hw, hn, hl, hp, hpl, e, hnum⟩ := print_shape h
  refine ⟨fitL d.ng (w ++ p) ((d.sc : Int) - (dv x : Int)), ?_, ?_⟩
  · rw [e, List.append_assoc, List.append_assoc, parse_sign d.ng hw hn]
    by_cases h0 : 0 < d.sc
    · rw [if_pos h0]
      have hpn : p ≠ [] := by rintro rfl; simp at hpl; omega
      rw [List.cons_append, parseU_point_e hw hp hn hl hpn hx, hpl]
    · rw [if_neg h0]
      have hp0 : p = [] := by cases p with
        | nil => rfl
        | cons => simp at hpl; omega
      rw [List.nil_append, parseU_whole_e hw hn hl hx, hp0, List.append_nil, show d.sc = 0 by omega]; rfl
  · have hr := fit_rep d.ng (allD_append.2 ⟨hw, hp⟩) ((d.sc : Int) - (dv x : Int))
    rw [hnum] at hr
    have hu := (Rep.up (min d.sc (dv x))).2 hr
    have e1 : ((d.sc : Int) - (dv x : Int)).toNat + min d.sc (dv x) = d.sc := by omega
    have e2 : (-((d.sc : Int) - (dv x : Int))).toNat + min d.sc (dv x) = dv x := by omega
    rw [e1, Int.mul_assoc, ← p10_add, e2] at hu
    exact hu

theorem step_key {z : Int} {s : Nat} {y : D} (h : sg y * p10 s = z * p10 y.sc) (m : Int) (d : D) : sg d * p10 y.sc = sg y * m * p10 d.sc ↔ sg d * p10 s = z * m * p10 d.sc := by
  have e : sg y * m * p10 d.sc * p10 s = z * m * p10 d.sc * p10 y.sc := by
    rw [Int.mul_right_comm (sg y * m), Int.mul_right_comm (sg y), h, Int.mul_right_comm z, Int.mul_right_comm (z * m)]
  constructor
  · intro g
    apply p10_cancel (k := y.sc)
    rw [Int.mul_right_comm, g, e]
  · intro g
    apply p10_cancel (k := s)
    rw [Int.mul_right_comm, g, e]
theorem Rep.times {z : Int} {s : Nat} {y : D} {r : Option D} {m : Int} (h : Rep z s (some y)) : Rep (sg y * m) y.sc r ↔ Rep (z * m) s r := by
  cases r with
  | none => simp only [Rep, ne_eq, step_key h.2]
  | some d => simp only [Rep, step_key h.2]
theorem ten_none {y : D} (h : May y) (hr : Rep (sg y * 10) y.sc none) : y.sc = 0 ∧ y.ds.length = 60 ∧ noLead y.ds := by
  obtain ⟨h1, h2, h3, h4⟩ := id h
  rcases h4 with ⟨e1, e2, e3⟩ | ⟨hl, ht⟩
  · exfalso
    refine hr ⟨false, [48], 0⟩ zero_may ?_
    have : sg y = 0 := by unfold sg; rw [e1, e3]; rfl
    rw [this]; simp [sg, sgn, num, dv]
  · by_cases g : 0 < y.sc
    · exfalso
      refine hr ⟨y.ng, y.ds, y.sc - 1⟩ ⟨h1, h2, by simp only; omega, .inr ⟨hl, .inr (ht.resolve_left (by omega))⟩⟩ ?_
      show sg y * p10 y.sc = sg y * 10 * p10 (y.sc - 1)
      obtain ⟨k, hk⟩ : ∃ k, y.sc = k + 1 := ⟨y.sc - 1, by omega⟩
      rw [hk, p10_succ, Nat.add_sub_cancel, Int.mul_assoc, Int.mul_comm 10]
    · refine ⟨by omega, ?_, hl⟩
      apply Classical.byContradiction
      intro g2
      refine hr ⟨y.ng, y.ds ++ [48], 0⟩ ⟨allD_append.2 ⟨h1, by intro c hc; simp at hc; rw [hc]; rfl⟩, by simp; omega, by simp, .inr ⟨?_, .inl rfl⟩⟩ ?_
      · obtain ⟨c, t, e, hc⟩ := hl
        exact ⟨c, t ++ [48], by rw [e]; rfl, hc⟩
      · show sgn y.ng (num (y.ds ++ [48])) * p10 y.sc = sg y * 10 * p10 0
        have : num (y.ds ++ [48]) = num y.ds * 10 := by rw [num_append, num_one]; rfl
        rw [this, sgn_mul, show y.sc = 0 by omega]; rfl
theorem ten_more {y : D} (h : May y) (hr : Rep (sg y * 10) y.sc none) (m : Nat) : Rep (sg y * (10 * p10 m)) y.sc none := by
  obtain ⟨e1, e2, c, t, e3, hc⟩ := ten_none h hr
  intro d hd e
  rw [e1] at e
  have e' : num d.ds = num y.ds * (10 * 10 ^ m) * 10 ^ d.sc := by
    have := congrArg Int.natAbs e
    rw [Int.natAbs_mul, Int.natAbs_mul, Int.natAbs_mul, Int.natAbs_mul] at this
    simpa [sg, sgn_abs, p10] using this
  have hlt := num_lt hd.1
  have p60 : 10 ^ d.ds.length ≤ 10 ^ 60 := Nat.pow_le_pow_right (by omega) hd.2.1
  have hge : 10 ^ t.length ≤ num y.ds := by
    rw [e3]
    have : allD (c :: t) := by rw [← e3]; exact h.1
    exact num_ge (allD_cons.1 this).1 hc
  have ht : t.length = 59 := by rw [e3] at e2; simpa using e2
  rw [ht] at hge
  have a1 : 10 ^ 59 * 10 ≤ num y.ds * (10 * 10 ^ m) := Nat.mul_le_mul hge (by have := pow_pos' m; omega)
  have a2 : 10 ^ 59 * 10 * 1 ≤ num y.ds * (10 * 10 ^ m) * 10 ^ d.sc := Nat.mul_le_mul a1 (pow_pos' d.sc)
  rw [← e'] at a2
  omega
theorem next_some {g : Int} {k s : Nat} {y : D} {r : Option D} (h : Rep (g * p10 k) s (some y)) (hr : Rep (sg y * 10) y.sc r) : Rep (g * p10 (k + 1)) s r := by
  rw [p10_succ, ← Int.mul_assoc]
  exact (Rep.times h).1 hr
theorem next_none {g : Int} {k K s : Nat} {y : D} (h : Rep (g * p10 k) s (some y)) (hr : Rep (sg y * 10) y.sc none) (hk : k < K) : Rep (g * p10 K) s none := by
  obtain ⟨m, hm⟩ : ∃ m, K = k + 1 + m := ⟨K - (k + 1), by omega⟩
  have := (Rep.times h).1 (ten_more h.1 hr m)
  rw [hm, p10_add, p10_succ]
  rw [Int.mul_assoc, ← Int.mul_assoc (p10 k)] at this
  exact this
end Dm
end Go.Proofs.YtmlmplmghlbdmaaGreatDoor
