/- What is proved here: the whole numbers below, above and near a decimal, in the words of numbers; conditions: as each theorem states. What is proved here: what isHalfOrMore and whole of package divide do with a decimal that may be, walked; condition: the table of powers of ten lies in the world. What is proved here: what whole of package divide does with a decimal that may be, walked; condition: the table of powers of ten lies in the world. What is proved here: what Floor, Ceil and Round of package divide do with a decimal that may be, walked; condition: the table of powers of ten lies in the world. -/
import Derived.Test.YtmlmplmghlbdmaaGreatDoorMt
import Derived.Test.YtmlmplmghlbdmaaGreatDoorRt
import Derived.Test.YtmlmplmghlbdmaaGreatDoorDl
import Derived.Deep.CutRange
import Derived.Deep.RegionHeld3
set_option linter.unusedSimpArgs false
set_option linter.unusedVariables false
namespace Go.Proofs.YtmlmplmghlbdmaaGreatDoor
namespace Dm

theorem rep_int {ng : Bool} {n : Nat} {r : Option D} (h : Rep (sgn ng n) 0 r) (hn : n < 10 ^ 60) : ∃ d, r = some d ∧ d.sc = 0 ∧ May d ∧ sg d = sgn ng n := by
  by_cases h0 : n = 0
  · subst h0
    refine ⟨_, rep_zero h, rfl, zero_may, ?_⟩
    rw [sgn_zero]
    rfl
  · obtain ⟨ds, h1, h2, h3, _⟩ := rep_nat h hn (by omega)
    exact ⟨_, h1, rfl, h2, by unfold sg; rw [h3]⟩
theorem whole_lt {d : D} (h : May d) (k : Nat) (hk : k ≤ 1) (hz : 0 < d.sc ∨ k = 0) : num d.ds / 10 ^ d.sc + k < 10 ^ 60 := by
  have h1 := num_lt h.1
  have h2 := Nat.pow_le_pow_right (n := 10) (by omega) h.2.1
  rcases hz with g | g
  · have h3 : 10 ^ 1 ≤ 10 ^ d.sc := Nat.pow_le_pow_right (by omega) g
    have h4 : num d.ds / 10 ^ d.sc ≤ num d.ds / 10 ^ 1 := Nat.div_le_div_left h3 (by decide)
    have h5 : num d.ds / 10 ^ 1 ≤ 10 ^ 60 / 10 ^ 1 := Nat.div_le_div_right (by omega)
    have h6 : (10 : Nat) ^ 60 / 10 ^ 1 + 1 < 10 ^ 60 := by decide
    omega
  · have h4 : num d.ds / 10 ^ d.sc ≤ num d.ds := Nat.div_le_self _ _
    omega
theorem whole_same {d : D} {r : Option D} (h : May d) (hz : d.sc = 0) (hr : Rep (sgn d.ng (num d.ds / 10 ^ d.sc + 0)) 0 r) : r = some d := by
  rw [hz, Nat.pow_zero, Nat.div_one, Nat.add_zero] at hr
  refine hr.uniq (Rep.of_eqv h ?_)
  rw [hz]; rfl
theorem tail_of {d : D} (h : May d) (hz : 0 < d.sc) : num d.ds % 10 ≠ 0 := by
  obtain ⟨h1, h2, h3, h4⟩ := h
  rcases h4 with ⟨_, g, _⟩ | ⟨_, g | g⟩
  · omega
  · omega
  · exact tail_mod h1 g
/-- Between the whole numbers below and above. -/
theorem near_spec {d f c : D} (hd : May d) (hz : 0 < d.sc) (hf : Rep (sgn d.ng (num d.ds / 10 ^ d.sc + if d.ng then 1 else 0)) 0 (some f)) (hc : Rep (sgn d.ng (num d.ds / 10 ^ d.sc + if d.ng then 0 else 1)) 0 (some c)) :
    f.sc = 0 ∧ c.sc = 0 ∧ sg c = sg f + 1 ∧ sg f * p10 d.sc < sg d ∧ sg d < sg c * p10 d.sc := by
  have hk1 : (if d.ng then 1 else 0) ≤ 1 := by cases d.ng <;> decide
  have hk2 : (if d.ng then 0 else 1) ≤ 1 := by cases d.ng <;> decide
  obtain ⟨f', e1, f1, f2, f3⟩ := rep_int hf (whole_lt hd _ hk1 (.inl hz))
  obtain ⟨c', e2, c1, c2, c3⟩ := rep_int hc (whole_lt hd _ hk2 (.inl hz))
  injection e1 with e1
  injection e2 with e2
  subst e1 e2
  have ht := tail_of hd hz
  have hdm := Nat.div_add_mod (num d.ds) (10 ^ d.sc)
  have hml := Nat.mod_lt (num d.ds) (pow_pos' d.sc)
  have hm0 : 0 < num d.ds % 10 ^ d.sc := by
    rcases Nat.eq_zero_or_pos (num d.ds % 10 ^ d.sc) with h | h
    · exfalso
      apply ht
      obtain ⟨k, hk⟩ : ∃ k, d.sc = k + 1 := ⟨d.sc - 1, by omega⟩
      rw [← hdm, h, Nat.add_zero, hk, Nat.pow_succ, Nat.mul_assoc, Nat.mul_comm (10 ^ k), Nat.mul_assoc, Nat.mul_mod_right]
    · exact h
  refine ⟨f1, c1, ?_, ?_, ?_⟩
  · rw [f3, c3]
    unfold sgn
    cases d.ng <;> simp <;> omega
  all_goals
    rw [show sg d = sgn d.ng (num d.ds) from rfl]
    first | rw [f3] | rw [c3]
    unfold p10
    generalize num d.ds / 10 ^ d.sc = W at hdm
    generalize num d.ds % 10 ^ d.sc = R at hdm hml hm0
    generalize 10 ^ d.sc = P at hdm hml
    have e : num d.ds = W * P + R := by rw [← hdm, Nat.mul_comm]
    have eI : (num d.ds : Int) = (W : Int) * (P : Int) + (R : Int) := by rw [e, Int.natCast_add, Int.natCast_mul]
    unfold sgn
    cases d.ng
    · simp only [Bool.false_eq_true, if_false, if_true]
      rw [eI]
      try rw [Int.natCast_add, Int.add_mul]
      generalize (W : Int) * (P : Int) = q
      simp
      try omega
    · simp only [if_true]
      rw [eI]
      rw [Int.neg_mul]
      try rw [Int.natCast_add, Int.add_mul]
      generalize (W : Int) * (P : Int) = q
      simp
      try omega
end Dm
theorem near_cmp {d f c : Dm.D} (hf : f.sc = 0) (hc : c.sc = 0) (h1 : Dm.sg f * Dm.p10 d.sc < Dm.sg d) (h2 : Dm.sg d < Dm.sg c * Dm.p10 d.sc) : sgI (Dm.sg f * Dm.p10 d.sc - Dm.sg d * Dm.p10 f.sc) = -1 ∧ sgI (Dm.sg d * Dm.p10 c.sc - Dm.sg c * Dm.p10 d.sc) = -1 := by
  rw [hf, hc, Dm.p10_zero, Int.mul_one]
  constructor
  · unfold sgI; rw [if_pos (by omega)]
  · unfold sgI; rw [if_pos (by omega)]
end Go.Proofs.YtmlmplmghlbdmaaGreatDoor

namespace Go.Proofs.YtmlmplmghlbdmaaGreatDoor
open Go.RowKit
set_option linter.unusedVariables false
set_option linter.unusedSimpArgs false

set_option maxRecDepth 100000 in
set_option maxHeartbeats 2000000 in
theorem half_0 (x : Bool) (y : List UInt8) (w : World) :
    Calls Tryz.prog 50 #[.agg #[.bool x, .string ⟨y.toArray⟩, .int .i64 0]] w fun e w' => e = .returned (.bool false) ∧ Below w.heap.size w w' := by
  have hS := Box3.start w (.bool x) (.string ⟨y.toArray⟩) (.int .i64 0) 23
  obtain ⟨_, _, a0, a1, a2⟩ := id hS
  go_enter Tryz.func50, Tryz.ntmps50
  go_wp2_with fail
  go_ret
  exact ⟨rfl, hS.1⟩
set_option maxRecDepth 100000 in
set_option maxHeartbeats 2000000 in
theorem half_far (x : Bool) (y : List UInt8) (z : Nat) (w : World) (h0 : 0 < z) (hz : y.length < z) (hz1 : z ≤ 60) :
    Calls Tryz.prog 50 #[.agg #[.bool x, .string ⟨y.toArray⟩, .int .i64 (z : Int)]] w fun e w' => e = .returned (.bool false) ∧ Below w.heap.size w w' := by
  have hS := Box3.start w (.bool x) (.string ⟨y.toArray⟩) (.int .i64 (z : Int)) 23
  obtain ⟨_, _, a0, a1, a2⟩ := id hS
  have g1 : ¬ (z : Int) ≤ 0 := by omega
  have g2 : (y.length : Int) < (z : Int) := by omega
  go_enter Tryz.func50, Tryz.ntmps50
  go_wp2_with fail
  go_ret
  exact ⟨rfl, hS.1⟩
set_option maxRecDepth 100000 in
set_option maxHeartbeats 2000000 in
theorem half_in (x : Bool) (y : List UInt8) (z : Nat) (b : Bool) (w : World) (h0 : 0 < z) (hz : z ≤ y.length) (hy : y.length ≤ 60) (hb : decide (53 ≤ (y.getD (y.length - z) 0).toNat) = b) :
    Calls Tryz.prog 50 #[.agg #[.bool x, .string ⟨y.toArray⟩, .int .i64 (z : Int)]] w fun e w' => e = .returned (.bool b) ∧ Below w.heap.size w w' := by
  have hS := Box3.start w (.bool x) (.string ⟨y.toArray⟩) (.int .i64 (z : Int)) 23
  obtain ⟨_, _, a0, a1, a2⟩ := id hS
  have g1 : ¬ (z : Int) ≤ 0 := by omega
  have g2 : ¬ (y.length : Int) < (z : Int) := by omega
  obtain ⟨k, hk⟩ : ∃ k, y.length - z = k := ⟨_, rfl⟩
  have hkl : k < y.length := by omega
  have hk2 : (y.length : Int) - (z : Int) = (k : Int) := by omega
  rw [hk] at hb
  have e : y.getD k 0 = y[k]'hkl := by simp [List.getD, hkl]
  rw [e] at hb
  have HB := hide hb
  clear hb hk
  go_enter Tryz.func50, Tryz.ntmps50
  go_wp2_with fail
  go_ret
  refine ⟨?_, hS.1⟩
  rw [← unhide HB]
  have e3 : ∀ c : UInt8, decide ((53 : Int) ≤ (c.toNat : Int)) = decide (53 ≤ c.toNat) := by
    intro c
    exact decide_eq_decide.2 (by omega)
  rw [← e3]
  rfl
/-- It answers, one way or the other. -/
theorem half_any (x : Bool) (y : List UInt8) (z : Nat) (w : World) (h : Dm.May ⟨x, y, z⟩) :
    Calls Tryz.prog 50 #[.agg #[.bool x, .string ⟨y.toArray⟩, .int .i64 (z : Int)]] w fun e w' => e = .returned (.bool (decide (0 < z) && (decide (z ≤ y.length) && decide (53 ≤ (y.getD (y.length - z) 0).toNat)))) ∧ Below w.heap.size w w' := by
  obtain ⟨l1, l2, l3⟩ := may_len h
  simp only at l1 l2 l3
  by_cases h0 : 0 < z
  · by_cases hz : z ≤ y.length
    · rw [decide_eq_true h0, decide_eq_true hz, Bool.true_and, Bool.true_and]
      exact half_in x y z _ w h0 hz l2 rfl
    · rw [decide_eq_true h0, decide_eq_false hz, Bool.true_and, Bool.false_and]
      exact half_far x y z w h0 (by omega) l3
  · have : z = 0 := by omega
    subst this
    exact half_0 x y w
end Go.Proofs.YtmlmplmghlbdmaaGreatDoor

namespace Go.Proofs.YtmlmplmghlbdmaaGreatDoor
open Go.RowKit
set_option linter.unusedVariables false
set_option linter.unusedSimpArgs false

theorem Dm.rep_ex {ng : Bool} {n : Nat} (hn : n < 10 ^ 60) : ∃ (b : Bool) (l : List UInt8), Dm.May ⟨b, l, 0⟩ ∧ Dm.sg ⟨b, l, 0⟩ = Dm.sgn ng n ∧ ∀ r, Dm.Rep (Dm.sgn ng n) 0 r → r = some ⟨b, l, 0⟩ := by
  have hr : ∃ r, Dm.Rep (Dm.sgn ng n) 0 r := by
    by_cases h0 : n = 0
    · rw [h0, Dm.sgn_zero]; exact ⟨_, Dm.zero_rep 0⟩
    · obtain ⟨l, hl, e⟩ := Dm.digits_exist n
      have hT := Dm.tl_allD hl
      have hTn : Dm.num (Dm.tl l) = n := by rw [Dm.tl_num, e]
      have hne : Dm.tl l ≠ [] := by
        intro h
        rw [h, Dm.num_nil] at hTn
        omega
      have hf := Dm.fin_rep (ng := ng) (s := 0) hT (Dm.tl_lead l hne) (.inl rfl)
      rw [hTn] at hf
      exact ⟨_, hf⟩
  obtain ⟨r, hr⟩ := hr
  obtain ⟨d, e, h1, h2, h3⟩ := Dm.rep_int hr hn
  subst e
  cases d with
  | mk b l s =>
    simp only at h1
    subst h1
    exact ⟨b, l, h2, h3, fun r' h' => h'.uniq hr⟩
theorem decimal_w (x : Bool) (y : List UInt8) (k : Nat) (d1 : Bool) (d2 : List UInt8) (w : World) (hl : y.length ≤ 60) (hd : Dm.allD y) (hfix : Hid (∀ r, Dm.Rep (Dm.sgn x (Dm.num (y.take k))) 0 r → r = some ⟨d1, d2, 0⟩)) (htab : Pow w) :
    Calls Tryz.prog 35 #[.bool x, .string ((⟨y.toArray⟩ : ByteArray).extract 0 k), .int .i64 0] w fun e w' => e = .returned (.tuple #[.agg #[.bool d1, .string ⟨d2.toArray⟩, .int .i64 0], .int .i64 0]) ∧ Below w.heap.size w w' := by
  have e1 : (⟨y.toArray⟩ : ByteArray).extract 0 k = ⟨(y.take k).toArray⟩ := by
    apply str_ext
    rw [Go.Lib.extract_data, mk_list, List.drop_zero, Nat.sub_zero]
  rw [e1]
  refine (decimal_any x (y.take k) 0 w (by rw [List.length_take]; omega) (by decide) (by decide) (fun c hc => hd c (List.mem_of_mem_take hc)) htab).mono ?_
  rintro e w' ⟨r, rfl, hr, hB⟩
  rw [show (-(0 : Int)).toNat = 0 from rfl, Dm.p10_zero, Int.mul_one] at hr
  have := unhide hfix r hr
  subst this
  exact ⟨rfl, hB⟩
theorem add_u (d1 : Bool) (d2 : List UInt8) (x : Bool) (w : World) (hm : Dm.May ⟨d1, d2, 0⟩) :
    Calls Tryz.prog 68 #[.agg #[.bool d1, .string ⟨d2.toArray⟩, .int .i64 0], .agg #[.bool x, .string ⟨#[49]⟩, .int .i64 0]] w fun e w' => ∃ r, e = .returned (.tuple #[.agg #[.bool (rx r), .string (ry r), .int .i64 (rz r)], .int .i64 (re r)]) ∧ Hid (Dm.Rep (Dm.sg ⟨d1, d2, 0⟩ + Dm.sgn x 1) 0 r) ∧ Below w.heap.size w w' := by
  refine (add_r d1 d2 0 x [49] 0 w hm (unit_may x)).mono ?_
  rintro e w' ⟨r, rfl, hr, hB⟩
  rw [unit_sg, Dm.p10_zero, Int.mul_one, Int.mul_one] at hr
  exact ⟨r, rfl, hide hr, hB⟩
theorem Box3.lt {w0 w : World} {x y z : Value} (h : Box3 w0 x y z w) : w0.heap.size < w.heap.size := h.2.1
theorem Box3.cells_a {w0 w : World} {x y z : Value} (h : Box3 w0 x y z w) (o : Obj) : (w.alloc o).cell? ⟨w0.heap.size, 0, none⟩ = some x ∧ (w.alloc o).cell? ⟨w0.heap.size, 1, none⟩ = some y ∧ (w.alloc o).cell? ⟨w0.heap.size, 2, none⟩ = some z := (h.alloc o).2.2
theorem Box3.cells_s {w0 w : World} {x y z : Value} {g : Nat} (h : Box3 w0 x y z w) (hg : w0.heap.size < g) (p q r : Value) : (((w.setCell ⟨g, 0, none⟩ p).setCell ⟨g, 1, none⟩ q).setCell ⟨g, 2, none⟩ r).cell? ⟨w0.heap.size, 0, none⟩ = some x ∧ (((w.setCell ⟨g, 0, none⟩ p).setCell ⟨g, 1, none⟩ q).setCell ⟨g, 2, none⟩ r).cell? ⟨w0.heap.size, 1, none⟩ = some y ∧ (((w.setCell ⟨g, 0, none⟩ p).setCell ⟨g, 1, none⟩ q).setCell ⟨g, 2, none⟩ r).cell? ⟨w0.heap.size, 2, none⟩ = some z :=
  (h.step (B := g) hg (set3_below (Below.refl g w) (Nat.le_refl _) p q r)).2.2
theorem Box3.cells_ad {w0 w : World} {x y z : Value} (h : Box3 w0 x y z w) (o : Obj) : (w.alloc o).drew.cell? ⟨w0.heap.size, 0, none⟩ = some x ∧ (w.alloc o).drew.cell? ⟨w0.heap.size, 1, none⟩ = some y ∧ (w.alloc o).drew.cell? ⟨w0.heap.size, 2, none⟩ = some z := (h.alloc o).drew.2.2
theorem Has3.seto {b c i : Nat} {x y z : Value} {w : World} (h : Has3 b x y z w) (hbc : b ≠ c) (v : Value) : Has3 b x y z (w.setCell ⟨c, i, none⟩ v) := by
  have n : ∀ j, (⟨c, i, none⟩ : Addr) ≠ ⟨b, j, none⟩ := by intro j q; injection q with q1; exact hbc q1.symm
  obtain ⟨h0, a0, a1, a2⟩ := h
  exact ⟨by simpa [World.setCell] using h0, by rw [World.cell?_setCell_other (h := n 0)]; exact a0, by rw [World.cell?_setCell_other (h := n 1)]; exact a1, by rw [World.cell?_setCell_other (h := n 2)]; exact a2⟩
theorem Has3.set0 {b : Nat} {x y z : Value} {w : World} (h : Has3 b x y z w) (v : Value) : Has3 b v y z (w.setCell ⟨b, 0, none⟩ v) := by
  have n01 : (⟨b, 0, none⟩ : Addr) ≠ ⟨b, 1, none⟩ := by intro q; injection q with _ q2; cases q2
  have n02 : (⟨b, 0, none⟩ : Addr) ≠ ⟨b, 2, none⟩ := by intro q; injection q with _ q2; cases q2
  obtain ⟨h0, a0, a1, a2⟩ := h
  exact ⟨by simpa [World.setCell] using h0, by rw [World.cell?_setCell_same (h := a0)], by rw [World.cell?_setCell_other (h := n01)]; exact a1, by rw [World.cell?_setCell_other (h := n02)]; exact a2⟩
theorem Own3.seto {b c i : Nat} {x y z : Value} {w : World} (h : Own3 b x y z w) (hbc : b ≠ c) (v : Value) : Own3 b x y z (w.setCell ⟨c, i, none⟩ v) := by
  obtain ⟨h0, f0, f1, f2⟩ := h
  exact ⟨h0.seto hbc v, by rw [World.frozen?_setCell]; exact f0, by rw [World.frozen?_setCell]; exact f1, by rw [World.frozen?_setCell]; exact f2⟩

set_option maxRecDepth 100000 in
set_option maxHeartbeats 4000000 in
theorem whole_r (x : Bool) (y : List UInt8) (z : Nat) (far : Bool) (w : World) (h : Dm.May ⟨x, y, z⟩) (hfz : 0 < z ∨ far = false) (htab : Pow w) :
    Calls Tryz.prog 47 #[.agg #[.bool x, .string ⟨y.toArray⟩, .int .i64 (z : Int)], .bool far] w fun e w' => ∃ r, e = .returned (tV r) ∧ Dm.Rep (Dm.sgn x (Dm.num y / 10 ^ z + far.toNat)) 0 r ∧ Below w.heap.size w w' := by
  have hS := Box3.start w (.bool x) (.string ⟨y.toArray⟩) (.int .i64 (z : Int)) 23
  have hO := Own3.start (w.alloc (.cells #[.bool x, .string ⟨y.toArray⟩, .int .i64 (z : Int)] 23)) (.bool false) (.string ⟨#[]⟩) (.int .i64 0) 23
  have hsz : (w.alloc (.cells #[.bool x, .string ⟨y.toArray⟩, .int .i64 (z : Int)] 23)).heap.size = w.heap.size + 1 := by simp
  rw [hsz] at hO
  replace hS := hS.alloc (.cells #[.bool false, .string ⟨#[]⟩, .int .i64 0] 23)
  obtain ⟨l1, l2, l3⟩ := may_len h
  simp only at l1 l2 l3
  have hma := dV_may h
  have hsa : (⟨y.toArray⟩ : ByteArray).size ≤ maxLen := by unfold maxLen; rw [mk_size]; omega
  obtain ⟨k, hk⟩ : ∃ k, y.length - z = k := ⟨_, rfl⟩
  have hmax : max 0 ((y.length : Int) - (z : Int)) = (k : Int) := by omega
  have hk0 : (0 : Int) ≤ (k : Int) := by omega
  have hk1 : (k : Int) ≤ (y.length : Int) := by omega
  have hk2 : k ≤ y.length := by omega
  have hw : IntKind.i64.wrap ((y.length : Int) - (z : Int)) = (y.length : Int) - (z : Int) := wrap_id (by omega) (by omega)
  have hW : Dm.num (y.take k) = Dm.num y / 10 ^ z := by
    by_cases g : z ≤ y.length
    · have := (Dm.split_num h.1 k (by omega)).1
      rw [this]
      congr 2
      simp only
      omega
    · have e : k = 0 := by omega
      have hlt := Dm.num_lt h.1
      simp only at hlt
      have hle := Nat.pow_le_pow_right (n := 10) (by omega) (show y.length ≤ z from by omega)
      rw [e, Nat.div_eq_of_lt (by omega)]
      rfl
  have hlt : Dm.num y / 10 ^ z + far.toNat < 10 ^ 60 := Dm.whole_lt h far.toNat (by cases far <;> decide) (by rcases hfz with g | g; exact .inl g; right; rw [g]; rfl)
  obtain ⟨d1, d2, m1, m2, m3⟩ := Dm.rep_ex (ng := x) (n := Dm.num y / 10 ^ z) (by omega)
  have m3' := m3
  rw [← hW] at m3'
  have HFIX := hide m3'
  have HM2 := hide m2
  have HM3 := hide m3
  have HMA := hide hma
  have hd := h.1
  simp only at hd
  clear m3 m3' m2 hma hk hW hsz
  have z0 : True := trivial
  go_enter Tryz.func47, Tryz.ntmps47
  obtain ⟨_, _, a0, a1, a2⟩ := id hS
  go_upto_region 3 with (go_at_call 31; refine (may_b x ⟨y.toArray⟩ z true _ hsa (unhide HMA)).mono ?_; rintro e w1 ⟨rfl, hb1⟩; replace hS := hS.next hb1; replace hO := hO.next hb1; clear a0 a1 a2 hb1)
  obtain ⟨_, _, a0, a1, a2⟩ := id hS
  have hP := htab.next hS.1
  go_cut [6, 7] from 9 to 28 (fun v6 v7 wx => ∃ g : Nat, v6 = .pointer (some ⟨g, 0, none⟩) ∧ v7 = .int .i64 0 ∧ w1.heap.size ≤ g ∧ Below w1.heap.size w1 wx ∧ Has3 g (.bool d1) (.string ⟨d2.toArray⟩) (.int .i64 0) wx)
  case first =>
    have hB : Below w1.heap.size w1 w1.drew := (Below.refl _ _).drew
    go_region_held3 (fun w' => w'.cell? ⟨w.heap.size, 0, none⟩ = some (.bool x) ∧ w'.cell? ⟨w.heap.size, 1, none⟩ = some (.string ⟨y.toArray⟩) ∧ w'.cell? ⟨w.heap.size, 2, none⟩ = some (.int .i64 (z : Int))) (first | with_reducible exact Box3.cells (hS.next hB) | with_reducible exact Box3.cells_a (hS.next hB) _ | with_reducible exact Box3.cells_ad hS _ | with_reducible exact Box3.cells_s (hS.next hB) (Nat.lt_of_lt_of_le (Box3.lt hS) hg) _ _ _)
      (first | (go_at_call 35; first | ((fail_if_success have := hA); refine (decimal_w x y k d1 d2 _ l2 hd HFIX (hP.next hB)).mono ?_; rintro e w' ⟨rfl, hbw⟩; replace hB := hB.trans (hbw.mono hB.size); clear hbw) | ((fail_if_success have := hA); refine (decimal_w x y k d1 d2 _ l2 hd HFIX (hP.next ((Below.refl _ _).alloc (Nat.le_refl _) _).drew)).mono ?_; rintro e w' ⟨rfl, hbw⟩; have hg := Nat.le_refl w1.heap.size; have hA := Own3.next (Own3.next (Own3.start _ (.bool false) (.string ⟨#[]⟩) (.int .i64 0) 23) (Below.refl _ _).drew) hbw; replace hB := (((Below.refl _ _).alloc (Nat.le_refl _) _).drew).trans (hbw.mono (((Below.refl w1.heap.size w1).alloc (Nat.le_refl _) (.cells #[.bool false, .string ⟨#[]⟩, .int .i64 0] 23)).drew).size); obtain ⟨⟨_, k0, k1, k2⟩, f0, f1, f2⟩ := id hA; clear hbw)))
    all_goals
      go_wp2_with fail
      go_meet
      case rel =>
        first
        | exact ⟨_, rfl, rfl, hB.size, hB.alloc hB.size _, Has3.start _ _ _ _ _⟩
        | exact ⟨_, rfl, rfl, hg, set3_below hB hg _ _ _, (hA.store _ _ _).1⟩
  case rest =>
  obtain ⟨g, rfl, rfl, hg, hB, A⟩ := hcut
  have hgw : w.heap.size + 1 < g := Nat.lt_of_lt_of_le hO.1.1 hg
  replace hS := hS.next hB
  replace hO := hO.next hB
  clear a0 a1 a2 hP hB HFIX
  have hP := htab.next hS.1
  cases far with
  | false =>
    obtain ⟨_, _, a0, a1, a2⟩ := id hS
    obtain ⟨⟨_, o0, o1, o2⟩, f0, f1, f2⟩ := id hO
    obtain ⟨_, b0, b1, b2⟩ := id A
    go_wp2_with fail
    refine bodyPost_ret (v := tV (some ⟨d1, d2, 0⟩)) ?_ rfl ⟨some ⟨d1, d2, 0⟩, rfl, ?_, ?_⟩
    · simp [results, Tryz.results47, go_sem, o0, o1, o2, tV, rx, ry, rz, re]
    · exact Dm.Rep.of_eqv m1 (by rw [unhide HM2])
    · exact set3_below hS.1 (by omega) _ _ _
  | true =>
    obtain ⟨_, _, a0, a1, a2⟩ := id hS
    obtain ⟨⟨_, o0, o1, o2⟩, f0, f1, f2⟩ := id hO
    obtain ⟨_, b0, b1, b2⟩ := id A
    go_upto_region 7 with (go_at_call 51; refine (int_one _ hP).mono ?_; rintro e w5 ⟨rfl, hb5⟩; replace hS := hS.next hb5; replace hO := hO.next hb5; replace A := A.next hb5; clear a0 a1 a2 o0 o1 o2 b0 b1 b2 f0 f1 f2)
    have U := Own3.start w5 (.bool false) (.string ⟨#[49]⟩) (.int .i64 0) 23
    have hlt5 : g < w5.heap.size := A.1
    have hAl := (Below.refl w5.heap.size w5).alloc (Nat.le_refl _) (.cells #[.bool false, .string ⟨#[49]⟩, .int .i64 0] 23)
    replace hS := hS.next hAl
    replace hO := hO.next hAl
    replace A := A.next hAl
    generalize hv : w5.alloc (.cells #[.bool false, .string ⟨#[49]⟩, .int .i64 0] 23) = v at *
    clear hAl hv
    obtain ⟨_, _, a0, a1, a2⟩ := id hS
    obtain ⟨⟨_, u0, u1, u2⟩, s0, s1, s2⟩ := id U
    go_upto_region 8 with fail
    clear a0 a1 a2 u0 u1 u2 s0 s1 s2
    have hS8 := hS.step (B := w.heap.size + 1) (by omega) ((Below.refl (w.heap.size + 1) v).setCell (p := ⟨w5.heap.size, 0, none⟩) (by show w.heap.size + 1 ≤ w5.heap.size; omega) (.bool x))
    have hO8 := hO.seto (c := w5.heap.size) (i := 0) (by omega) (.bool x)
    have A8 := A.seto (c := w5.heap.size) (i := 0) (by omega) (.bool x)
    have U8 := U.1.set0 (.bool x)
    generalize hv : v.setCell ⟨w5.heap.size, 0, none⟩ (.bool x) = v8 at *
    clear hv hS hO A U
    obtain ⟨_, _, a0, a1, a2⟩ := id hS8
    obtain ⟨⟨_, o0, o1, o2⟩, f0, f1, f2⟩ := id hO8
    obtain ⟨_, b0, b1, b2⟩ := id A8
    obtain ⟨_, u0, u1, u2⟩ := id U8
    go_wp2_with (go_at_call 68; refine (add_u d1 d2 x _ m1).mono ?_; rintro e w9 ⟨r, rfl, HR, hb9⟩; replace hS8 := hS8.next hb9; replace hO8 := hO8.next hb9; clear a0 a1 a2 o0 o1 o2 b0 b1 b2 f0 f1 f2 u0 u1 u2; obtain ⟨⟨_, o0, o1, o2⟩, f0, f1, f2⟩ := id hO8)
    refine bodyPost_ret (v := tV r) ?_ rfl ⟨r, rfl, ?_, ?_⟩
    · simp [results, Tryz.results47, go_sem, o0, o1, o2, tV]
    · have := unhide HR
      rw [unhide HM2] at this
      have e : Dm.sgn x (Dm.num y / 10 ^ z + true.toNat) = Dm.sgn x (Dm.num y / 10 ^ z) + Dm.sgn x 1 := by
        cases x <;> simp [Dm.sgn] <;> omega
      rw [e]; exact this
    · exact set3_below hS8.1 (by omega) _ _ _
end Go.Proofs.YtmlmplmghlbdmaaGreatDoor

namespace Go.Proofs.YtmlmplmghlbdmaaGreatDoor
open Go.RowKit
set_option linter.unusedVariables false
set_option linter.unusedSimpArgs false

theorem whole_b (x : Bool) (y : List UInt8) (z : Nat) (far : Bool) (w : World) (h : Dm.May ⟨x, y, z⟩) (hfz : 0 < z ∨ far = false) (htab : Pow w) :
    Calls Tryz.prog 47 #[.agg #[.bool x, .string ⟨y.toArray⟩, .int .i64 (z : Int)], .bool far] w fun e w' => ∃ r, e = .returned (.tuple #[.agg #[.bool (rx r), .string (ry r), .int .i64 (rz r)], .int .i64 (re r)]) ∧ Hid (Dm.Rep (Dm.sgn x (Dm.num y / 10 ^ z + far.toNat)) 0 r) ∧ Below w.heap.size w w' := by
  refine (whole_r x y z far w h hfz htab).mono ?_
  rintro e w' ⟨r, rfl, hr, hB⟩
  exact ⟨r, rfl, hide hr, hB⟩
theorem half_b (x : Bool) (y : List UInt8) (z : Nat) (b : Bool) (w : World) (h : Dm.May ⟨x, y, z⟩) (hb : Hid ((decide (0 < z) && (decide (z ≤ y.length) && decide (53 ≤ (y.getD (y.length - z) 0).toNat))) = b)) :
    Calls Tryz.prog 50 #[.agg #[.bool x, .string ⟨y.toArray⟩, .int .i64 (z : Int)]] w fun e w' => e = .returned (.bool b) ∧ Below w.heap.size w w' := by
  have := half_any x y z w h
  rw [unhide hb] at this
  exact this
/-- A decimal that is handed in, and the block of the result. -/
def Pair3 (w0 : World) (x y z : Value) (w : World) : Prop := Box3 w0 x y z w ∧ Own3 (w0.heap.size + 1) (.bool false) (.string ⟨#[]⟩) (.int .i64 0) w
theorem Pair3.start (w : World) (x y z : Value) (t : Nat) : Pair3 w x y z ((w.alloc (.cells #[x, y, z] t)).alloc (.cells #[.bool false, .string ⟨#[]⟩, .int .i64 0] 23)) := by
  refine ⟨(Box3.start w x y z t).alloc _, ?_⟩
  have := Own3.start (w.alloc (.cells #[x, y, z] t)) (.bool false) (.string ⟨#[]⟩) (.int .i64 0) 23
  have hsz : (w.alloc (.cells #[x, y, z] t)).heap.size = w.heap.size + 1 := by simp
  rw [hsz] at this
  exact this
theorem Pair3.next {w0 w w' : World} {x y z : Value} (h : Pair3 w0 x y z w) (hb : Below w.heap.size w w') : Pair3 w0 x y z w' := ⟨h.1.next hb, h.2.next hb⟩
theorem Pair3.drew {w0 w : World} {x y z : Value} (h : Pair3 w0 x y z w) : Pair3 w0 x y z w.drew := h.next (Below.refl _ _).drew
theorem Pair3.cells {w0 w : World} {x y z : Value} (h : Pair3 w0 x y z w) : w.cell? ⟨w0.heap.size, 0, none⟩ = some x ∧ w.cell? ⟨w0.heap.size, 1, none⟩ = some y ∧ w.cell? ⟨w0.heap.size, 2, none⟩ = some z := h.1.2.2
theorem Pair3.out {w0 w : World} {x y z : Value} (h : Pair3 w0 x y z w) : (w.cell? ⟨w0.heap.size + 1, 0, none⟩ = some (.bool false) ∧ w.cell? ⟨w0.heap.size + 1, 1, none⟩ = some (.string ⟨#[]⟩) ∧ w.cell? ⟨w0.heap.size + 1, 2, none⟩ = some (.int .i64 0)) ∧
  (w.frozen? ⟨w0.heap.size + 1, 0, none⟩ = false ∧ w.frozen? ⟨w0.heap.size + 1, 1, none⟩ = false ∧ w.frozen? ⟨w0.heap.size + 1, 2, none⟩ = false) := ⟨h.2.1.2, h.2.2⟩
theorem Pair3.end {w0 w : World} {x y z : Value} (h : Pair3 w0 x y z w) (p q r : Value) : Below w0.heap.size w0 (((w.setCell ⟨w0.heap.size + 1, 0, none⟩ p).setCell ⟨w0.heap.size + 1, 1, none⟩ q).setCell ⟨w0.heap.size + 1, 2, none⟩ r) := set3_below h.1.1 (by omega) p q r
theorem Pair3.cells_s {w0 w : World} {x y z : Value} (h : Pair3 w0 x y z w) (p q r : Value) : (((w.setCell ⟨w0.heap.size + 1, 0, none⟩ p).setCell ⟨w0.heap.size + 1, 1, none⟩ q).setCell ⟨w0.heap.size + 1, 2, none⟩ r).cell? ⟨w0.heap.size, 0, none⟩ = some x ∧ (((w.setCell ⟨w0.heap.size + 1, 0, none⟩ p).setCell ⟨w0.heap.size + 1, 1, none⟩ q).setCell ⟨w0.heap.size + 1, 2, none⟩ r).cell? ⟨w0.heap.size, 1, none⟩ = some y ∧ (((w.setCell ⟨w0.heap.size + 1, 0, none⟩ p).setCell ⟨w0.heap.size + 1, 1, none⟩ q).setCell ⟨w0.heap.size + 1, 2, none⟩ r).cell? ⟨w0.heap.size, 2, none⟩ = some z := Box3.cells_s h.1 (by omega) p q r

set_option maxRecDepth 100000 in
set_option maxHeartbeats 2000000 in
theorem floor_r (x : Bool) (y : List UInt8) (z : Nat) (w : World) (h : Dm.May ⟨x, y, z⟩) (htab : Pow w) :
    Calls Tryz.prog 17 #[.agg #[.bool x, .string ⟨y.toArray⟩, .int .i64 (z : Int)]] w fun e w' => ∃ r, e = .returned (.tuple #[.agg #[.bool (rx r), .string (ry r), .int .i64 (rz r)], .int .i64 (re r)]) ∧ Hid (Dm.Rep (Dm.sgn x (Dm.num y / 10 ^ z + (decide (0 < z) && x).toNat)) 0 r) ∧ Below w.heap.size w w' := by
  have hS := Pair3.start w (.bool x) (.string ⟨y.toArray⟩) (.int .i64 (z : Int)) 23
  have hP := htab.next hS.1.1
  obtain ⟨a0, a1, a2⟩ := hS.cells
  by_cases h0 : 0 < z
  · have g1 : (0 : Int) < (z : Int) := by omega
    have ew : ∀ W, Pow W → _ := fun W hW => whole_b x y z x W h (.inl h0) hW
    have EW := hide ew
    rw [decide_eq_true h0, Bool.true_and]
    go_enter Tryz.func17, Tryz.ntmps17
    go_wp2_with (go_at_call 47; refine (unhide EW _ hP).mono ?_; rintro e w1 ⟨r, rfl, HR, hb⟩; replace hS := hS.next hb; clear a0 a1 a2; obtain ⟨⟨o0, o1, o2⟩, f0, f1, f2⟩ := hS.out)
    exact bodyPost_ret (v := tV r) (by simp [results, Tryz.results17, go_sem, o0, o1, o2, tV]) rfl ⟨r, rfl, HR, hS.end _ _ _⟩
  · have hz : z = 0 := by omega
    subst hz
    have ew : ∀ W, Pow W → _ := fun W hW => whole_b x y 0 false W h (.inr rfl) hW
    have EW := hide ew
    rw [decide_eq_false h0, Bool.false_and]
    go_enter Tryz.func17, Tryz.ntmps17
    go_wp2_with (go_at_call 47; refine (unhide EW _ hP).mono ?_; rintro e w1 ⟨r, rfl, HR, hb⟩; replace hS := hS.next hb; clear a0 a1 a2; obtain ⟨⟨o0, o1, o2⟩, f0, f1, f2⟩ := hS.out)
    exact bodyPost_ret (v := tV r) (by simp [results, Tryz.results17, go_sem, o0, o1, o2, tV]) rfl ⟨r, rfl, HR, hS.end _ _ _⟩
set_option maxRecDepth 100000 in
set_option maxHeartbeats 2000000 in
theorem ceil_r (x : Bool) (y : List UInt8) (z : Nat) (w : World) (h : Dm.May ⟨x, y, z⟩) (htab : Pow w) :
    Calls Tryz.prog 19 #[.agg #[.bool x, .string ⟨y.toArray⟩, .int .i64 (z : Int)]] w fun e w' => ∃ r, e = .returned (.tuple #[.agg #[.bool (rx r), .string (ry r), .int .i64 (rz r)], .int .i64 (re r)]) ∧ Hid (Dm.Rep (Dm.sgn x (Dm.num y / 10 ^ z + (decide (0 < z) && !x).toNat)) 0 r) ∧ Below w.heap.size w w' := by
  have hS := Pair3.start w (.bool x) (.string ⟨y.toArray⟩) (.int .i64 (z : Int)) 23
  have hP := htab.next hS.1.1
  obtain ⟨a0, a1, a2⟩ := hS.cells
  by_cases h0 : 0 < z
  · have g1 : (0 : Int) < (z : Int) := by omega
    have ew : ∀ W, Pow W → _ := fun W hW => whole_b x y z (!x) W h (.inl h0) hW
    have EW := hide ew
    rw [decide_eq_true h0, Bool.true_and]
    go_enter Tryz.func19, Tryz.ntmps19
    go_wp2_with (go_at_call 47; refine (unhide EW _ hP).mono ?_; rintro e w1 ⟨r, rfl, HR, hb⟩; replace hS := hS.next hb; clear a0 a1 a2; obtain ⟨⟨o0, o1, o2⟩, f0, f1, f2⟩ := hS.out)
    exact bodyPost_ret (v := tV r) (by simp [results, Tryz.results19, go_sem, o0, o1, o2, tV]) rfl ⟨r, rfl, HR, hS.end _ _ _⟩
  · have hz : z = 0 := by omega
    subst hz
    have ew : ∀ W, Pow W → _ := fun W hW => whole_b x y 0 false W h (.inr rfl) hW
    have EW := hide ew
    rw [decide_eq_false h0, Bool.false_and]
    go_enter Tryz.func19, Tryz.ntmps19
    go_wp2_with (go_at_call 47; refine (unhide EW _ hP).mono ?_; rintro e w1 ⟨r, rfl, HR, hb⟩; replace hS := hS.next hb; clear a0 a1 a2; obtain ⟨⟨o0, o1, o2⟩, f0, f1, f2⟩ := hS.out)
    exact bodyPost_ret (v := tV r) (by simp [results, Tryz.results19, go_sem, o0, o1, o2, tV]) rfl ⟨r, rfl, HR, hS.end _ _ _⟩
set_option maxRecDepth 100000 in
set_option maxHeartbeats 2000000 in
theorem round_r (x : Bool) (y : List UInt8) (z : Nat) (b : Bool) (w : World) (h : Dm.May ⟨x, y, z⟩) (hb : (decide (0 < z) && (decide (z ≤ y.length) && decide (53 ≤ (y.getD (y.length - z) 0).toNat))) = b) (htab : Pow w) :
    Calls Tryz.prog 21 #[.agg #[.bool x, .string ⟨y.toArray⟩, .int .i64 (z : Int)]] w fun e w' => ∃ r, e = .returned (.tuple #[.agg #[.bool (rx r), .string (ry r), .int .i64 (rz r)], .int .i64 (re r)]) ∧ Hid (Dm.Rep (Dm.sgn x (Dm.num y / 10 ^ z + b.toNat)) 0 r) ∧ Below w.heap.size w w' := by
  have hS := Pair3.start w (.bool x) (.string ⟨y.toArray⟩) (.int .i64 (z : Int)) 23
  have hfz : 0 < z ∨ b = false := by
    by_cases h0 : 0 < z
    · exact .inl h0
    · right; rw [← hb, decide_eq_false h0, Bool.false_and]
  have HB := hide hb
  have EH := hide (fun W => half_b x y z b W h HB)
  have EW := hide (fun W hW => whole_b x y z b W h hfz hW)
  clear hb
  obtain ⟨a0, a1, a2⟩ := hS.cells
  go_enter Tryz.func21, Tryz.ntmps21
  go_wp2_with fail
  go_region_held3 (fun w' => w'.cell? ⟨w.heap.size, 0, none⟩ = some (.bool x) ∧ w'.cell? ⟨w.heap.size, 1, none⟩ = some (.string ⟨y.toArray⟩) ∧ w'.cell? ⟨w.heap.size, 2, none⟩ = some (.int .i64 (z : Int))) (first | exact hS.cells | exact hS.drew.cells | exact Pair3.cells_s hS _ _ _) (first | (go_at_call 50; refine (unhide EH _).mono ?_; rintro e w1 ⟨rfl, hb1⟩; replace hS := Pair3.next (by first | exact hS | exact hS.drew) hb1; clear hb1) | (go_at_call 47; refine (unhide EW _ (htab.next (by first | exact hS.1.1 | exact hS.drew.1.1))).mono ?_; rintro e w2 ⟨r, rfl, HR, hb2⟩; replace hS := Pair3.next (by first | exact hS | exact hS.drew) hb2; clear hb2; obtain ⟨⟨o0, o1, o2⟩, f0, f1, f2⟩ := hS.out))
  all_goals
    go_wp2
    exact bodyPost_ret (v := tV r) (by simp [results, Tryz.results21, go_sem, o0, o1, o2, tV]) rfl ⟨r, rfl, HR, hS.end _ _ _⟩
end Go.Proofs.YtmlmplmghlbdmaaGreatDoor
