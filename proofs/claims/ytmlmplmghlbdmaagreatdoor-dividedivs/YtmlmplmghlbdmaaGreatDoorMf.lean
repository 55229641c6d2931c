/- What is proved here: what the law DecRules and the law DecOrder ask of numbers, in plain numbers; conditions: none. -/
import Derived.Test.YtmlmplmghlbdmaaGreatDoorVz
namespace Go.Proofs.YtmlmplmghlbdmaaGreatDoor
set_option linter.unusedVariables false
set_option linter.unusedSimpArgs false

theorem sum_back {A B X a b x : Int} (h : X * (a * b) = (A * b + B * a) * x) : A * (x * b) = (X * b - B * x) * a := by
  have e : X * b * a = X * (a * b) := by rw [Int.mul_assoc, Int.mul_comm b a]
  rw [Int.sub_mul, e, h, Int.add_mul]
  have e1 : B * a * x = B * x * a := Int.mul_right_comm _ _ _
  have e2 : A * b * x = A * (x * b) := by rw [Int.mul_assoc, Int.mul_comm b x]
  rw [e1, e2]; omega
theorem sum_comm {a b : Dm.D} {r r' : Option Dm.D} (h : Dm.Rep (Dm.sg a * Dm.p10 b.sc + Dm.sg b * Dm.p10 a.sc) (a.sc + b.sc) r) (h' : Dm.Rep (Dm.sg b * Dm.p10 a.sc + Dm.sg a * Dm.p10 b.sc) (b.sc + a.sc) r') : r' = r := by
  rw [Int.add_comm, Nat.add_comm] at h'
  exact h'.uniq h
theorem prod_comm {a b : Dm.D} {r r' : Option Dm.D} (h : Dm.Rep (Dm.sg a * Dm.sg b) (a.sc + b.sc) r) (h' : Dm.Rep (Dm.sg b * Dm.sg a) (b.sc + a.sc) r') : r' = r := by
  rw [Int.mul_comm, Nat.add_comm] at h'
  exact h'.uniq h
theorem sub_back {a b x : Dm.D} {r : Option Dm.D} (ha : Dm.May a) (h : Dm.Rep (Dm.sg a * Dm.p10 b.sc + Dm.sg b * Dm.p10 a.sc) (a.sc + b.sc) (some x)) (hz : Dm.Rep (Dm.sg x * Dm.p10 b.sc - Dm.sg b * Dm.p10 x.sc) (x.sc + b.sc) r) : r = some a := by
  refine hz.uniq ⟨ha, ?_⟩
  have e := h.2
  rw [Dm.p10_add] at e ⊢
  exact sum_back e
theorem spread {A B C L M N X a b c l m n x : Int} (hp : a * b * (c * x) ≠ 0) (h : X * (a * b) = (A * b + B * a) * x) (hl : L * (x * c) = X * C * l) (hm : M * (a * c) = A * C * m) (hn : N * (b * c) = B * C * n) : L * (m * n) = (M * n + N * m) * l := by
  apply Int.eq_of_mul_eq_mul_right hp
  have e1 : L * (m * n) * (a * b * (c * x)) = (L * (x * c)) * (m * n) * (a * b) := by ac_rfl
  have e2 : X * C * l * (m * n) * (a * b) = (X * (a * b)) * (C * l * (m * n)) := by ac_rfl
  have e3 : (M * n + N * m) * l * (a * b * (c * x)) = (M * (a * c)) * (n * l * b * x) + (N * (b * c)) * (m * l * a * x) := by
    rw [Int.add_mul, Int.add_mul]
    have f1 : M * n * l * (a * b * (c * x)) = (M * (a * c)) * (n * l * b * x) := by ac_rfl
    have f2 : N * m * l * (a * b * (c * x)) = (N * (b * c)) * (m * l * a * x) := by ac_rfl
    rw [f1, f2]
  rw [e1, hl, e2, h, e3, hm, hn, Int.add_mul, Int.add_mul]
  have g1 : A * b * x * (C * l * (m * n)) = A * C * m * (n * l * b * x) := by ac_rfl
  have g2 : B * a * x * (C * l * (m * n)) = B * C * n * (m * l * a * x) := by ac_rfl
  rw [g1, g2]
theorem spread_rep {a b c x l m n : Dm.D} {r : Option Dm.D} (h : Dm.Rep (Dm.sg a * Dm.p10 b.sc + Dm.sg b * Dm.p10 a.sc) (a.sc + b.sc) (some x)) (hl : Dm.Rep (Dm.sg x * Dm.sg c) (x.sc + c.sc) (some l)) (hm : Dm.Rep (Dm.sg a * Dm.sg c) (a.sc + c.sc) (some m)) (hn : Dm.Rep (Dm.sg b * Dm.sg c) (b.sc + c.sc) (some n))
    (hs : Dm.Rep (Dm.sg m * Dm.p10 n.sc + Dm.sg n * Dm.p10 m.sc) (m.sc + n.sc) r) : r = some l := by
  refine hs.uniq ⟨hl.1, ?_⟩
  have e1 := h.2
  have e2 := hl.2
  have e3 := hm.2
  have e4 := hn.2
  rw [Dm.p10_add] at e1 e2 e3 e4 ⊢
  refine spread ?_ e1 e2 e3 e4
  have p1 := Dm.p10_pos a.sc
  have p2 := Dm.p10_pos b.sc
  have p3 := Dm.p10_pos c.sc
  have p4 := Dm.p10_pos x.sc
  have := Int.mul_pos (Int.mul_pos p1 p2) (Int.mul_pos p3 p4)
  omega
theorem cmpD_sg {a b : Dm.D} (ha : Dm.May a) (hb : Dm.May b) : cmpD a.ng a.ds a.sc b.ng b.ds b.sc = sgI (Dm.sg a * Dm.p10 b.sc - Dm.sg b * Dm.p10 a.sc) := by
  have key : ∀ (x : Bool) (A z : Nat), Dm.sgn x A * Dm.p10 z = Dm.sgn x (A * 10 ^ z) := fun x A z => by rw [Dm.sgn_mul]; rfl
  unfold Dm.sg
  rw [key, key]
  have pa := Dm.pow_pos' b.sc
  have pb := Dm.pow_pos' a.sc
  have pos : ∀ {d : Dm.D} (k : Nat), Dm.May d → d.ds ≠ [48] → 0 < Dm.num d.ds * 10 ^ k := fun {d} k hd hne => by
    have : Dm.num d.ds ≠ 0 := fun e => hne ((Dm.num_zero_of_may hd).1 e)
    exact Nat.mul_pos (by omega) (Dm.pow_pos' k)
  have zero : ∀ {d : Dm.D} (k : Nat), d.ds = [48] → Dm.num d.ds * 10 ^ k = 0 := fun {d} k hd => by rw [hd]; simp [Dm.num, Dm.dv]
  unfold cmpD sgnD
  by_cases ya : a.ds = [48]
  · have z1 := zero b.sc ya
    by_cases yb : b.ds = [48]
    · have z2 := zero a.sc yb
      rw [z1, z2, if_pos ya, if_pos yb, Dm.sgn_zero, Dm.sgn_zero]; simp [sgI]
    · have z2 := pos a.sc hb yb
      rw [z1, if_pos ya, if_neg yb, Dm.sgn_zero]
      generalize Dm.num b.ds * 10 ^ a.sc = N at *
      cases b.ng
      · simp only [Dm.sgn, sgI, Dm.cmpI, Bool.false_eq_true, if_false]
        rw [if_pos (by decide), if_pos (by decide), if_pos (by omega)]
      · simp only [Dm.sgn, sgI, Dm.cmpI, if_true]
        rw [if_pos (by decide), if_neg (by decide), if_pos (by decide), if_neg (by omega), if_pos (by omega)]
  · have z1 := pos b.sc ha ya
    by_cases yb : b.ds = [48]
    · have z2 := zero a.sc yb
      rw [z2, if_neg ya, if_pos yb, Dm.sgn_zero]
      generalize Dm.num a.ds * 10 ^ b.sc = N at *
      cases a.ng
      · simp only [Dm.sgn, sgI, Dm.cmpI, Bool.false_eq_true, if_false]
        rw [if_pos (by decide), if_neg (by decide), if_pos (by decide), if_neg (by omega), if_pos (by omega)]
      · simp only [Dm.sgn, sgI, Dm.cmpI, if_true]
        rw [if_pos (by decide), if_pos (by decide), if_pos (by omega)]
    · have z2 := pos a.sc hb yb
      rw [if_neg ya, if_neg yb]
      unfold Dm.cmpN
      generalize Dm.num b.ds * 10 ^ a.sc = N at *
      generalize Dm.num a.ds * 10 ^ b.sc = M at *
      cases a.ng <;> cases b.ng
      · simp only [Dm.sgn, sgI, Dm.cmpI, Bool.false_eq_true, if_false]
        rw [if_neg (by simp), Int.one_mul]
        by_cases g : M < N
        · rw [if_pos g, if_pos (by omega)]
        · by_cases g2 : N < M
          · rw [if_neg g, if_pos g2, if_neg (by omega), if_pos (by omega)]
          · rw [if_neg g, if_neg g2, if_neg (by omega), if_neg (by omega)]
      · simp only [Dm.sgn, sgI, Dm.cmpI, Bool.false_eq_true, if_false, if_true]
        rw [if_pos (by decide), if_neg (by decide), if_pos (by decide), if_neg (by omega), if_pos (by omega)]
      · simp only [Dm.sgn, sgI, Dm.cmpI, Bool.false_eq_true, if_false, if_true]
        rw [if_pos (by decide), if_pos (by decide), if_pos (by omega)]
      · simp only [Dm.sgn, sgI, Dm.cmpI, if_true]
        rw [if_neg (by simp)]
        by_cases g : M < N
        · rw [if_pos g, if_neg (by omega), if_pos (by omega)]; rfl
        · by_cases g2 : N < M
          · rw [if_neg g, if_pos g2, if_pos (by omega)]; rfl
          · rw [if_neg g, if_neg g2, if_neg (by omega), if_neg (by omega)]; rfl
theorem cmpD_turn {a b : Dm.D} (ha : Dm.May a) (hb : Dm.May b) : cmpD a.ng a.ds a.sc b.ng b.ds b.sc = - cmpD b.ng b.ds b.sc a.ng a.ds a.sc := by
  rw [cmpD_sg ha hb, cmpD_sg hb ha, ← sgI_neg]
  congr 1
  omega
theorem cmpD_zero {a b : Dm.D} (ha : Dm.May a) (hb : Dm.May b) : cmpD a.ng a.ds a.sc b.ng b.ds b.sc = 0 ↔ a = b := by
  rw [cmpD_sg ha hb]
  constructor
  · intro h
    apply Dm.may_inj ha hb
    unfold sgI at h
    by_cases g : Dm.sg a * Dm.p10 b.sc - Dm.sg b * Dm.p10 a.sc < 0
    · rw [if_pos g] at h; omega
    · by_cases g2 : 0 < Dm.sg a * Dm.p10 b.sc - Dm.sg b * Dm.p10 a.sc
      · rw [if_neg g, if_pos g2] at h; omega
      · omega
  · intro h; subst h
    rw [Int.sub_self]; rfl
/-- The difference goes as the order does. -/
theorem sub_order {a b d : Dm.D} (ha : Dm.May a) (hb : Dm.May b) (h : Dm.Rep (Dm.sg a * Dm.p10 b.sc - Dm.sg b * Dm.p10 a.sc) (a.sc + b.sc) (some d)) : sgnD d.ng d.ds = cmpD a.ng a.ds a.sc b.ng b.ds b.sc := by
  rw [cmpD_sg ha hb, sgnD_sg h.1]
  have e := h.2
  have h1 : sgI (Dm.sg d) = sgI (Dm.sg d * Dm.p10 (a.sc + b.sc)) := (sgI_pos (Dm.p10_pos _)).symm
  show sgI (Dm.sg d) = _
  rw [h1, e, sgI_pos (Dm.p10_pos _)]
/-- The order is one: what is not above what is not above a third is not above it. -/
theorem cmpD_order {a b c : Dm.D} (ha : Dm.May a) (hb : Dm.May b) (hc : Dm.May c) (h1 : cmpD a.ng a.ds a.sc b.ng b.ds b.sc ≤ 0) (h2 : cmpD b.ng b.ds b.sc c.ng c.ds c.sc ≤ 0) : cmpD a.ng a.ds a.sc c.ng c.ds c.sc ≤ 0 := by
  rw [cmpD_sg ha hb] at h1
  rw [cmpD_sg hb hc] at h2
  rw [cmpD_sg ha hc]
  have le : ∀ z, sgI z ≤ 0 → z ≤ 0 := by
    intro z h
    unfold sgI at h
    by_cases g : 0 < z
    · rw [if_neg (by omega), if_pos g] at h; omega
    · omega
  have el : ∀ z, z ≤ 0 → sgI z ≤ 0 := by
    intro z h
    unfold sgI
    by_cases g : z < 0
    · rw [if_pos g]; omega
    · rw [if_neg g, if_neg (by omega)]; omega
  have k1 := le _ h1
  have k2 := le _ h2
  apply el
  have pa := Dm.p10_pos a.sc
  have pb := Dm.p10_pos b.sc
  have pc := Dm.p10_pos c.sc
  apply Classical.byContradiction
  intro g
  have m1 : (Dm.sg a * Dm.p10 b.sc) * Dm.p10 c.sc ≤ (Dm.sg b * Dm.p10 a.sc) * Dm.p10 c.sc := Int.mul_le_mul_of_nonneg_right (by omega) (by omega)
  have m2 : (Dm.sg b * Dm.p10 c.sc) * Dm.p10 a.sc ≤ (Dm.sg c * Dm.p10 b.sc) * Dm.p10 a.sc := Int.mul_le_mul_of_nonneg_right (by omega) (by omega)
  have m3 : (Dm.sg c * Dm.p10 a.sc) * Dm.p10 b.sc < (Dm.sg a * Dm.p10 c.sc) * Dm.p10 b.sc := Int.mul_lt_mul_of_pos_right (by omega) pb
  have q1 : (Dm.sg a * Dm.p10 b.sc) * Dm.p10 c.sc = (Dm.sg a * Dm.p10 c.sc) * Dm.p10 b.sc := Int.mul_right_comm _ _ _
  have q2 : (Dm.sg b * Dm.p10 a.sc) * Dm.p10 c.sc = (Dm.sg b * Dm.p10 c.sc) * Dm.p10 a.sc := Int.mul_right_comm _ _ _
  have q3 : (Dm.sg c * Dm.p10 b.sc) * Dm.p10 a.sc = (Dm.sg c * Dm.p10 a.sc) * Dm.p10 b.sc := Int.mul_right_comm _ _ _
  omega
end Go.Proofs.YtmlmplmghlbdmaaGreatDoor
