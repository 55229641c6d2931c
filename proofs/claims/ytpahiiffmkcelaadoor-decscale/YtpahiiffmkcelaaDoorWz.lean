/- What is proved here: what the law DecScale does, walked; conditions: none. -/
import Derived.Test.YtpahiiffmkcelaaDoorWy
namespace Go.Proofs.YtpahiiffmkcelaaDoor
open Go.RowKit
set_option linter.unusedVariables false
set_option linter.unusedSimpArgs false

/-- What holds in each round. -/
def ScInv (w : World) (T : Nat) (ng : Bool) (l : List UInt8) (sc : Nat) (a : Dm.D) (wr : World) : Prop :=
  Below w.heap.size w wr ∧ Has3 w.heap.size (.bool ng) (.string ⟨l.toArray⟩) (.int .i64 (sc : Int)) wr ∧ Has3 T (.bool false) (.string ⟨#[49]⟩) (.int .i64 1) wr ∧ Has3 (T + 1) (.bool false) (.string ⟨#[49, 48]⟩) (.int .i64 0) wr ∧ Own3 (T + 2) (.bool a.ng) (.string ⟨a.ds.toArray⟩) (.int .i64 (a.sc : Int)) wr ∧ Dm.May a
theorem ScInv.start {w w2 : World} {ng : Bool} {l : List UInt8} {sc : Nat} (h : Box3 w (.bool ng) (.string ⟨l.toArray⟩) (.int .i64 (sc : Int)) w2) (hm : Dm.May ⟨ng, l, sc⟩) :
    ScInv w w2.heap.size ng l sc ⟨ng, l, sc⟩ (((w2.alloc (.cells #[.bool false, .string ⟨#[49]⟩, .int .i64 1] 23)).alloc (.cells #[.bool false, .string ⟨#[49, 48]⟩, .int .i64 0] 23)).alloc (.cells #[.bool ng, .string ⟨l.toArray⟩, .int .i64 (sc : Int)] 23)) := by
  have e1 : (w2.alloc (.cells #[.bool false, .string ⟨#[49]⟩, .int .i64 1] 23)).heap.size = w2.heap.size + 1 := by simp
  have e2 : ((w2.alloc (.cells #[.bool false, .string ⟨#[49]⟩, .int .i64 1] 23)).alloc (.cells #[.bool false, .string ⟨#[49, 48]⟩, .int .i64 0] 23)).heap.size = w2.heap.size + 2 := by simp
  have s1 := ((Has3.start w2 (.bool false) (.string ⟨#[49]⟩) (.int .i64 1) 23).next ((Below.refl _ _).alloc (Nat.le_refl _) (.cells #[.bool false, .string ⟨#[49, 48]⟩, .int .i64 0] 23))).next ((Below.refl _ _).alloc (Nat.le_refl _) (.cells #[.bool ng, .string ⟨l.toArray⟩, .int .i64 (sc : Int)] 23))
  have s2 := (Has3.start (w2.alloc (.cells #[.bool false, .string ⟨#[49]⟩, .int .i64 1] 23)) (.bool false) (.string ⟨#[49, 48]⟩) (.int .i64 0) 23).next ((Below.refl _ _).alloc (Nat.le_refl _) (.cells #[.bool ng, .string ⟨l.toArray⟩, .int .i64 (sc : Int)] 23))
  have s3 := Own3.start ((w2.alloc (.cells #[.bool false, .string ⟨#[49]⟩, .int .i64 1] 23)).alloc (.cells #[.bool false, .string ⟨#[49, 48]⟩, .int .i64 0] 23)) (.bool ng) (.string ⟨l.toArray⟩) (.int .i64 (sc : Int)) 23
  rw [e1] at s2
  rw [e2] at s3
  have hb := ((h.alloc (.cells #[.bool false, .string ⟨#[49]⟩, .int .i64 1] 23)).alloc (.cells #[.bool false, .string ⟨#[49, 48]⟩, .int .i64 0] 23)).alloc (.cells #[.bool ng, .string ⟨l.toArray⟩, .int .i64 (sc : Int)] 23)
  exact ⟨hb.1, ⟨hb.2.1, hb.2.2⟩, s1, s2, s3, hm⟩
theorem sgnD_sg {d : Dm.D} (h : Dm.May d) : sgnD d.ng d.ds = if Dm.sg d < 0 then -1 else if 0 < Dm.sg d then 1 else 0 := by
  rcases Dm.may_cases h with ⟨a, _, _, a4⟩ | ⟨a, b, _, _⟩
  · unfold sgnD
    have e : Dm.sg d = 0 := by unfold Dm.sg; rw [a4, Dm.sgn_zero]
    rw [if_pos a, e]; rfl
  · have hp := Dm.lead_pos h.1 b
    unfold sgnD Dm.sg Dm.sgn
    rw [if_neg a]
    cases d.ng
    · simp only [Bool.false_eq_true, if_false]
      rw [if_neg (by omega), if_pos (by omega)]
    · simp only [if_true]
      rw [if_pos (by omega)]
theorem sgn_mul_pos {a p : Int} (hp : 0 < p) : (a * p < 0 ↔ a < 0) ∧ (0 < a * p ↔ 0 < a) := by
  rcases Int.lt_trichotomy a 0 with h | h | h
  · have := Int.mul_neg_of_neg_of_pos h hp
    omega
  · subst h; simp
  · have := Int.mul_pos h hp
    omega
theorem sgnD_same {x y : Dm.D} {s : Nat} (hx : Dm.May x) (hy : Dm.May y) (h : Dm.sg y * Dm.p10 s = Dm.sg x * Dm.p10 y.sc) : sgnD y.ng y.ds = sgnD x.ng x.ds := by
  rw [sgnD_sg hx, sgnD_sg hy]
  have a := sgn_mul_pos (a := Dm.sg y) (Dm.p10_pos s)
  have b := sgn_mul_pos (a := Dm.sg x) (Dm.p10_pos y.sc)
  rw [h] at a
  have e1 : Dm.sg y < 0 ↔ Dm.sg x < 0 := a.1.symm.trans b.1
  have e2 : 0 < Dm.sg y ↔ 0 < Dm.sg x := a.2.symm.trans b.2
  simp only [e1, e2]
theorem cmp_zero (x : Bool) (y : List UInt8) (z : Nat) (q : Int) (w : World) (h : Dm.May ⟨x, y, z⟩) (hq : sgnD x y = q) :
    Calls Tryd.prog 27 #[.agg #[.bool x, .string ⟨y.toArray⟩, .int .i64 (z : Int)], .agg #[.bool false, .string ⟨#[48]⟩, .int .i64 0]] w fun e w' => e = .returned (.int .i64 q) ∧ Below w.heap.size w w' := by
  refine cmp_any x y z false [48] 0 q w h Dm.zero_may ?_
  have h0 : sgnD false [48] = 0 := rfl
  unfold cmpD
  rw [h0]
  have hr := sgnD_range x y q hq
  rw [hq]
  rcases hr with rfl | rfl | rfl
  · rw [if_pos (by decide)]; rfl
  · simp
  · rw [if_pos (by decide)]; rfl
theorem tenth_may : Dm.May ⟨false, [49], 1⟩ := ⟨by intro c h; simp at h; rw [h]; rfl, by simp, by simp, .inr ⟨⟨49, [], rfl, by decide⟩, .inr ⟨[], 49, rfl, by decide⟩⟩⟩
theorem mul_tenth (x : Bool) (y : List UInt8) (z : Nat) (w : World) (hm : Dm.May ⟨x, y, z⟩) :
    Calls Tryd.prog 25 #[.agg #[.bool x, .string ⟨y.toArray⟩, .int .i64 (z : Int)], .agg #[.bool false, .string ⟨#[49]⟩, .int .i64 1]] w fun e w' => ∃ r, e = .returned (.tuple #[.agg #[.bool (rx r), .string (ry r), .int .i64 (rz r)], .int .i64 (re r)]) ∧ Dm.Rep (Dm.sg ⟨x, y, z⟩) (z + 1) r ∧ Below w.heap.size w w' := by
  refine (mul_r ⟨x, y, z⟩ ⟨false, [49], 1⟩ w hm tenth_may).mono ?_
  rintro e w' ⟨r, rfl, h, hB⟩
  have e1 : Dm.sg ⟨false, [49], 1⟩ = 1 := rfl
  rw [e1, Int.mul_one] at h
  exact ⟨r, rfl, h, hB⟩
theorem back_ten {x y : Dm.D} {r : Option Dm.D} (hx : Dm.May x) (h : Dm.Rep (Dm.sg x) (x.sc + 1) (some y)) (hz : Dm.Rep (Dm.sg y * 10) y.sc r) : r = some x := by
  refine hz.uniq ⟨hx, ?_⟩
  have e := h.2
  rw [Dm.p10_succ, ← Int.mul_assoc] at e
  rw [← e, Int.mul_right_comm]
theorem ScInv.next {w : World} {T : Nat} {ng : Bool} {l : List UInt8} {sc : Nat} {a : Dm.D} {wr w' : World} (h : ScInv w T ng l sc a wr) (hb : Below wr.heap.size wr w') : ScInv w T ng l sc a w' := by
  obtain ⟨iB, iD, iT, iU, iX, iM⟩ := h
  exact ⟨iB.trans (hb.mono iB.size), iD.next hb, iT.next hb, iU.next hb, iX.next hb, iM⟩
/-- A decimal turned below 0. -/
theorem turned {x : Bool} {y : List UInt8} {z : Nat} (h : Dm.May ⟨x, y, z⟩) : ∃ e, Dm.May ⟨e, y, z⟩ ∧ Dm.sg ⟨e, y, z⟩ = - Dm.sg ⟨x, y, z⟩ ∧ (e = false ∨ x = false) ∧ Dm.May ⟨false, y, z⟩ := by
  rcases Dm.may_cases h with ⟨a, _, a3, _⟩ | ⟨a, _, _, _⟩
  · simp only at a a3
    subst a a3
    exact ⟨false, h, by rw [zero_sg]; rfl, .inl rfl, h⟩
  · obtain ⟨t1, t2⟩ := turn_may h a
    refine ⟨!x, t1, t2, by cases x <;> simp, ?_⟩
    cases x
    · exact h
    · exact t1
theorem turned_rep {x e : Bool} {y : List UInt8} {z : Nat} {r : Option Dm.D} (hm : Dm.May ⟨e, y, z⟩) (hs : Dm.sg ⟨e, y, z⟩ = - Dm.sg ⟨x, y, z⟩) (h : Dm.Rep (Dm.sg ⟨false, [48], 0⟩ * Dm.p10 z - Dm.sg ⟨x, y, z⟩ * Dm.p10 0) (0 + z) r) : r = some ⟨e, y, z⟩ := by
  rw [zero_sg, Int.zero_mul, Int.zero_sub, Dm.p10_zero, Int.mul_one, Nat.zero_add, ← hs] at h
  exact h.uniq ⟨hm, rfl⟩
theorem sgnD_pos (y : List UInt8) (q : Int) (h : sgnD false y = q) : decide (0 ≤ q) = true := by
  rw [decide_eq_true_eq, ← h]
  unfold sgnD
  split
  · decide
  · simp
/-- What holds between the rounds' calls. -/
def ScMid (w : World) (T Y Z : Nat) (ng : Bool) (l : List UInt8) (sc : Nat) (a y : Dm.D) (wr : World) : Prop :=
  ScInv w T ng l sc a wr ∧ Has3 Y (.bool y.ng) (.string ⟨y.ds.toArray⟩) (.int .i64 (y.sc : Int)) wr ∧ Has3 Z (.bool a.ng) (.string ⟨a.ds.toArray⟩) (.int .i64 (a.sc : Int)) wr
theorem ScMid.next {w : World} {T Y Z : Nat} {ng : Bool} {l : List UInt8} {sc : Nat} {a y : Dm.D} {wr w' : World} (h : ScMid w T Y Z ng l sc a y wr) (hb : Below wr.heap.size wr w') : ScMid w T Y Z ng l sc a y w' :=
  ⟨h.1.next hb, h.2.1.next hb, h.2.2.next hb⟩
theorem ScMid.drew {w : World} {T Y Z : Nat} {ng : Bool} {l : List UInt8} {sc : Nat} {a y : Dm.D} {wr : World} (h : ScMid w T Y Z ng l sc a y wr) : ScMid w T Y Z ng l sc a y wr.drew := h.next (Below.refl _ _).drew
theorem ScMid.cells {w : World} {T Y Z : Nat} {ng : Bool} {l : List UInt8} {sc : Nat} {a1 y1 : Bool} {a2 y2 : List UInt8} {a3 y3 : Nat} {w' : World} (h : ScMid w T Y Z ng l sc ⟨a1, a2, a3⟩ ⟨y1, y2, y3⟩ w') :
    (w'.cell? ⟨Z, 0, none⟩ = some (.bool a1) ∧ w'.cell? ⟨Z, 1, none⟩ = some (.string ⟨a2.toArray⟩) ∧ w'.cell? ⟨Z, 2, none⟩ = some (.int .i64 (a3 : Int))) ∧ (w'.cell? ⟨T + 1 + 1, 0, none⟩ = some (.bool a1) ∧ w'.cell? ⟨T + 1 + 1, 1, none⟩ = some (.string ⟨a2.toArray⟩) ∧ w'.cell? ⟨T + 1 + 1, 2, none⟩ = some (.int .i64 (a3 : Int))) ∧ (w'.cell? ⟨Y, 0, none⟩ = some (.bool y1) ∧ w'.cell? ⟨Y, 1, none⟩ = some (.string ⟨y2.toArray⟩) ∧ w'.cell? ⟨Y, 2, none⟩ = some (.int .i64 (y3 : Int))) :=
  ⟨h.2.2.2, h.1.2.2.2.2.1.1.2, h.2.1.2⟩
theorem ScInv.store {w : World} {T : Nat} {ng : Bool} {l : List UInt8} {sc : Nat} {a y : Dm.D} {wr : World} (h : ScInv w T ng l sc a wr) (hT : w.heap.size < T) (hy : Dm.May y) : ScInv w T ng l sc y (set3 wr (T + 2) (.bool y.ng) (.string ⟨y.ds.toArray⟩) (.int .i64 (y.sc : Int))) := by
  obtain ⟨iB, iD, iT, iU, iX, iM⟩ := h
  exact ⟨set3_below iB (by omega) _ _ _, iD.store (by omega) _ _ _, iT.store (by omega) _ _ _, iU.store (by omega) _ _ _, iX.store _ _ _, hy⟩
theorem bits7 : ∀ c : Nat, c < 256 → bits BinOp.and IntKind.i64 (c : Int) 7 = ((c % 8 : Nat) : Int) := by decide +kernel
set_option maxRecDepth 100000 in
set_option maxHeartbeats 2000000 in
theorem scale_walk (ng : Bool) (s : ByteArray) (n : Int) (c : Nat) (w : World) (hs : s.size ≤ maxLen) (hc : c < 256) :
    Calls Tryd.prog 9 #[.agg #[.bool ng, .string s, .int .i64 n], .int .u8 (c : Int)] w fun e w' => e = .returned (.bool true) ∧ Below w.heap.size w w' := by
  have hx := Box3.start w (.bool ng) (.string s) (.int .i64 n) 23
  cases hm : Dm.mayB ng s.data.toList n with
  | false =>
    have HM := hide hm
    clear hm
    go_enter Tryd.func9, Tryd.ntmps9
    go_wp2_with fail
    refine (shown_any _).mono ?_
    rintro e w1 ⟨rfl, hb1⟩
    have hx1 := hx.next hb1
    obtain ⟨_, _, c0, c1, c2⟩ := id hx1
    clear hx hb1
    go_wp2_with fail
    refine (may_b ng s n false _ hs (unhide HM)).mono ?_
    rintro e w2 ⟨rfl, hb2⟩
    have hx2 := hx1.next hb2
    go_wp2
    go_ret
    exact ⟨rfl, hx2.1⟩
  | true =>
    have hmb := Dm.mayB_iff.1 hm
    obtain ⟨sc, rfl⟩ := Int.eq_ofNat_of_zero_le hmb.1
    obtain ⟨l, rfl⟩ : ∃ l : List UInt8, s = ⟨l.toArray⟩ := ⟨s.data.toList, by simp⟩
    rw [mk_list] at hm hmb
    have hmay : Dm.May ⟨ng, l, sc⟩ := by have := hmb.2; rwa [Int.toNat_natCast] at this
    have HM := hide hm
    clear hm hmb
    go_enter Tryd.func9, Tryd.ntmps9
    go_wp2_with fail
    refine (shown_any _).mono ?_
    rintro e w1 ⟨rfl, hb1⟩
    have hx1 := hx.next hb1
    obtain ⟨_, _, c0, c1, c2⟩ := id hx1
    clear hx hb1
    go_wp2_with fail
    refine (may_b ng ⟨l.toArray⟩ (sc : Int) true _ hs (unhide HM)).mono ?_
    rintro e w2 ⟨rfl, hb2⟩
    have hx2 := hx1.next hb2
    clear hx1 hb2 c0 c1 c2
    obtain ⟨hB2, hlt2, c0, c1, c2⟩ := id hx2
    go_wp2_with fail
    have hK := bits7 c hc
    obtain ⟨K, hKe⟩ : ∃ K : Nat, c % 8 = K := ⟨_, rfl⟩
    rw [hKe] at hK
    have hK7 : K ≤ 7 := by omega
    clear hKe
    go_loopw [9] (fun i wr => ∃ (k : Nat) (a : Dm.D), i = .int .i64 k ∧ k ≤ 7 ∧ ScInv w w2.heap.size ng l sc a wr) (fun i _ => 8 - (intOf i).toNat)
    case atStart =>
      refine ⟨0, ⟨ng, l, sc⟩, rfl, by omega, ?_⟩
      exact ScInv.start hx2 hmay
    case round =>
      obtain ⟨k, ⟨a1, a2, a3⟩, rfl, hk, hI⟩ := hrel
      clear c0 c1 c2
      have iM := hI.2.2.2.2.2
      obtain ⟨iB, ⟨_, d0, d1, d2⟩, ⟨_, t0, t1, t2⟩, ⟨_, u0, u1, u2⟩, ⟨⟨_, x0, x1, x2⟩, f0, f1, f2⟩, _⟩ := id hI
      simp only at x0 x1 x2 f0 f1 f2
      by_cases hlt : k < K
      · go_wp2_with fail
        refine (mul_tenth a1 a2 a3 _ iM).mono ?_
        rintro e w3 ⟨r, rfl, hr, hb3⟩
        have hI3 := hI.next hb3
        clear hI hb3 iB d0 d1 d2 t0 t1 t2 u0 u1 u2 x0 x1 x2 f0 f1 f2
        have HR := hide hr
        clear hr
        cases r with
        | none =>
          simp only [rx, ry, rz, re]
          go_wp2
          go_ret
          exact ⟨rfl, hI3.1.alloc hI3.1.size _⟩
        | some d =>
          obtain ⟨y1, y2, y3⟩ := d
          simp only [rx, ry, rz, re]
          have hY := Has3.start w3 (.bool y1) (.string ⟨y2.toArray⟩) (.int .i64 (y3 : Int)) 23
          have hI4 := hI3.next ((Below.refl _ _).alloc (Nat.le_refl _) (.cells #[.bool y1, .string ⟨y2.toArray⟩, .int .i64 (y3 : Int)] 23))
          obtain ⟨iB, ⟨_, d0, d1, d2⟩, ⟨_, t0, t1, t2⟩, ⟨_, u0, u1, u2⟩, ⟨⟨_, x0, x1, x2⟩, f0, f1, f2⟩, _⟩ := id hI4
          simp only at x0 x1 x2 f0 f1 f2
          clear hI3
          go_wp2_with fail
          refine (mul_ten y1 y2 y3 _ _ _ (unhide HR)).mono ?_
          rintro e w4 ⟨r2, rfl, hr2, hb4⟩
          have hI5 := hI4.next hb4
          have hY5 := hY.next hb4
          clear hI4 hY hb4 iB d0 d1 d2 t0 t1 t2 u0 u1 u2 x0 x1 x2 f0 f1 f2
          obtain rfl := back_ten iM (unhide HR) hr2
          have yM := (unhide HR).1
          obtain ⟨q, hq⟩ : ∃ q, sgnD a1 a2 = q := ⟨_, rfl⟩
          have hq2 : sgnD y1 y2 = q := by rw [← hq]; exact sgnD_same iM yM (unhide HR).2
          have HQ := hide hq
          have HQ2 := hide hq2
          clear hr2 hq hq2
          simp only [rx, ry, rz, re]
          have hZ := Has3.start w4 (.bool a1) (.string ⟨a2.toArray⟩) (.int .i64 (a3 : Int)) 23
          have hI6 := hI5.next ((Below.refl _ _).alloc (Nat.le_refl _) (.cells #[.bool a1, .string ⟨a2.toArray⟩, .int .i64 (a3 : Int)] 23))
          have hY6 := hY5.next ((Below.refl _ _).alloc (Nat.le_refl _) (.cells #[.bool a1, .string ⟨a2.toArray⟩, .int .i64 (a3 : Int)] 23))
          clear hI5 hY5
          have hM : ScMid w w2.heap.size w3.heap.size w4.heap.size ng l sc ⟨a1, a2, a3⟩ ⟨y1, y2, y3⟩ (w4.alloc (.cells #[.bool a1, .string ⟨a2.toArray⟩, .int .i64 (a3 : Int)] 23)) := ⟨hI6, hY6, hZ⟩
          clear hI6 hY6 hZ
          have tok1 : True := trivial
          have tok2 : True := trivial
          have hqq : (q != q) = false := by simp
          go_wp2_with fail
          obtain ⟨⟨z0, z1, z2⟩, ⟨x0, x1, x2⟩, ⟨p0, p1, p2⟩⟩ := hM.cells
          go_region_held3 (fun w' => (w'.cell? ⟨w4.heap.size, 0, none⟩ = some (.bool a1) ∧ w'.cell? ⟨w4.heap.size, 1, none⟩ = some (.string ⟨a2.toArray⟩) ∧ w'.cell? ⟨w4.heap.size, 2, none⟩ = some (.int .i64 (a3 : Int))) ∧ (w'.cell? ⟨w2.heap.size + 1 + 1, 0, none⟩ = some (.bool a1) ∧ w'.cell? ⟨w2.heap.size + 1 + 1, 1, none⟩ = some (.string ⟨a2.toArray⟩) ∧ w'.cell? ⟨w2.heap.size + 1 + 1, 2, none⟩ = some (.int .i64 (a3 : Int))) ∧ (w'.cell? ⟨w3.heap.size, 0, none⟩ = some (.bool y1) ∧ w'.cell? ⟨w3.heap.size, 1, none⟩ = some (.string ⟨y2.toArray⟩) ∧ w'.cell? ⟨w3.heap.size, 2, none⟩ = some (.int .i64 (y3 : Int)))) (first | exact hM.cells | exact hM.drew.cells) (first | (go_at_call 27; have _t := tok1; refine (cmp_zero y1 y2 y3 q _ yM (unhide HQ2)).mono ?_; rintro e w5 ⟨rfl, hbw⟩; replace hM := ScMid.next (by first | exact hM | exact hM.drew) hbw; clear hbw z0 z1 z2 x0 x1 x2 p0 p1 p2; obtain ⟨⟨z0, z1, z2⟩, ⟨x0, x1, x2⟩, ⟨p0, p1, p2⟩⟩ := hM.cells; clear tok1 _t) | (go_at_call 27; have _t := tok2; refine (cmp_zero a1 a2 a3 q _ iM (unhide HQ)).mono ?_; rintro e w6 ⟨rfl, hbw⟩; replace hM := ScMid.next (by first | exact hM | exact hM.drew) hbw; clear hbw z0 z1 z2 x0 x1 x2 p0 p1 p2; obtain ⟨⟨z0, z1, z2⟩, ⟨x0, x1, x2⟩, ⟨p0, p1, p2⟩⟩ := hM.cells; clear tok2 _t))
          obtain ⟨_, f0, f1, f2⟩ := id hM.1.2.2.2.2.1
          go_wp2
          go_round
          case rel => exact ⟨k + 1, ⟨y1, y2, y3⟩, by go_num, by omega, hM.1.store hlt2 yM⟩
          case measure => simp [intOf]; omega
      · obtain ⟨e0, eM, eS, hdis, eP⟩ := turned hmay
        obtain ⟨q, hq⟩ : ∃ q, sgnD false l = q := ⟨_, rfl⟩
        have hqp := sgnD_pos l q hq
        have HQ := hide hq
        have ES := hide eS
        clear hq eS iB t0 t1 t2 u0 u1 u2 x0 x1 x2 f0 f1 f2
        have hP := Has3.start wr (.bool false) (.string ⟨l.toArray⟩) (.int .i64 (sc : Int)) 23
        have hI1 := hI.next ((Below.refl _ _).alloc (Nat.le_refl _) (.cells #[.bool false, .string ⟨l.toArray⟩, .int .i64 (sc : Int)] 23))
        clear hI
        go_wp2_with fail
        refine (sub_r false [48] 0 ng l sc _ Dm.zero_may hmay).mono ?_
        rintro e w3 ⟨r, rfl, hr, hb3⟩
        obtain rfl := turned_rep eM (unhide ES) hr
        have hI2 := hI1.next hb3
        have hP2 := hP.next hb3
        clear hr hI1 hP hb3 d0 d1 d2
        simp only [rx, ry, rz, re]
        have hN := Has3.start w3 (.bool e0) (.string ⟨l.toArray⟩) (.int .i64 (sc : Int)) 23
        have hI3 := hI2.next ((Below.refl _ _).alloc (Nat.le_refl _) (.cells #[.bool e0, .string ⟨l.toArray⟩, .int .i64 (sc : Int)] 23))
        have hP3 := hP2.next ((Below.refl _ _).alloc (Nat.le_refl _) (.cells #[.bool e0, .string ⟨l.toArray⟩, .int .i64 (sc : Int)] 23))
        clear hI2 hP2
        obtain ⟨_, d0, d1, d2⟩ := id hI3.2.1
        go_wp2_with fail
        refine (mul_r ⟨ng, l, sc⟩ ⟨ng, l, sc⟩ _ hmay hmay).mono ?_
        rintro e w4 ⟨r3, rfl, hr3, hb4⟩
        have hI4 := hI3.next hb4
        have hP4 := hP3.next hb4
        have hN4 := hN.next hb4
        clear hI3 hP3 hN hb4 d0 d1 d2
        have HR3 := hide hr3
        clear hr3
        generalize hq0 : rx r3 = q0
        generalize hq1 : ry r3 = q1
        generalize hq2 : rz r3 = q2
        generalize hq3 : re r3 = q3
        have Z0 := hide hq0
        have Z1 := hide hq1
        have Z2 := hide hq2
        have Z3 := hide hq3
        clear hq0 hq1 hq2 hq3
        have hA := Has3.start w4 (.bool q0) (.string q1) (.int .i64 q2) 23
        have hI4' := hI4.next ((Below.refl _ _).alloc (Nat.le_refl _) (.cells #[.bool q0, .string q1, .int .i64 q2] 23))
        have hP4' := hP4.next ((Below.refl _ _).alloc (Nat.le_refl _) (.cells #[.bool q0, .string q1, .int .i64 q2] 23))
        have hN4' := hN4.next ((Below.refl _ _).alloc (Nat.le_refl _) (.cells #[.bool q0, .string q1, .int .i64 q2] 23))
        clear hI4 hP4 hN4
        obtain ⟨_, n0, n1, n2⟩ := id hN4'
        go_wp2_with fail
        refine (mul_r ⟨e0, l, sc⟩ ⟨e0, l, sc⟩ _ eM eM).mono ?_
        rintro e w5 ⟨r4, rfl, hr4, hb5⟩
        obtain rfl : r4 = r3 := by
          rw [unhide ES, Int.neg_mul_neg] at hr4
          exact hr4.uniq (unhide HR3)
        rw [unhide Z0, unhide Z1, unhide Z2, unhide Z3]
        clear Z0 Z1 Z2 Z3 HR3 hr4 n0 n1 n2
        have hI5 := (hI4'.next hb5).next ((Below.refl _ _).alloc (Nat.le_refl _) (.cells #[.bool q0, .string q1, .int .i64 q2] 23))
        have hP5 := (hP4'.next hb5).next ((Below.refl _ _).alloc (Nat.le_refl _) (.cells #[.bool q0, .string q1, .int .i64 q2] 23))
        have hN5 := (hN4'.next hb5).next ((Below.refl _ _).alloc (Nat.le_refl _) (.cells #[.bool q0, .string q1, .int .i64 q2] 23))
        have hA5 := (hA.next hb5).next ((Below.refl _ _).alloc (Nat.le_refl _) (.cells #[.bool q0, .string q1, .int .i64 q2] 23))
        have hO5 := Has3.start w5 (.bool q0) (.string q1) (.int .i64 q2) 23
        clear hI4' hP4' hN4' hA hb5
        obtain ⟨_, d0, d1, d2⟩ := id hI5.2.1
        obtain ⟨_, n0, n1, n2⟩ := id hN5
        obtain ⟨_, p0, p1, p2⟩ := id hP5
        rcases hdis with rfl | rfl
        · go_wp2_with fail
          refine (cmp_zero false l sc q _ eP (unhide HQ)).mono ?_
          rintro e w6 ⟨rfl, hb6⟩
          have hB6 := hI5.1.trans (hb6.mono hI5.1.size)
          obtain ⟨_, m0, m1, m2⟩ := hA5.next hb6
          obtain ⟨_, o0, o1, o2⟩ := hO5.next hb6
          clear d0 d1 d2 n0 n1 n2 p0 p1 p2 hb6
          go_wp2
          go_ret
          exact ⟨rfl, hB6⟩
        · cases e0
          · go_wp2_with fail
            refine (cmp_zero false l sc q _ eP (unhide HQ)).mono ?_
            rintro e w6 ⟨rfl, hb6⟩
            have hB6 := hI5.1.trans (hb6.mono hI5.1.size)
            obtain ⟨_, m0, m1, m2⟩ := hA5.next hb6
            obtain ⟨_, o0, o1, o2⟩ := hO5.next hb6
            clear d0 d1 d2 n0 n1 n2 p0 p1 p2 hb6
            go_wp2
            go_ret
            exact ⟨rfl, hB6⟩
          · go_wp2_with fail
            refine (cmp_zero false l sc q _ eP (unhide HQ)).mono ?_
            rintro e w6 ⟨rfl, hb6⟩
            have hB6 := hI5.1.trans (hb6.mono hI5.1.size)
            obtain ⟨_, m0, m1, m2⟩ := hA5.next hb6
            obtain ⟨_, o0, o1, o2⟩ := hO5.next hb6
            clear d0 d1 d2 n0 n1 n2 p0 p1 p2 hb6
            go_wp2
            go_ret
            exact ⟨rfl, hB6⟩
end Go.Proofs.YtpahiiffmkcelaaDoor
