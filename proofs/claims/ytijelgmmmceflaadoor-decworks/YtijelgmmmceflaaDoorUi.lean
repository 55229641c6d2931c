/- What is proved here: what Mul of the document's own answers does, walked; conditions: both decimals may be. -/
import Derived.Test.YtijelgmmmceflaaDoorUf
import Derived.Test.YtijelgmmmceflaaDoorRb
import Derived.Test.YtijelgmmmceflaaDoorMi
import Derived.Test.YtijelgmmmceflaaDoorMb
import Derived.Deep.OwnRows
import Derived.BigRegion
namespace Go.Proofs.YtijelgmmmceflaaDoor
open Go.RowKit
set_option linter.unusedVariables false
set_option linter.unusedSimpArgs false

theorem Tri.step {w0 w w' : World} {a b c x y z : Value} {B : Nat} (h : Tri w0 a b c x y z w) (hB : w0.heap.size + 2 < B) (hb : Below B w w') : Tri w0 a b c x y z w' := by
  obtain ⟨h1, h2, ⟨p, q, r⟩, ⟨s, t, u⟩⟩ := h
  refine ⟨h1.step (by omega) hb, Nat.lt_of_lt_of_le h2 hb.size, ⟨?_, ?_, ?_⟩, ⟨?_, ?_, ?_⟩⟩
  · rw [hb.cell (p := ⟨w0.heap.size + 2, 0, none⟩) hB]; exact p
  · rw [hb.cell (p := ⟨w0.heap.size + 2, 1, none⟩) hB]; exact q
  · rw [hb.cell (p := ⟨w0.heap.size + 2, 2, none⟩) hB]; exact r
  · rw [hb.frozen (p := ⟨w0.heap.size + 2, 0, none⟩) hB]; exact s
  · rw [hb.frozen (p := ⟨w0.heap.size + 2, 1, none⟩) hB]; exact t
  · rw [hb.frozen (p := ⟨w0.heap.size + 2, 2, none⟩) hB]; exact u
/-- Where the sums have come to. -/
def RSum (w0 : World) (a b c x y z : Value) (g n X m : Nat) (wr : World) : Prop :=
  ∃ S : List Nat, S.length = n ∧ Dm.VR S = X ∧ (∀ p, p < n → S.getD p 0 ≤ m) ∧ Ints wr g S ∧ (∀ j, j < n → wr.frozen? ⟨g, j, none⟩ = false) ∧ Tri w0 a b c x y z wr ∧ w0.heap.size + 2 < g ∧ g < wr.heap.size
theorem RSum.next {w0 : World} {a b c x y z : Value} {g n X m : Nat} {wr w' : World} (h : RSum w0 a b c x y z g n X m wr) (hb : Below wr.heap.size wr w') : RSum w0 a b c x y z g n X m w' := by
  obtain ⟨S, h1, h2, h3, h4, h5, h6, h7, h8⟩ := h
  refine ⟨S, h1, h2, h3, h4.below hb, ?_, h6.next hb, h7, Nat.lt_of_lt_of_le h8 hb.size⟩
  intro j hj
  rw [hb.frozen (p := ⟨g, j, none⟩) h8]
  exact h5 j hj
theorem RSum.more {w0 : World} {a b c x y z : Value} {g n X m m' : Nat} {wr : World} (h : RSum w0 a b c x y z g n X m wr) (hm : m ≤ m') : RSum w0 a b c x y z g n X m' wr := by
  obtain ⟨S, h1, h2, h3, h4⟩ := h
  exact ⟨S, h1, h2, fun p hp => Nat.le_trans (h3 p hp) hm, h4⟩
theorem RSum.step {w0 : World} {a b c x y z : Value} {g n X m : Nat} {wr : World} (h : RSum w0 a b c x y z g n X m wr) {p d e s : Nat} (hp : p < n) (hd : d ≤ 9) (he : e ≤ 9) (hs : wr.cell? ⟨g, p, none⟩ = some (.int .i64 (s : Int))) (v : Int) (hv : v = (s : Int) + (d : Int) * (e : Int)) :
    RSum w0 a b c x y z g n (X + d * e * 10 ^ (n - 1 - p)) (m + 81) (wr.setCell ⟨g, p, none⟩ (.int .i64 v)) := by
  obtain ⟨S, h1, h2, h3, h4, h5, h6, h7, h8⟩ := h
  have hS : S.getD p 0 = s := by
    have := h4 p (by omega)
    rw [hs] at this
    injection this with this
    injection this with _ this
    omega
  have hv2 : v = ((S.getD p 0 + d * e : Nat) : Int) := by rw [hv, hS]; simp
  refine ⟨S.set p (S.getD p 0 + d * e), by rw [List.length_set]; exact h1, ?_, ?_, ?_, ?_, ?_, h7, by simpa [World.setCell] using h8⟩
  · rw [Dm.VR_set S p _ (by omega), h2, h1]
  · intro q hq
    have hde : d * e ≤ 9 * 9 := Nat.mul_le_mul hd he
    by_cases g1 : p = q
    · subst g1
      have := h3 p hq
      simp only [List.getD, List.getElem?_set_self (show p < S.length by omega), Option.getD_some] at this ⊢
      omega
    · have := h3 q hq
      simp only [List.getD, List.getElem?_set_ne g1] at this ⊢
      omega
  · rw [hv2]; exact h4.set p _
  · intro j hj
    rw [World.frozen?_setCell]
    exact h5 j hj
  · exact h6.step h7 ((Below.refl g wr).setCell (Nat.le_refl _) _)
theorem wrap_ok {n : Int} (h1 : -1000000000 ≤ n) (h2 : n ≤ 1000000000) : IntKind.i64.wrap n = n := by
  rw [IntKind.wrap_i64]; omega
/-- Where the digits have come to: those from j on are laid, cy is carried. -/
def RDig (w0 : World) (a b c x y z : Value) (g g2 n : Nat) (S : List Nat) (j cy : Nat) (wr : World) : Prop :=
  ∃ L : List UInt8, L.length = n ∧ Dm.allD (L.drop j) ∧ Dm.VR (S.drop j) = Dm.num (L.drop j) + cy * 10 ^ (n - j) ∧ Row wr g2 0 L ∧ (∀ i, i < n → wr.frozen? ⟨g2, i, none⟩ = false) ∧ Ints wr g S ∧ Tri w0 a b c x y z wr ∧ w0.heap.size + 2 < g ∧ g < g2
theorem RDig.step {w0 : World} {a b c x y z : Value} {g g2 n : Nat} {S : List Nat} {m cy : Nat} {wr : World} (h : RDig w0 a b c x y z g g2 n S (m + 1) cy wr) (hS : S.length = n) (hm : m < n) {t : Nat} (v : Int) (ht : t = S.getD m 0 + cy) (hv : v = 48 + ((t % 10 : Nat) : Int)) :
    RDig w0 a b c x y z g g2 n S m (t / 10) (wr.setCell ⟨g2, m, none⟩ (.int .u8 v)) := by
  obtain ⟨L, hL, hLd, heq, hrow, hfz, hI, hT, hg1, hg2⟩ := h
  obtain ⟨q, hq⟩ : ∃ q : UInt8, q.toNat = 48 + t % 10 := ⟨_, byte_of (by omega)⟩
  have hv2 : v = (q.toNat : Int) := by omega
  subst hv2
  have hdv : Dm.dv q = t % 10 := by unfold Dm.dv; omega
  have hdD : Dm.isD q = true := Dm.isD_iff.2 (by omega)
  have hdrop := Dm.drop_set_len (l := L) (j := m) (by omega) q
  refine ⟨L.set m q, by rw [List.length_set]; exact hL, ?_, ?_, hrow.set m q, ?_, ?_, hT.step (B := g2) (by omega) ((Below.refl g2 wr).setCell (Nat.le_refl _) _), hg1, hg2⟩
  · rw [hdrop]; exact Dm.allD_cons.2 ⟨hdD, hLd⟩
  · rw [hdrop, Dm.num_cons, hdv, Dm.VR_drop S m (by omega), heq, List.length_drop, hL, hS, show n - 1 - m = n - (m + 1) by omega, show n - m = n - (m + 1) + 1 by omega, Nat.pow_succ]
    have e1 : t / 10 * (10 ^ (n - (m + 1)) * 10) = (t / 10 * 10) * 10 ^ (n - (m + 1)) := by rw [Nat.mul_comm (10 ^ (n - (m + 1))) 10, Nat.mul_assoc]
    have e2 : (t % 10) * 10 ^ (n - (m + 1)) + (t / 10 * 10) * 10 ^ (n - (m + 1)) = (S.getD m 0) * 10 ^ (n - (m + 1)) + cy * 10 ^ (n - (m + 1)) := by
      rw [← Nat.add_mul, ← Nat.add_mul]; congr 1; omega
    omega
  · intro i hi
    rw [World.frozen?_setCell]
    exact hfz i hi
  · intro p hp
    rw [World.cell?_setCell_other (w := wr) (a := ⟨g2, m, none⟩) (b := ⟨g, p, none⟩) (h := by intro q; injection q with q1; omega)]
    exact hI p hp
theorem RDig.start {w0 : World} {a b c x y z : Value} {g n : Nat} {S : List Nat} {wr : World} (hS : S.length = n) (hI : Ints wr g S) (hT : Tri w0 a b c x y z wr) (h1 : w0.heap.size + 2 < g) (h2 : g < wr.heap.size) :
    RDig w0 a b c x y z g wr.heap.size n S n 0 (wr.alloc (.cells (madeCells #[.int .u8 0] n) 5)) := by
  refine ⟨List.replicate n 0, by simp, ?_, ?_, row_made wr n, fun j hj => frozen_made wr _ 5 j, hI.below ((Below.refl _ _).alloc (Nat.le_refl _) _), hT.next ((Below.refl _ _).alloc (Nat.le_refl _) _), h1, h2⟩
  · rw [List.drop_of_length_le (by simp)]; exact Dm.allD_nil
  · rw [List.drop_of_length_le (by omega), List.drop_of_length_le (by simp)]; simp [Dm.VR, Dm.num]
theorem RDig.fin {w0 : World} {a b c x y z : Value} {g g2 n : Nat} {S : List Nat} {cy A B : Nat} {wr : World} (h : RDig w0 a b c x y z g g2 n S 0 cy wr) (hV : Dm.VR S = A * B) (hAB : A * B < 10 ^ n) : ∃ L : List UInt8, L.length = n ∧ Dm.allD L ∧ Dm.num L = A * B ∧ Row wr g2 0 L ∧ Tri w0 a b c x y z wr := by
  obtain ⟨L, h1, h2, h3, h4, h5, h6, h7, h8⟩ := h
  simp only [List.drop_zero, Nat.sub_zero] at h2 h3
  have hl := Dm.num_lt h2
  rw [h1] at hl
  refine ⟨L, h1, h2, ?_, h4, h7⟩
  rw [hV] at h3
  cases cy with
  | zero => omega
  | succ c => exfalso; rw [Nat.add_mul] at h3; omega
/-- The three blocks, as the sums' relation holds them. -/
theorem RSum.tri {w0 : World} {a b c x y z : Value} {g n X m : Nat} {wr : World} (h : RSum w0 a b c x y z g n X m wr) : Tri w0 a b c x y z wr := by
  obtain ⟨S, _, _, _, _, _, h, _⟩ := h; exact h
theorem RSum.at {w0 : World} {a b c x y z : Value} {g n X m : Nat} {wr : World} (h : RSum w0 a b c x y z g n X m wr) {p : Nat} (hp : p < n) : ∃ s : Nat, wr.cell? ⟨g, p, none⟩ = some (.int .i64 (s : Int)) ∧ s ≤ m ∧ wr.frozen? ⟨g, p, none⟩ = false := by
  obtain ⟨S, h1, h2, h3, h4, h5, _⟩ := h
  exact ⟨_, h4 p (by omega), h3 p hp, h5 p hp⟩
theorem RSum.start (w : World) (x1 x2 : Bool) (s1 s2 : ByteArray) (ja jb n : Nat) : RSum w (.bool x1) (.string s1) (.int .i64 (ja : Int)) (.bool x2) (.string s2) (.int .i64 (jb : Int)) (w.heap.size + 1 + 1 + 1) n 0 0 ((((w.alloc (.cells #[.bool x1, .string s1, .int .i64 (ja : Int)] 23)).alloc (.cells #[.bool x2, .string s2, .int .i64 (jb : Int)] 23)).alloc (.cells #[.bool false, .string ⟨#[]⟩, .int .i64 0] 23)).alloc (.cells (madeCells #[.int .i64 0] n) 3)) := by
  have ht1 := Tri.start w (.bool x1) (.string s1) (.int .i64 (ja : Int)) (.bool x2) (.string s2) (.int .i64 (jb : Int)) 23
  have hz : (((w.alloc (.cells #[.bool x1, .string s1, .int .i64 (ja : Int)] 23)).alloc (.cells #[.bool x2, .string s2, .int .i64 (jb : Int)] 23)).alloc (.cells #[.bool false, .string ⟨#[]⟩, .int .i64 0] 23)).heap.size = w.heap.size + 1 + 1 + 1 := by simp
  generalize ((w.alloc (.cells #[.bool x1, .string s1, .int .i64 (ja : Int)] 23)).alloc (.cells #[.bool x2, .string s2, .int .i64 (jb : Int)] 23)).alloc (.cells #[.bool false, .string ⟨#[]⟩, .int .i64 0] 23) = W at ht1 hz ⊢
  refine ⟨List.replicate n 0, by simp, Dm.VR_zero n, fun p hp => by simp [List.getD, hp], ?_, ?_, ht1.next ((Below.refl _ _).alloc (Nat.le_refl _) _), by omega, by simp [hz]⟩
  · rw [← hz]; exact ints_made W n 3
  · intro j hj; rw [← hz]; exact frozen_made W (madeCells #[.int .i64 0] n) 3 j
theorem dv_of {s : ByteArray} {l : List UInt8} {k d : Nat} (e : s.data.toList = l) (hk : k < s.size) (hk2 : k < l.length) (h : (s[k].toNat : Int) - 48 = (d : Int)) : Dm.dv l[k] = d := by
  subst e
  rw [ba_get s k hk] at h
  unfold Dm.dv; omega
theorem rmul_in {s1 s2 : ByteArray} {a b : List UInt8} {k q n t dA dB X : Nat} (eb : s2.data.toList = b) (hla : a.length = s1.size) (hlb : b.length = s2.size) (h1 : k < s1.size) (h2 : q < s2.size) (hn : s1.size + s2.size = n) (ht : t = k + q + 1) (hdB : (s2[q].toNat : Int) - 48 = (dB : Int)) :
    X + dA * 10 ^ (a.length - 1 - k) * (Dm.num (b.take q) * 10 ^ (b.length - q)) + dA * dB * 10 ^ (n - 1 - t) = X + dA * 10 ^ (a.length - 1 - k) * (Dm.num (b.take (q + 1)) * 10 ^ (b.length - (q + 1))) := by
  have hv := dv_of eb h2 (by omega) hdB
  have e := Dm.num_take_next (l := b) (k := q) (by omega)
  rw [hv] at e
  have e2 := Dm.rmul_inner (A := 0) (B := Dm.num (b.take (q + 1)) * 10 ^ (b.length - (q + 1))) (d := dA) (X := Dm.num (b.take q) * 10 ^ (b.length - q)) (e := dB) (u := a.length - 1 - k) (v := b.length - 1 - q) (w := 0) e
  rw [show n - 1 - t = (a.length - 1 - k) + (b.length - 1 - q) by omega, Nat.add_assoc, e2]
theorem rmul_out {s1 s2 : ByteArray} {a b : List UInt8} {k dA : Nat} (ea : s1.data.toList = a) (hla : a.length = s1.size) (hlb : b.length = s2.size) (h1 : k < s1.size) (hdA : (s1[k].toNat : Int) - 48 = (dA : Int)) :
    Dm.num (a.take k) * 10 ^ (a.length - k) * Dm.num b + dA * 10 ^ (a.length - 1 - k) * (Dm.num (b.take s2.size) * 10 ^ (b.length - s2.size)) = Dm.num (a.take (k + 1)) * 10 ^ (a.length - (k + 1)) * Dm.num b := by
  have hv := dv_of ea h1 (by omega) hdA
  have e := Dm.num_take_next (l := a) (k := k) (by omega)
  rw [hv] at e
  rw [← hlb, List.take_length, Nat.sub_self, Nat.pow_zero, Nat.mul_one]
  exact Dm.rmul_outer e
set_option maxRecDepth 100000 in
set_option maxHeartbeats 4000000 in
theorem rmul_walk (x1 x2 : Bool) (s1 s2 : ByteArray) (a b : List UInt8) (ja jb : Nat) (w : World) (ha1 : 1 ≤ s1.size) (ha : s1.size ≤ 60) (hb : s2.size ≤ 60) (hja : ja ≤ 60) (hjb : jb ≤ 60) (da : Dm.allD s1.data.toList) (db : Dm.allD s2.data.toList) (ea : Hid (s1.data.toList = a)) (eb : Hid (s2.data.toList = b)) :
    Calls Tryd.prog 26 #[.agg #[.bool x1, .string s1, .int .i64 (ja : Int)], .agg #[.bool x2, .string s2, .int .i64 (jb : Int)]] w fun e w' => ∃ r, e = .returned (.tuple #[.agg #[.bool (rx r), .string (ry r), .int .i64 (rz r)], .int .i64 (re r)]) ∧ Dm.Rep (Dm.sgn (x1 != x2) (Dm.num a * Dm.num b)) (ja + jb) r ∧ Below w.heap.size w w' := by
  obtain ⟨n, hn⟩ : ∃ n : Nat, (s1.size : Int) + (s2.size : Int) = (n : Int) := ⟨s1.size + s2.size, by omega⟩
  have hn1 : n ≤ 120 := by omega
  have hS0 := RSum.start w x1 x2 s1 s2 ja jb n
  have hla : Hid (a.length = s1.size) := by show _ = _; rw [← unhide ea, ← size_len]
  have hlb : Hid (b.length = s2.size) := by show _ = _; rw [← unhide eb, ← size_len]
  have mk := fun W => run_make_row' (P := Tryd.prog) 71 3 (.int .i64 0) 8 Tryd.underlying71 (by kernel_rfl) rfl .i64 .i64 n (by omega) (by omega) W
  go_enter Tryd.func26, Tryd.ntmps26
  go_wp2
  have HN := hide hn
  clear hn mk
  go_loopw [8, 9, 10] (fun i _ _ wr => ∃ k : Nat, k ≤ s1.size ∧ i = .int .i64 k ∧ RSum w (.bool x1) (.string s1) (.int .i64 (ja : Int)) (.bool x2) (.string s2) (.int .i64 (jb : Int)) (w.heap.size + 1 + 1 + 1) n (Dm.num (a.take k) * 10 ^ (a.length - k) * Dm.num b) (81 * 60 * k) wr) (fun i _ _ _ => s1.size - (intOf i).toNat)
  case atStart => exact ⟨0, Nat.zero_le _, rfl, by simpa [Dm.num] using hS0⟩
  case round =>
    clear hS0
    obtain ⟨k, hk, rfl, hinv⟩ := hrel
    obtain ⟨wo, rfl⟩ : ∃ wo : World, wo = wr := ⟨_, rfl⟩
    obtain ⟨⟨c0, c1, c2⟩, ⟨d0, d1, d2⟩⟩ := hinv.tri.cells
    have HINV := hide hinv
    clear hinv
    by_cases hlt : k < s1.size
    · obtain ⟨dA, hdA⟩ : ∃ dA : Nat, (s1[k].toNat : Int) - 48 = (dA : Int) := ⟨((s1[k].toNat : Int) - 48).toNat, by have := digit_bd da hlt; omega⟩
      have HDA := hide hdA
      clear hdA
      go_wp2
      clear c0 c1 c2 d0 d1 d2
      go_loopw [9, 10] (fun j _ wr => ∃ q : Nat, q ≤ s2.size ∧ j = .int .i64 q ∧ RSum w (.bool x1) (.string s1) (.int .i64 (ja : Int)) (.bool x2) (.string s2) (.int .i64 (jb : Int)) (w.heap.size + 1 + 1 + 1) n (Dm.num (a.take k) * 10 ^ (a.length - k) * Dm.num b + dA * 10 ^ (a.length - 1 - k) * (Dm.num (b.take q) * 10 ^ (b.length - q))) (81 * 60 * k + 81 * q) wr) (fun j _ _ => s2.size - (intOf j).toNat)
      case atStart => exact ⟨0, Nat.zero_le _, rfl, by simpa [Dm.num] using unhide HINV⟩
      case round =>
        obtain ⟨q, hq, rfl, hinv⟩ := hrel
        obtain ⟨⟨c0, c1, c2⟩, ⟨d0, d1, d2⟩⟩ := hinv.tri.cells
        have HI := hide hinv
        clear hinv
        by_cases hlt2 : q < s2.size
        · have hn3 : s1.size + s2.size = n := by have := unhide HN; omega
          obtain ⟨t, ht⟩ : ∃ t : Nat, (n : Int) - 1 - ((s1.size : Int) - 1 - (k : Int)) - ((s2.size : Int) - 1 - (q : Int)) = (t : Int) := ⟨k + q + 1, by omega⟩
          have htn : t < n := by omega
          obtain ⟨dB, hdB⟩ : ∃ dB : Nat, (s2[q].toNat : Int) - 48 = (dB : Int) := ⟨((s2[q].toNat : Int) - 48).toNat, by have := digit_bd db hlt2; omega⟩
          obtain ⟨s, hs1, hs2, hsf⟩ := (unhide HI).at htn
          have hdA := unhide HDA
          have b1 := digit_bd da hlt
          have b2 := digit_bd db hlt2
          have hA9 : dA ≤ 9 := by omega
          have hB9 : dB ≤ 9 := by omega
          have hpr : (dA : Int) * (dB : Int) ≤ 81 := by
            have : dA * dB ≤ 9 * 9 := Nat.mul_le_mul (by omega) (by omega)
            have e : ((dA * dB : Nat) : Int) = (dA : Int) * (dB : Int) := Int.natCast_mul dA dB
            omega
          have hpr0 : (0 : Int) ≤ (dA : Int) * (dB : Int) := Int.mul_nonneg (by omega) (by omega)
          have hs9 : (s : Int) ≤ 1000000 := by omega
          have hw1 : IntKind.i64.wrap ((dA : Int) * (dB : Int)) = (dA : Int) * (dB : Int) := wrap_ok (by omega) (by omega)
          have hw2 : IntKind.i64.wrap ((s : Int) + (dA : Int) * (dB : Int)) = (s : Int) + (dA : Int) * (dB : Int) := wrap_ok (by omega) (by omega)
          have i1 : (k : Int) < (s1.size : Int) := by omega
          have i2 : (q : Int) < (s2.size : Int) := by omega
          have i3 : (t : Int) < (n : Int) := by omega
          obtain ⟨b11, b12⟩ := b1
          obtain ⟨b21, b22⟩ := b2
          go_wp2_with fail
          go_region
          all_goals go_wp2
          all_goals
            go_roundw
            case rel =>
              refine ⟨q + 1, by omega, by go_num, ?_⟩
              have hst := (unhide HI).step htn hA9 hB9 hs1 _ rfl
              rw [rmul_in (unhide eb) (unhide hla) (unhide hlb) hlt hlt2 hn3 (by omega) hdB] at hst
              exact (hst.more (by omega)).next (Below.refl _ _).drew
            case measure => simp [intOf]; omega
        · obtain rfl : q = s2.size := by omega
          go_wp2
          go_roundw
          case rel =>
            refine ⟨k + 1, by omega, by go_num, ?_⟩
            have h := unhide HI
            rw [rmul_out (unhide ea) (unhide hla) (unhide hlb) hlt (unhide HDA)] at h
            exact h.more (by omega)
          case measure => simp [intOf]; omega
    · obtain rfl : k = s1.size := by omega
      obtain ⟨S, h1, h2, h3, h4, h5, h6, h7, h8⟩ := unhide HINV
      have hV : Hid (Dm.VR S = Dm.num a * Dm.num b) := by
        show _ = _
        rw [h2, ← unhide hla, List.take_length, Nat.sub_self, Nat.pow_zero, Nat.mul_one]
      have hAB : Hid (Dm.num a * Dm.num b < 10 ^ n) := by
        show _ < _
        have g1 := Dm.num_lt (l := a) (by rw [← unhide ea]; exact da)
        have g2 := Dm.num_lt (l := b) (by rw [← unhide eb]; exact db)
        have g3 : Dm.num a * Dm.num b < 10 ^ a.length * 10 ^ b.length := Nat.mul_lt_mul'' g1 g2
        rw [← Nat.pow_add, unhide hla, unhide hlb] at g3
        have := unhide HN
        rw [show s1.size + s2.size = n by omega] at g3; exact g3
      have hR := RDig.start h1 h4 h6 h7 h8
      have mk2 := run_make_row' (P := Tryd.prog) 42 5 (.int .u8 0) 1 Tryd.underlying42 (by kernel_rfl) rfl .i64 .i64 n (by omega) (by omega) wo
      have HS := hide h1
      clear h1 h2 h4 h5 h6 HINV
      go_wp2
      clear mk2 c0 c1 c2 d0 d1 d2
      go_loopw [12, 13, 14] (fun c i _ wr => ∃ j cy : Nat, j ≤ n ∧ i = .int .i64 ((j : Int) - 1) ∧ c = .int .i64 (cy : Int) ∧ (cy : Int) ≤ 1000000 ∧ RDig w (.bool x1) (.string s1) (.int .i64 (ja : Int)) (.bool x2) (.string s2) (.int .i64 (jb : Int)) (w.heap.size + 1 + 1 + 1) wo.heap.size n S j cy wr) (fun _ i _ _ => (intOf i + 1).toNat)
      case atStart => exact ⟨n, 0, Nat.le_refl _, rfl, rfl, by omega, hR⟩
      case round =>
        clear hR
        obtain ⟨j, cy, hj, rfl, rfl, hcy, hinv⟩ := hrel
        cases j with
        | zero =>
          obtain ⟨L, f1, f2, f3, f4, f5⟩ := hinv.fin (unhide hV) (unhide hAB)
          obtain ⟨⟨c0, c1, c2⟩, ⟨d0, d1, d2⟩⟩ := f5.cells
          have cv := conv_row wo.heap.size 0 n n L wr f1 f4
          obtain ⟨J, hJ⟩ : ∃ J : Nat, (ja : Int) + (jb : Int) = (J : Int) := ⟨ja + jb, by omega⟩
          have hJ2 : Hid (ja + jb = J) := by show _ = _; omega
          have hJ3 : J ≤ 120 := by omega
          have F1 := hide f1
          have F3 := hide f3
          clear hinv f1 f3 f4
          go_wp2_with (go_at_call 35; refine (norm_r _ L J _ _ (by have := unhide F1; omega) (by omega) f2 rfl).mono ?_; rintro e w5 ⟨r, rfl, hrep, hb5⟩; have ht5 := f5.next hb5; obtain ⟨⟨k0, k1, k2⟩, ⟨f0, f01, f02⟩⟩ := ht5.out; have HREP := hide hrep; clear hrep hb5)
          refine bodyPost_ret (v := tV r) ?_ rfl ⟨r, rfl, ?_, ht5.end _ _ _⟩
          · simp [results, Tryd.results26, go_sem, k0, k1, k2, tV]
          · have := unhide HREP
            rw [unhide F3, ← unhide hJ2] at this
            exact this
        | succ m =>
          have e1 : (((m + 1 : Nat) : Int) - 1) = (m : Int) := by omega
          rw [e1]
          clear e1
          obtain ⟨L, i1, i2, i3, i4, i5, i6, i7, i8, i9⟩ := id hinv
          obtain ⟨s, hs1, hs2⟩ : ∃ s : Nat, wr.cell? ⟨w.heap.size + 1 + 1 + 1, m, none⟩ = some (.int .i64 (s : Int)) ∧ (s : Int) ≤ 1000000 := ⟨_, i6 m (by have := unhide HS; omega), by have := h3 m (by omega); omega⟩
          have hst : wr.cell? ⟨wo.heap.size, m, none⟩ = some (.int .u8 ((L.getD m 0).toNat : Int)) := by
            have := i4 m (by omega)
            rw [Nat.zero_add] at this; exact this
          have hsf : wr.frozen? ⟨wo.heap.size, m, none⟩ = false := i5 _ (by omega)
          have hmn : (m : Int) < (n : Int) := by omega
          have hSm : Hid (s = S.getD m 0) := by
            have := i6 m (by have := unhide HS; omega)
            rw [hs1] at this
            injection this with this
            injection this with _ this
            show _ = _; omega
          have HI := hide hinv
          clear hinv i1 i2 i3 i4 i5 i6 i7 i8 i9
          go_wp2
          go_roundw
          case rel =>
            refine ⟨m, (s + cy) / 10, by omega, by go_num, by go_num, by omega, ?_⟩
            exact (unhide HI).step (unhide HS) (by omega) (t := s + cy) _ (by rw [unhide hSm]) (by omega)
          case measure => simp only [intOf]; omega
end Go.Proofs.YtijelgmmmceflaaDoor
