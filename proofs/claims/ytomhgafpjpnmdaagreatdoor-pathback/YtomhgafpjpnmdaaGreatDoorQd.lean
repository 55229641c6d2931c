/- What is proved here: what worthOf, unit and numbered of package quote do, walked; conditions: as each theorem states. -/
import Derived.Test.YtomhgafpjpnmdaaGreatDoorQb
namespace Go.Proofs.YtomhgafpjpnmdaaGreatDoor
open Go.RowKit
set_option linter.unusedVariables false
set_option linter.unusedSimpArgs false

/-- A number, or none, as it is handed back. -/
def wV (o : Option Nat) : Value := .tuple #[.int .i32 ((o.getD 0 : Nat) : Int), .bool o.isSome]
theorem worth_any (r : Nat) (w : World) (hr : r ≤ 1114111) : Calls Tryz.prog 110 #[.int .i32 (r : Int)] w fun e w' => e = .returned (wV (Qm.worth r)) ∧ w' = w := by
  by_cases c1 : (48 : Int) ≤ (r : Int) <;> by_cases c2 : (r : Int) ≤ 57 <;> by_cases c3 : (97 : Int) ≤ (r : Int) <;> by_cases c4 : (r : Int) ≤ 102 <;> by_cases c5 : (65 : Int) ≤ (r : Int) <;> by_cases c6 : (r : Int) ≤ 70
  all_goals try (exfalso; omega)
  all_goals (
    go_enter Tryz.func110, Tryz.ntmps110
    go_wp2
    go_ret2
    refine ⟨?_, rfl⟩
    unfold wV Qm.worth
    repeat' split
    all_goals first | (exfalso; omega) | rfl | (simp; done) | (simp; omega))

theorem worth_high {c : Nat} (h : 128 ≤ c) : Qm.worth c = none := by
  unfold Qm.worth
  rw [if_neg (by omega), if_neg (by omega), if_neg (by omega)]
theorem dec_high (l : List UInt8) (h : 128 ≤ (l.getD 0 0).toNat) : 128 ≤ (Lib.decodeL l).1 := by
  rw [Lib.decodeL_N]
  rcases Lib.decodeN_shape l.length (l.getD 0 0).toNat (l.getD 1 0).toNat (l.getD 2 0).toNat (l.getD 3 0).toNat with ⟨c, e⟩ | ⟨c1, c2, c3, cv, e⟩ | ⟨c1, c2, c3, c4, cv, cs, e⟩ | ⟨c1, c2, c3, c4, c5, cv, cw, e⟩ | e
  all_goals (rw [e]; dsimp only; omega)
theorem dec_worth (c : UInt8) (t : List UInt8) : Qm.worth (Lib.decodeL (c :: t)).1 = Qm.worth c.toNat ∧ (Qm.worth c.toNat ≠ none → (Lib.decodeL (c :: t)).2 = 1) := by
  by_cases h : c.toNat < 128
  · rw [Lib.decodeL_ascii c t h]
    exact ⟨rfl, fun _ => rfl⟩
  · have h1 := dec_high (c :: t) (by simpa using (show 128 ≤ c.toNat by omega))
    rw [worth_high h1, worth_high (c := c.toNat) (by omega)]
    exact ⟨rfl, fun g => absurd rfl g⟩
theorem pre_two (l : List UInt8) (h : 2 ≤ l.length) : Lib.hasPrefix l [92, 117] = decide (l.getD 0 0 = 92 ∧ l.getD 1 0 = 117) := by
  match l, h with
  | a :: b :: t, _ => 
    rw [Bool.eq_iff_iff]
    simp only [Lib.hasPrefix, List.isPrefixOf, Bool.and_true, Bool.and_eq_true, beq_iff_eq, decide_eq_true_eq, List.getD_cons_zero, List.getD_cons_succ]
    exact ⟨fun ⟨x, y⟩ => ⟨x.symm, y.symm⟩, fun ⟨x, y⟩ => ⟨x.symm, y.symm⟩⟩
theorem pre_one (l : List UInt8) (c : UInt8) (hc : c ≠ 0) : Lib.hasPrefix l [c] = decide (l.getD 0 0 = c) := by
  match l with
  | [] => simp [Lib.hasPrefix, hc.symm]
  | a :: t =>
    rw [Bool.eq_iff_iff]
    simp only [Lib.hasPrefix, List.isPrefixOf, Bool.and_true, Bool.and_eq_true, beq_iff_eq, decide_eq_true_eq, List.getD_cons_zero, List.getD_cons_succ]
    exact ⟨fun x => x.symm, fun x => x.symm⟩
theorem prefix_is (s p : ByteArray) (b : Bool) (h : Lib.hasPrefix s.data.toList p.data.toList = b) (w : World) :
    Calls Tryz.prog 45 #[.string s, .string p] w fun e w' => e = .returned (.bool b) ∧ w' = w := by
  rw [← h]; exact Tryz.strings_HasPrefix s p w

set_option maxHeartbeats 4000000 in
set_option maxRecDepth 1000000 in
theorem unit_any (s : ByteArray) (w : World) (hs : s.size ≤ 9223372036854775807) :
    Calls Tryz.prog 106 #[.string s] w fun e w' => e = .returned (wV (Qm.unitL s.data.toList)) ∧ Below w.heap.size w w' := by
  by_cases h6 : (s.size : Int) < 6
  · have hu : Qm.unitL s.data.toList = none := by
      unfold Qm.unitL
      rw [if_neg]
      rw [← Lib.size_eq]
      omega
    rw [hu]
    go_enter Tryz.func106, Tryz.ntmps106
    go_wp2
    go_ret2
    exact ⟨rfl, Below.refl _ _⟩
  have h6' : (6 : Int) ≤ (s.size : Int) := by omega
  have hpre := pre_two s.data.toList (by rw [← Lib.size_eq]; omega)
  by_cases hq : s.data.toList.getD 0 0 = 92 ∧ s.data.toList.getD 1 0 = 117
  · have hpt := prefix_is s ⟨#[92, 117]⟩ true (by rw [show ((⟨#[92, 117]⟩ : ByteArray)).data.toList = [92, 117] from rfl, hpre]; exact decide_eq_true hq)
    have hu : Qm.unitL s.data.toList = Qm.digs ((s.data.toList.drop 2).take 4) 0 := by
      unfold Qm.unitL
      rw [if_pos ⟨by rw [← Lib.size_eq]; omega, hq⟩]
    rw [hu]
    obtain ⟨t, ht⟩ : ∃ t, s.extract 2 6 = t := ⟨_, rfl⟩
    have htl : (s.data.toList.drop 2).take 4 = t.data.toList := by rw [← ht, Lib.extract_data]
    have hts : t.size = 4 := by rw [← ht, ByteArray.size_extract]; omega
    rw [htl]
    obtain ⟨D0, hD0⟩ : ∃ D0, Qm.digs t.data.toList 0 = D0 := ⟨_, rfl⟩
    rw [hD0]
    clear hq hpre hu htl
    go_enter Tryz.func106, Tryz.ntmps106
    go_wp2_with (go_at_call 45; refine (hpt _).mono ?_; rintro e w ⟨rfl, rfl⟩)
    go_loopw [2, 5, 6, 7] (fun n _ _ _ wr => ∃ (pos v : Nat), n = .int .i32 (v : Int) ∧ wr.heap[w.heap.size]? = some (.stringIter t pos) ∧ Below w.heap.size w wr ∧ pos ≤ 4 ∧ v < 16 ^ pos ∧ Qm.digs (t.data.toList.drop pos) v = D0) (fun _ _ _ _ wr => t.size - wr.iterPos w.heap.size)
    case atStart =>
      refine ⟨0, 0, rfl, ?_, (Below.refl _ w).alloc (Nat.le_refl _) _, by omega, by omega, by rw [List.drop_zero]; exact hD0⟩
      have := World.iter_heap w t 0
      simpa using this
    case round =>
      obtain ⟨pos, v, rfl, hit, hbw, hp4, hv, hdg⟩ := hrel
      have hsz : w.heap.size < wr.heap.size := (Array.getElem?_eq_some_iff.1 hit).1
      by_cases hp : pos < t.size
      · have hnx : ∀ ty, (Instr.next (.pointer (some ⟨w.heap.size, 0, none⟩)) true ty).run Tryz.prog wr = _ := fun ty => Lib.run_next_any_at wr w.heap.size t pos ty hit hp
        obtain ⟨hne, hd, hdd, hw1, hw2⟩ := at_step t pos hp
        have hsc := Qm.decode_sc (t.data.toList.drop pos)
        rw [hd] at hsc
        have hit2 := Lib.iterAt_heap wr w.heap.size t pos (pos + (Utf8.decode t pos).2) hit
        have hbw2 := Lib.below_iterAt hbw (k := w.heap.size) (by omega) t (pos + (Utf8.decode t pos).2)
        obtain ⟨c, u, hcu⟩ : ∃ c u, t.data.toList.drop pos = c :: u := by
          cases hx : t.data.toList.drop pos with
          | nil => exact absurd hx hne
          | cons c u => exact ⟨c, u, rfl⟩
        obtain ⟨dw1, dw2⟩ := dec_worth c u
        rw [← hcu, hd] at dw1 dw2
        rw [hcu] at hdg
        unfold Qm.digs at hdg
        have hv16 : v ≤ 4095 := by
          have : v < 16 ^ 3 := Nat.lt_of_lt_of_le hv (Nat.pow_le_pow_right (by omega) (by omega))
          omega
        go_wp2_with (go_at_call 110; refine (worth_any (Utf8.decode t pos).1 _ hsc.1).mono ?_)
        rintro e W1 ⟨rfl, hW1⟩
        subst hW1
        unfold wV
        cases hx : Qm.worth (Utf8.decode t pos).1 with
        | none =>
          rw [← dw1, hx] at hdg
          dsimp only at hdg
          subst hdg
          go_wp2
          go_ret2
          exact ⟨rfl, hbw2⟩
        | some x =>
          rw [← dw1, hx] at hdg
          dsimp only at hdg
          have hx16 := Qm.worth_lt hx
          have h1 := dw2 (by rw [← dw1, hx]; simp)
          have hdu : t.data.toList.drop (pos + 1) = u := by
            have := congrArg List.tail hcu
            rwa [List.tail_drop] at this
          rw [h1] at hit2 hbw2 hw2 ⊢
          go_wp2
          go_roundw
          case rel =>
            refine ⟨pos + 1, 16 * v + x, ?_, hit2, hbw2, by omega, ?_, by rw [hdu]; exact hdg⟩
            · congr 1; push_cast; omega
            · rw [Nat.pow_succ]; omega
          case measure =>
            simp only [World.iterPos, hit2, hit]
            omega
      · have hnx : ∀ ty, (Instr.next (.pointer (some ⟨w.heap.size, 0, none⟩)) true ty).run Tryz.prog wr = _ := fun ty => Lib.run_next_end_at wr w.heap.size t pos ty hit hp
        rw [at_end t pos hp] at hdg
        unfold Qm.digs at hdg
        subst hdg
        go_wp2
        go_ret2
        exact ⟨rfl, hbw⟩
  · have hpt := prefix_is s ⟨#[92, 117]⟩ false (by rw [show ((⟨#[92, 117]⟩ : ByteArray)).data.toList = [92, 117] from rfl, hpre]; exact decide_eq_false hq)
    have hu : Qm.unitL s.data.toList = none := by
      unfold Qm.unitL
      rw [if_neg]
      intro g
      exact hq g.2
    rw [hu]
    clear hq hpre hu
    go_enter Tryz.func106, Tryz.ntmps106
    go_wp2_with (go_at_call 45; refine (hpt _).mono ?_; rintro e w ⟨rfl, rfl⟩)
    go_ret2
    exact ⟨rfl, Below.refl _ _⟩
end Go.Proofs.YtomhgafpjpnmdaaGreatDoor
