/- What is proved here: what digitAt and combine of package dec do, walked; conditions: as each theorem states. -/
import Derived.Test.YtmlmplmghlbdmaaGreatDoorWj
import Derived.Test.YtmlmplmghlbdmaaGreatDoorM
import Derived.Deep.OwnRows
namespace Go.Proofs.YtmlmplmghlbdmaaGreatDoor
open Go.RowKit
set_option linter.unusedVariables false
set_option linter.unusedSimpArgs false

theorem ret_slice {p : Option Addr} {n m : Nat} (h : n = m) : Ending.returned (.slice p n n) = .returned (.slice p m m) := by rw [h]
theorem ret_int {k : IntKind} {a b : Int} (h : a = b) : Ending.returned (.int k a) = .returned (.int k b) := by rw [h]
set_option maxRecDepth 100000 in
set_option maxHeartbeats 1000000 in
theorem digitAt_any (s : ByteArray) (i : Int) (w : World) (hs : s.size ≤ 100000) (h0 : -1000000 ≤ i) (h1 : i ≤ 1000000) (hd : Dm.allD s.data.toList) :
    Calls Tryz.prog 102 #[.string s, .int .i64 i] w fun e w' => e = .returned (.int .i64 (Dm.dAt s.data.toList i : Int)) ∧ w' = w := by
  have hz := size_len s
  by_cases hlt : i < 0
  · have e : Dm.dAt s.data.toList i = 0 := by unfold Dm.dAt; rw [if_neg (by omega)]
    rw [e]
    clear hz hd
    go_enter Tryz.func102, Tryz.ntmps102
    go_wp2
    go_ret
    exact ⟨rfl, rfl⟩
  · by_cases hge : (s.size : Int) ≤ i
    · have e : Dm.dAt s.data.toList i = 0 := by unfold Dm.dAt; rw [if_neg (by omega)]
      rw [e]
      clear hz hd
      go_enter Tryz.func102, Tryz.ntmps102
      go_wp2
      go_ret
      exact ⟨rfl, rfl⟩
    · have g1 : (0 : Int) ≤ (s.size : Int) - 1 - i := by omega
      have g2 : (s.size : Int) - 1 - i < (s.size : Int) := by omega
      have g3 : ((s.size : Int) - 1 - i).toNat < s.size := by omega
      have e : (Dm.dAt s.data.toList i : Int) = ((s[((s.size : Int) - 1 - i).toNat].toNat : Int) - 48) ∧ (48 : Int) ≤ (s[((s.size : Int) - 1 - i).toNat].toNat : Int) ∧ (s[((s.size : Int) - 1 - i).toNat].toNat : Int) ≤ 57 := by
        have hi : s.data.toList.length - 1 - i.toNat < s.data.toList.length := by omega
        have hj : ((s.size : Int) - 1 - i).toNat = s.data.toList.length - 1 - i.toNat := by omega
        have hx : s[((s.size : Int) - 1 - i).toNat] = s.data.toList[s.data.toList.length - 1 - i.toNat] := by
          rw [ba_get s _ g3]; simp only [hj]
        have hq := Dm.isD_iff.1 (hd _ (List.getElem_mem hi))
        rw [hx]
        refine ⟨?_, by omega, by omega⟩
        unfold Dm.dAt
        rw [if_pos (by omega)]
        simp only [List.getD, List.getElem?_eq_getElem hi, Option.getD_some]
        unfold Dm.dv; omega
      obtain ⟨e1, e2, e3⟩ := e
      have E1 := hide e1
      clear e1 hz hd
      go_enter Tryz.func102, Tryz.ntmps102
      go_wp2
      go_ret
      exact ⟨ret_int (unhide E1).symm, rfl⟩
theorem digitAt_b (s : ByteArray) (i : Int) (d : Nat) (w : World) (hs : s.size ≤ 100000) (h0 : -1000000 ≤ i) (h1 : i ≤ 1000000) (hd : Dm.allD s.data.toList) (he : Dm.dAt s.data.toList i = d) :
    Calls Tryz.prog 102 #[.string s, .int .i64 i] w fun e w' => e = .returned (.int .i64 (d : Int)) ∧ w' = w := by
  have := digitAt_any s i w hs h0 h1 hd
  rw [he] at this; exact this

def AddInv (w0 : World) (x1 x2 x3 x4 x5 x6 : Value) (g cnt A B : Nat) (sg : Int) (k : Nat) (cy : Int) (wr : World) : Prop :=
  ∃ L : List UInt8, L.length = cnt ∧ Dm.allD (L.drop (cnt - k)) ∧ ((A % 10 ^ k : Nat) : Int) + sg * ((B % 10 ^ k : Nat) : Int) = (Dm.num (L.drop (cnt - k)) : Int) + cy * Dm.p10 k ∧
    Row wr g 0 L ∧ (∀ j, j < cnt → wr.frozen? ⟨g, j, none⟩ = false) ∧ Two w0 x1 x2 x3 x4 x5 x6 wr ∧ w0.heap.size + 1 < g

theorem AddInv.step {w0 : World} {x1 x2 x3 x4 x5 x6 : Value} {g cnt A B : Nat} {sg : Int} {k : Nat} {cy : Int} {wr : World} (h : AddInv w0 x1 x2 x3 x4 x5 x6 g cnt A B sg k cy wr) (hk : k < cnt)
    (t v : Int) (ht0 : 0 ≤ t) (ht : t = ((A / 10 ^ k % 10 : Nat) : Int) + sg * ((B / 10 ^ k % 10 : Nat) : Int) + cy + 10) (hv : v = 48 + t % 10) (nq : Nat) :
    AddInv w0 x1 x2 x3 x4 x5 x6 g cnt A B sg (k + 1) (t / 10 - 1) ((wr.drewN nq).setCell ⟨g, cnt - 1 - k, none⟩ (.int .u8 v)) := by
  obtain ⟨L, hL, hLd, heq, hrow, hfz, htw, hg⟩ := h
  have hc : (UInt8.ofNat v.toNat).toNat = v.toNat := UInt8.toNat_ofNat_of_lt' (by show v.toNat < 256; omega)
  have hcv : (((UInt8.ofNat v.toNat).toNat : Nat) : Int) = v := by omega
  have hdv : Dm.dv (UInt8.ofNat v.toNat) = (t % 10).toNat := by unfold Dm.dv; omega
  have hdD : Dm.isD (UInt8.ofNat v.toNat) = true := Dm.isD_iff.2 (by omega)
  have e1 : cnt - (k + 1) = cnt - 1 - k := by omega
  have e2 : cnt - 1 - k + 1 = cnt - k := by omega
  have hdrop := Dm.drop_set_len (l := L) (j := cnt - 1 - k) (by omega) (UInt8.ofNat v.toNat)
  rw [e2] at hdrop
  refine ⟨L.set (cnt - 1 - k) (UInt8.ofNat v.toNat), by rw [List.length_set]; exact hL, ?_, ?_, ?_, ?_, ?_, hg⟩
  · rw [e1, hdrop]
    exact Dm.allD_cons.2 ⟨hdD, hLd⟩
  · rw [e1, hdrop, Dm.num_cons, hdv]
    have hlen : (L.drop (cnt - k)).length = k := by rw [List.length_drop]; omega
    rw [hlen]
    exact Dm.step_add heq ht ht0
  · have := (Row.below (w' := wr.drewN nq) hrow (below_drewN (Below.refl _ _) nq)).set (cnt - 1 - k) (UInt8.ofNat v.toNat)
    rw [hcv] at this
    exact this
  · intro j hj
    rw [World.frozen?_setCell]
    exact hfz j hj
  · exact htw.step (B := w0.heap.size + 1 + 1) (by omega) ((below_drewN (Below.refl _ _) nq).setCell (by show w0.heap.size + 1 + 1 ≤ g; omega) _)
theorem AddInv.fin {w0 : World} {x1 x2 x3 x4 x5 x6 : Value} {g cnt A B : Nat} {sg : Int} {cy : Int} {wr : World} (h : AddInv w0 x1 x2 x3 x4 x5 x6 g cnt A B sg cnt cy wr) (hsg : sg = 1 ∨ sg = -1) (hc0 : 0 < cnt)
    (hA : A < 10 ^ (cnt - 1)) (hB : B < 10 ^ (cnt - 1)) (hpos : 0 ≤ (A : Int) + sg * (B : Int)) :
    ∃ L : List UInt8, L.length = cnt ∧ Dm.allD L ∧ Row wr g 0 L ∧ (Dm.num L : Int) = (A : Int) + sg * (B : Int) := by
  obtain ⟨L, hL, hLd, heq, hrow, hfz, htw, hg⟩ := h
  have h10 : 10 ^ (cnt - 1) * 10 ≤ 10 ^ cnt := Dm.pow_lt (by omega)
  rw [Nat.sub_self, List.drop_zero] at hLd heq
  rw [Nat.mod_eq_of_lt (show A < 10 ^ cnt by omega), Nat.mod_eq_of_lt (show B < 10 ^ cnt by omega)] at heq
  have hlt := Dm.num_lt hLd
  rw [hL] at hlt
  refine ⟨L, hL, hLd, hrow, ?_⟩
  have hp : Dm.p10 cnt = ((10 ^ cnt : Nat) : Int) := rfl
  have hcy : cy = 0 := by
    rcases Int.lt_trichotomy cy 0 with g1 | g1 | g1
    · exfalso
      have : cy * Dm.p10 cnt ≤ (-1) * Dm.p10 cnt := Int.mul_le_mul_of_nonneg_right (by omega) (by rw [hp]; omega)
      rw [hp] at this heq
      omega
    · exact g1
    · exfalso
      have : 1 * Dm.p10 cnt ≤ cy * Dm.p10 cnt := Int.mul_le_mul_of_nonneg_right (by omega) (by rw [hp]; omega)
      rw [hp] at this heq
      rcases hsg with rfl | rfl <;> omega
  rw [heq, hcy, Int.zero_mul, Int.add_zero]
theorem dAt_b {l : List UInt8} (h : Dm.allD l) {n j k d : Nat} (hj : j ≤ n) (hd : Dm.dAt l ((k : Int) - ((n : Int) - (j : Int))) = d) : Dm.num l * 10 ^ (n - j) / 10 ^ k % 10 = d := by
  rw [← Dm.dAt_nat h, ← hd]
  congr 1
  omega
theorem num_scaled {l : List UInt8} (h : Dm.allD l) {m c : Nat} (hc : l.length + m ≤ c) : Dm.num l * 10 ^ m < 10 ^ c := by
  have h1 := Dm.num_lt h
  have h2 : Dm.num l * 10 ^ m < 10 ^ l.length * 10 ^ m := Nat.mul_lt_mul_of_pos_right h1 (Dm.pow_pos' m)
  rw [← Nat.pow_add] at h2
  exact Nat.lt_of_lt_of_le h2 (Nat.pow_le_pow_right (by omega) hc)

set_option maxRecDepth 100000 in
set_option maxHeartbeats 1000000 in
theorem combine_any (na nb : Bool) (a b : ByteArray) (ja jb n : Nat) (sg : Int) (w : World) (ha : a.size ≤ 60) (hb : b.size ≤ 60) (hja : ja ≤ n) (hjb : jb ≤ n) (hn : n ≤ 60) (hda : Dm.allD a.data.toList) (hdb : Dm.allD b.data.toList) (hsg : sg = 1 ∨ sg = -1) (hpos : 0 ≤ ((Dm.num a.data.toList * 10 ^ (n - ja) : Nat) : Int) + sg * ((Dm.num b.data.toList * 10 ^ (n - jb) : Nat) : Int)) :
    Calls Tryz.prog 93 #[.agg #[.bool na, .string a, .int .i64 ja], .agg #[.bool nb, .string b, .int .i64 jb], .int .i64 sg, .int .i64 n] w fun e w' => ∃ (g : Nat) (L : List UInt8), e = .returned (.slice (some ⟨g, 0, none⟩) L.length L.length) ∧ 0 < L.length ∧ L.length ≤ 200 ∧ Dm.allD L ∧ Row w' g 0 L ∧ (Dm.num L : Int) = ((Dm.num a.data.toList * 10 ^ (n - ja) : Nat) : Int) + sg * ((Dm.num b.data.toList * 10 ^ (n - jb) : Nat) : Int) ∧ Below w.heap.size w w' := by
  have HP := hide hpos
  clear hpos
  have ht := Two.start w (.bool na) (.string a) (.int .i64 (ja : Int)) (.bool nb) (.string b) (.int .i64 (jb : Int)) 23
  have hwa : IntKind.i64.wrap ((n : Int) - (ja : Int)) = (n : Int) - (ja : Int) := wrap_id (by omega) (by omega)
  have hwb : IntKind.i64.wrap ((n : Int) - (jb : Int)) = (n : Int) - (jb : Int) := wrap_id (by omega) (by omega)
  have hda9 := Dm.dAt_le hda
  have hdb9 := Dm.dAt_le hdb
  have HA := hide hda9
  have HB := hide hdb9
  clear hda9 hdb9
  rcases hsg with rfl | rfl
  · go_enter Tryz.func93, Tryz.ntmps93
    go_wp2
    go_quiet (fail)
    go_wp2
    obtain ⟨cnt, hcnt⟩ : ∃ cnt : Nat, max ((a.size : Int) + ((n : Int) - (ja : Int))) ((b.size : Int) + ((n : Int) - (jb : Int))) + 1 = (cnt : Int) := ⟨(max ((a.size : Int) + ((n : Int) - (ja : Int))) ((b.size : Int) + ((n : Int) - (jb : Int))) + 1).toNat, by omega⟩
    have hc1 : cnt ≤ 200 := by omega
    have hcA : a.size + (n - ja) + 1 ≤ cnt := by omega
    have hcB : b.size + (n - jb) + 1 ≤ cnt := by omega
    rw [hcnt]
    have mk := fun W => run_make_row' (P := Tryz.prog) 38 5 (.int .u8 0) 1 Tryz.underlying38 (by kernel_rfl) rfl .i64 .i64 cnt (by omega) (by omega) W
    rw [mk]
    have HC := hide hcnt
    clear hcnt mk
    go_wp2
    go_loopw [39, 13, 14, 15] (fun i c _ _ wr => ∃ (k : Nat) (cy : Int), k ≤ cnt ∧ i = .int .i64 k ∧ c = .int .i64 cy ∧ -1 ≤ cy ∧ cy ≤ 1 ∧ AddInv w (.bool na) (.string a) (.int .i64 (ja : Int)) (.bool nb) (.string b) (.int .i64 (jb : Int)) (w.heap.size + 1 + 1) cnt (Dm.num a.data.toList * 10 ^ (n - ja)) (Dm.num b.data.toList * 10 ^ (n - jb)) 1 k cy wr) (fun i _ _ _ _ => cnt - (intOf i).toNat)
    case atStart =>
      refine ⟨0, 0, Nat.zero_le _, rfl, rfl, by omega, by omega, List.replicate cnt 0, by simp, ?_, ?_, ?_, ?_, ?_, by omega⟩
      · rw [Nat.sub_zero, List.drop_of_length_le (by simp)]; exact Dm.allD_nil
      · rw [Nat.sub_zero, List.drop_of_length_le (by simp)]; simp [Dm.num, Nat.mod_one]
      · have hr := row_made (((w.alloc (.cells #[.bool na, .string a, .int .i64 (ja : Int)] 23)).alloc (.cells #[.bool nb, .string b, .int .i64 (jb : Int)] 23)).drewN nq) cnt
        have hz : (((w.alloc (.cells #[.bool na, .string a, .int .i64 (ja : Int)] 23)).alloc (.cells #[.bool nb, .string b, .int .i64 (jb : Int)] 23)).drewN nq).heap.size = w.heap.size + 1 + 1 := by simp
        rw [hz] at hr
        exact hr
      · intro j hj
        have hr := frozen_made (((w.alloc (.cells #[.bool na, .string a, .int .i64 (ja : Int)] 23)).alloc (.cells #[.bool nb, .string b, .int .i64 (jb : Int)] 23)).drewN nq) (madeCells #[.int .u8 0] cnt) 5 j
        have hz : (((w.alloc (.cells #[.bool na, .string a, .int .i64 (ja : Int)] 23)).alloc (.cells #[.bool nb, .string b, .int .i64 (jb : Int)] 23)).drewN nq).heap.size = w.heap.size + 1 + 1 := by simp
        rw [hz] at hr
        exact hr
      · exact (ht.drewN nq).alloc _
    case round =>
      obtain ⟨k, cy, hk, rfl, rfl, hcy1, hcy2, hinv⟩ := hrel
      by_cases hlt : k < cnt
      · obtain ⟨L, hL, hLd, heq, hrow, hfz, htw, hg⟩ := id hinv
        obtain ⟨tb, tl, ⟨d0, d1, d2⟩, ⟨e0, e1, e2⟩⟩ := id htw
        obtain ⟨da, hda1, hda2⟩ : ∃ da : Nat, Dm.dAt a.data.toList ((k : Int) - ((n : Int) - (ja : Int))) = da ∧ (da : Int) ≤ 9 := ⟨_, rfl, by have := unhide HA ((k : Int) - ((n : Int) - (ja : Int))); omega⟩
        obtain ⟨db, hdb1, hdb2⟩ : ∃ db : Nat, Dm.dAt b.data.toList ((k : Int) - ((n : Int) - (jb : Int))) = db ∧ (db : Int) ≤ 9 := ⟨_, rfl, by have := unhide HB ((k : Int) - ((n : Int) - (jb : Int))); omega⟩
        have hst : wr.cell? ⟨w.heap.size + 1 + 1, (cnt - 1 - k), none⟩ = some (.int .u8 ((L.getD (cnt - 1 - k) 0).toNat : Int)) := by
          have := hrow (cnt - 1 - k) (by omega)
          rw [Nat.zero_add] at this; exact this
        have hsf : wr.frozen? ⟨w.heap.size + 1 + 1, (cnt - 1 - k), none⟩ = false := hfz _ (by omega)
        have HINV := hide hinv
        have HDA := hide hda1
        have HDB := hide hdb1
        clear heq hL hLd hrow hfz hinv htw hg
        go_wp2_with fail
        go_quiet ((go_at_call 102; exact Calls.quiet_of_same (digitAt_any _ _ _ (by omega) (by omega) (by omega) (by assumption))))
        go_wp2
        go_roundw
        case rel =>
          refine ⟨k + 1, ((da : Int) + (db : Int) + cy + 10) / 10 - 1, by omega, by go_num, rfl, by omega, by omega, ?_⟩
          exact (unhide HINV).step hlt (((da : Int) + (db : Int) + cy + 10)) _ (by omega) (by rw [dAt_b hda hja (unhide HDA), dAt_b hdb hjb (unhide HDB)]; omega) (by omega) nq
        case measure => simp [intOf]; omega
      · obtain rfl : k = cnt := by omega
        obtain ⟨L, hL, hLd, hrow, hnum⟩ := hinv.fin (by first | exact .inl rfl | exact .inr rfl) (by omega) (num_scaled hda (by rw [← size_len]; omega)) (num_scaled hdb (by rw [← size_len]; omega)) (unhide HP)
        obtain ⟨_, _, _, _, _, _, htw, _⟩ := id hinv
        have HL := hide hL
        have HN := hide hnum
        clear hL hnum hinv
        go_wp2
        go_ret
        exact ⟨w.heap.size + 1 + 1, L, ret_slice (unhide HL).symm, by rw [unhide HL]; omega, by rw [unhide HL]; omega, hLd, hrow, unhide HN, htw.1⟩
  · go_enter Tryz.func93, Tryz.ntmps93
    go_wp2
    go_quiet (fail)
    go_wp2
    obtain ⟨cnt, hcnt⟩ : ∃ cnt : Nat, max ((a.size : Int) + ((n : Int) - (ja : Int))) ((b.size : Int) + ((n : Int) - (jb : Int))) + 1 = (cnt : Int) := ⟨(max ((a.size : Int) + ((n : Int) - (ja : Int))) ((b.size : Int) + ((n : Int) - (jb : Int))) + 1).toNat, by omega⟩
    have hc1 : cnt ≤ 200 := by omega
    have hcA : a.size + (n - ja) + 1 ≤ cnt := by omega
    have hcB : b.size + (n - jb) + 1 ≤ cnt := by omega
    rw [hcnt]
    have mk := fun W => run_make_row' (P := Tryz.prog) 38 5 (.int .u8 0) 1 Tryz.underlying38 (by kernel_rfl) rfl .i64 .i64 cnt (by omega) (by omega) W
    rw [mk]
    have HC := hide hcnt
    clear hcnt mk
    go_wp2
    go_loopw [39, 13, 14, 15] (fun i c _ _ wr => ∃ (k : Nat) (cy : Int), k ≤ cnt ∧ i = .int .i64 k ∧ c = .int .i64 cy ∧ -1 ≤ cy ∧ cy ≤ 1 ∧ AddInv w (.bool na) (.string a) (.int .i64 (ja : Int)) (.bool nb) (.string b) (.int .i64 (jb : Int)) (w.heap.size + 1 + 1) cnt (Dm.num a.data.toList * 10 ^ (n - ja)) (Dm.num b.data.toList * 10 ^ (n - jb)) (-1) k cy wr) (fun i _ _ _ _ => cnt - (intOf i).toNat)
    case atStart =>
      refine ⟨0, 0, Nat.zero_le _, rfl, rfl, by omega, by omega, List.replicate cnt 0, by simp, ?_, ?_, ?_, ?_, ?_, by omega⟩
      · rw [Nat.sub_zero, List.drop_of_length_le (by simp)]; exact Dm.allD_nil
      · rw [Nat.sub_zero, List.drop_of_length_le (by simp)]; simp [Dm.num, Nat.mod_one]
      · have hr := row_made (((w.alloc (.cells #[.bool na, .string a, .int .i64 (ja : Int)] 23)).alloc (.cells #[.bool nb, .string b, .int .i64 (jb : Int)] 23)).drewN nq) cnt
        have hz : (((w.alloc (.cells #[.bool na, .string a, .int .i64 (ja : Int)] 23)).alloc (.cells #[.bool nb, .string b, .int .i64 (jb : Int)] 23)).drewN nq).heap.size = w.heap.size + 1 + 1 := by simp
        rw [hz] at hr
        exact hr
      · intro j hj
        have hr := frozen_made (((w.alloc (.cells #[.bool na, .string a, .int .i64 (ja : Int)] 23)).alloc (.cells #[.bool nb, .string b, .int .i64 (jb : Int)] 23)).drewN nq) (madeCells #[.int .u8 0] cnt) 5 j
        have hz : (((w.alloc (.cells #[.bool na, .string a, .int .i64 (ja : Int)] 23)).alloc (.cells #[.bool nb, .string b, .int .i64 (jb : Int)] 23)).drewN nq).heap.size = w.heap.size + 1 + 1 := by simp
        rw [hz] at hr
        exact hr
      · exact (ht.drewN nq).alloc _
    case round =>
      obtain ⟨k, cy, hk, rfl, rfl, hcy1, hcy2, hinv⟩ := hrel
      by_cases hlt : k < cnt
      · obtain ⟨L, hL, hLd, heq, hrow, hfz, htw, hg⟩ := id hinv
        obtain ⟨tb, tl, ⟨d0, d1, d2⟩, ⟨e0, e1, e2⟩⟩ := id htw
        obtain ⟨da, hda1, hda2⟩ : ∃ da : Nat, Dm.dAt a.data.toList ((k : Int) - ((n : Int) - (ja : Int))) = da ∧ (da : Int) ≤ 9 := ⟨_, rfl, by have := unhide HA ((k : Int) - ((n : Int) - (ja : Int))); omega⟩
        obtain ⟨db, hdb1, hdb2⟩ : ∃ db : Nat, Dm.dAt b.data.toList ((k : Int) - ((n : Int) - (jb : Int))) = db ∧ (db : Int) ≤ 9 := ⟨_, rfl, by have := unhide HB ((k : Int) - ((n : Int) - (jb : Int))); omega⟩
        have hst : wr.cell? ⟨w.heap.size + 1 + 1, (cnt - 1 - k), none⟩ = some (.int .u8 ((L.getD (cnt - 1 - k) 0).toNat : Int)) := by
          have := hrow (cnt - 1 - k) (by omega)
          rw [Nat.zero_add] at this; exact this
        have hsf : wr.frozen? ⟨w.heap.size + 1 + 1, (cnt - 1 - k), none⟩ = false := hfz _ (by omega)
        have HINV := hide hinv
        have HDA := hide hda1
        have HDB := hide hdb1
        clear heq hL hLd hrow hfz hinv htw hg
        go_wp2_with fail
        go_quiet ((go_at_call 102; exact Calls.quiet_of_same (digitAt_any _ _ _ (by omega) (by omega) (by omega) (by assumption))))
        go_wp2
        go_roundw
        case rel =>
          refine ⟨k + 1, ((da : Int) + -(db : Int) + cy + 10) / 10 - 1, by omega, by go_num, rfl, by omega, by omega, ?_⟩
          exact (unhide HINV).step hlt (((da : Int) + -(db : Int) + cy + 10)) _ (by omega) (by rw [dAt_b hda hja (unhide HDA), dAt_b hdb hjb (unhide HDB)]; omega) (by omega) nq
        case measure => simp [intOf]; omega
      · obtain rfl : k = cnt := by omega
        obtain ⟨L, hL, hLd, hrow, hnum⟩ := hinv.fin (by first | exact .inl rfl | exact .inr rfl) (by omega) (num_scaled hda (by rw [← size_len]; omega)) (num_scaled hdb (by rw [← size_len]; omega)) (unhide HP)
        obtain ⟨_, _, _, _, _, _, htw, _⟩ := id hinv
        have HL := hide hL
        have HN := hide hnum
        clear hL hnum hinv
        go_wp2
        go_ret
        exact ⟨w.heap.size + 1 + 1, L, ret_slice (unhide HL).symm, by rw [unhide HL]; omega, by rw [unhide HL]; omega, hLd, hrow, unhide HN, htw.1⟩
end Go.Proofs.YtmlmplmghlbdmaaGreatDoor
