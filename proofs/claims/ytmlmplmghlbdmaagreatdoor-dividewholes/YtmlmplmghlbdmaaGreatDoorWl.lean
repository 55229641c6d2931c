/- What is proved here: what multiply of package dec does, walked; conditions: both texts are digits, 60 at most. -/
import Derived.Test.YtmlmplmghlbdmaaGreatDoorWk
import Derived.Test.YtmlmplmghlbdmaaGreatDoorM
import Derived.Deep.RegionHeld3
namespace Go.Proofs.YtmlmplmghlbdmaaGreatDoor
open Go.RowKit
set_option linter.unusedVariables false
set_option linter.unusedSimpArgs false

def SumInv (w0 : World) (g cnt X m : Nat) (wr : World) : Prop :=
  ∃ S : List Nat, S.length = cnt ∧ Dm.V S = X ∧ (∀ p, p < cnt → S.getD p 0 ≤ m) ∧ Ints wr g S ∧ (∀ j, j < cnt → wr.frozen? ⟨g, j, none⟩ = false) ∧ Below w0.heap.size w0 wr ∧ w0.heap.size ≤ g ∧ g < wr.heap.size
theorem SumInv.step {w0 : World} {g cnt X m : Nat} {wr : World} (h : SumInv w0 g cnt X m wr) {p d e : Nat} (hp : p < cnt) (hd : d ≤ 9) (he : e ≤ 9) (x : Int) (hx : ∀ S : List Nat, S.length = cnt → Ints wr g S → x = ((S.getD p 0 : Nat) : Int) + (d : Int) * (e : Int)) (Y : Nat) (hY : Y = X + d * e * 10 ^ p) :
    SumInv w0 g cnt Y (m + 81) (wr.setCell ⟨g, p, none⟩ (.int .i64 x)) := by
  obtain ⟨S, h1, h2, h3, h4, h5, h6, h7, h8⟩ := h
  have hx' := hx S h1 h4
  have hxe : x = ((S.getD p 0 + d * e : Nat) : Int) := by rw [hx', Int.natCast_add, Int.natCast_mul]
  refine ⟨S.set p (S.getD p 0 + d * e), by rw [List.length_set]; exact h1, ?_, ?_, ?_, ?_, ?_, h7, ?_⟩
  · rw [Dm.V_set _ _ _ (by omega), h2, hY]
  · intro q hq
    have hde : d * e ≤ 9 * 9 := Nat.mul_le_mul hd he
    by_cases g1 : p = q
    · subst g1
      have := h3 p hp
      have e1 : (S.set p (S.getD p 0 + d * e)).getD p 0 = S.getD p 0 + d * e := by simp [List.getD, List.getElem?_set, show p < S.length by omega]
      rw [e1]; omega
    · have := h3 q hq
      have e1 : (S.set p (S.getD p 0 + d * e)).getD q 0 = S.getD q 0 := by simp [List.getD, List.getElem?_set, g1]
      rw [e1]; omega
  · rw [hxe]
    exact h4.set p _
  · intro j hj
    rw [World.frozen?_setCell]
    exact h5 j hj
  · exact h6.setCell h7 _
  · show g < (wr.setCell _ _).heap.size
    simpa [World.setCell] using h8
theorem SumInv.next {w0 : World} {g cnt X m : Nat} {wr w' : World} (h : SumInv w0 g cnt X m wr) (hb : Below wr.heap.size wr w') : SumInv w0 g cnt X m w' := by
  obtain ⟨S, h1, h2, h3, h4, h5, h6, h7, h8⟩ := h
  refine ⟨S, h1, h2, h3, h4.below hb, ?_, h6.trans (hb.mono (by omega)), h7, Nat.lt_of_lt_of_le h8 hb.size⟩
  intro j hj
  rw [hb.frozen (p := ⟨g, j, none⟩) h8]
  exact h5 j hj
theorem SumInv.drew {w0 : World} {g cnt X m : Nat} {wr : World} (h : SumInv w0 g cnt X m wr) : SumInv w0 g cnt X m wr.drew := h.next (Below.refl _ _).drew
theorem SumInv.drewN {w0 : World} {g cnt X m : Nat} {wr : World} (h : SumInv w0 g cnt X m wr) (n : Nat) : SumInv w0 g cnt X m (wr.drewN n) := h.next (below_drewN (Below.refl _ _) n)
theorem SumInv.more {w0 : World} {g cnt X m m' : Nat} {wr : World} (h : SumInv w0 g cnt X m wr) (hm : m ≤ m') : SumInv w0 g cnt X m' wr := by
  obtain ⟨S, h1, h2, h3, h4, h5, h6, h7, h8⟩ := h
  exact ⟨S, h1, h2, fun p hp => Nat.le_trans (h3 p hp) hm, h4, h5, h6, h7, h8⟩
theorem dAt_0 {l : List UInt8} (h : Dm.allD l) {k d : Nat} (hd : Dm.dAt l (k : Int) = d) : Dm.num l / 10 ^ k % 10 = d := by
  have := Dm.dAt_nat h 0 k
  rw [show ((k : Int) - ((0 : Nat) : Int)) = (k : Int) by omega, hd] at this
  simpa using this.symm
/-- Where the digits have come to: the last k are laid, cy is carried. -/
def DigInv (w0 : World) (g g2 cnt : Nat) (S : List Nat) (k cy : Nat) (wr : World) : Prop :=
  ∃ L : List UInt8, L.length = cnt ∧ Dm.allD (L.drop (cnt - k)) ∧ Dm.V (S.take k) = Dm.num (L.drop (cnt - k)) + cy * 10 ^ k ∧ Row wr g2 0 L ∧ (∀ j, j < cnt → wr.frozen? ⟨g2, j, none⟩ = false) ∧ Ints wr g S ∧ Below w0.heap.size w0 wr ∧ w0.heap.size ≤ g ∧ g < g2
theorem DigInv.step {w0 : World} {g g2 cnt : Nat} {S : List Nat} {k cy : Nat} {wr : World} (h : DigInv w0 g g2 cnt S k cy wr) (hk : k < cnt) {t : Nat} (v : Int) (hS : k < S.length) (ht : t = S.getD k 0 + cy) (hv : v = 48 + ((t % 10 : Nat) : Int)) :
    DigInv w0 g g2 cnt S (k + 1) (t / 10) (wr.setCell ⟨g2, cnt - 1 - k, none⟩ (.int .u8 v)) := by
  obtain ⟨L, hL, hLd, heq, hrow, hfz, hI, hB, hg1, hg2⟩ := h
  have hc : (UInt8.ofNat v.toNat).toNat = v.toNat := UInt8.toNat_ofNat_of_lt' (by show v.toNat < 256; omega)
  have hcv : (((UInt8.ofNat v.toNat).toNat : Nat) : Int) = v := by omega
  have hdv : Dm.dv (UInt8.ofNat v.toNat) = t % 10 := by unfold Dm.dv; omega
  have hdD : Dm.isD (UInt8.ofNat v.toNat) = true := Dm.isD_iff.2 (by omega)
  have e1 : cnt - (k + 1) = cnt - 1 - k := by omega
  have e2 : cnt - 1 - k + 1 = cnt - k := by omega
  have hdrop := Dm.drop_set_len (l := L) (j := cnt - 1 - k) (by omega) (UInt8.ofNat v.toNat)
  rw [e2] at hdrop
  refine ⟨L.set (cnt - 1 - k) (UInt8.ofNat v.toNat), by rw [List.length_set]; exact hL, ?_, ?_, ?_, ?_, ?_, hB.setCell (by show w0.heap.size ≤ g2; omega) _, hg1, hg2⟩
  · rw [e1, hdrop]
    exact Dm.allD_cons.2 ⟨hdD, hLd⟩
  · rw [e1, hdrop, Dm.num_cons, hdv, Dm.V_take_succ S k hS]
    have hlen : (L.drop (cnt - k)).length = k := by rw [List.length_drop]; omega
    rw [hlen]
    exact Dm.step_mul heq ht
  · have := hrow.set (cnt - 1 - k) (UInt8.ofNat v.toNat)
    rw [hcv] at this
    exact this
  · intro j hj
    rw [World.frozen?_setCell]
    exact hfz j hj
  · intro p hp
    rw [World.cell?_setCell_other (w := wr) (a := ⟨g2, cnt - 1 - k, none⟩) (b := ⟨g, p, none⟩) (h := by intro q; injection q with q1; omega)]
    exact hI p hp

set_option maxRecDepth 100000 in
set_option maxHeartbeats 1000000 in
theorem multiply_any (a b : ByteArray) (w : World) (ha : a.size ≤ 60) (hb : b.size ≤ 60) (ha1 : 1 ≤ a.size) (hda : Dm.allD a.data.toList) (hdb : Dm.allD b.data.toList) :
    Calls Tryz.prog 75 #[.string a, .string b] w fun e w' => ∃ (g : Nat) (L : List UInt8), e = .returned (.slice (some ⟨g, 0, none⟩) L.length L.length) ∧ 0 < L.length ∧ L.length ≤ 200 ∧ Dm.allD L ∧ Row w' g 0 L ∧ Dm.num L = Dm.num a.data.toList * Dm.num b.data.toList ∧ Below w.heap.size w w' := by
  obtain ⟨cnt, hcnt⟩ : ∃ cnt : Nat, (a.size : Int) + (b.size : Int) = (cnt : Int) := ⟨a.size + b.size, by omega⟩
  have hc1 : cnt ≤ 120 := by omega
  have hcab : a.size + b.size = cnt := by omega
  have mk := fun W => run_make_row' (P := Tryz.prog) 60 3 (.int .i64 0) 8 Tryz.underlying60 (by kernel_rfl) rfl .i64 .i64 cnt (by omega) (by omega) W
  have HCAB := hide hcab
  clear hcab
  have hda9 := Dm.dAt_le hda
  have hdb9 := Dm.dAt_le hdb
  have HA := hide hda9
  have HB := hide hdb9
  clear hda9 hdb9
  go_enter Tryz.func75, Tryz.ntmps75
  go_wp2
  have HCNT := hide hcnt
  clear hcnt mk
  go_loopw [22, 7, 8] (fun i _ _ wr => ∃ k : Nat, k ≤ a.size ∧ i = .int .i64 k ∧ SumInv w w.heap.size cnt (Dm.num a.data.toList % 10 ^ k * Dm.num b.data.toList) (81 * 60 * k) wr) (fun i _ _ _ => a.size - (intOf i).toNat)
  case atStart =>
    refine ⟨0, Nat.zero_le _, rfl, List.replicate cnt 0, by simp, by rw [Dm.V_zero]; simp [Nat.mod_one], ?_, ints_made w cnt 3, ?_, (Below.refl _ _).alloc (Nat.le_refl _) _, Nat.le_refl _, by simp⟩
    · intro p hp; simp [List.getD, hp]
    · intro j hj; exact frozen_made w _ 3 j
  case round =>
    obtain ⟨k, hk, rfl, hinv⟩ := hrel
    obtain ⟨wo, rfl⟩ : ∃ wo : World, wo = wr := ⟨_, rfl⟩
    by_cases hlt : k < a.size
    · have HINV := hide hinv
      clear hinv
      go_wp2
      go_loopw [27, 8] (fun j _ wr => ∃ q : Nat, q ≤ b.size ∧ j = .int .i64 q ∧ SumInv w w.heap.size cnt (Dm.num a.data.toList % 10 ^ k * Dm.num b.data.toList + Dm.num a.data.toList / 10 ^ k % 10 * 10 ^ k * (Dm.num b.data.toList % 10 ^ q)) (81 * 60 * k + 81 * q) wr) (fun j _ _ => b.size - (intOf j).toNat)
      case atStart =>
        refine ⟨0, Nat.zero_le _, rfl, ?_⟩
        simpa [Nat.mod_one] using unhide HINV
      case round =>
        obtain ⟨q, hq, rfl, hinv⟩ := hrel
        by_cases hlt2 : q < b.size
        · obtain ⟨S, h1, h2, h3, h4, h5, h6, h7, h8⟩ := id hinv
          obtain ⟨da, hda1, hda2⟩ : ∃ da : Nat, Dm.dAt a.data.toList (k : Int) = da ∧ (da : Int) ≤ 9 := ⟨_, rfl, by have := unhide HA (k : Int); omega⟩
          obtain ⟨db, hdb1, hdb2⟩ : ∃ db : Nat, Dm.dAt b.data.toList (q : Int) = db ∧ (db : Int) ≤ 9 := ⟨_, rfl, by have := unhide HB (q : Int); omega⟩
          have hpc : (k : Int) + (q : Int) < (cnt : Int) := by have := unhide HCAB; omega
          obtain ⟨s, hs1, hs2⟩ : ∃ s : Nat, wr.cell? ⟨w.heap.size, k + q, none⟩ = some (.int .i64 (s : Int)) ∧ (s : Int) ≤ 1000000 := ⟨_, h4 (k + q) (by omega), by have := h3 (k + q) (by omega); omega⟩
          have hsf : wr.frozen? ⟨w.heap.size, k + q, none⟩ = false := h5 (k + q) (by omega)
          have hpr : (da : Int) * (db : Int) ≤ 81 := by
            have : da * db ≤ 9 * 9 := Nat.mul_le_mul (by omega) (by omega)
            have e : ((da * db : Nat) : Int) = (da : Int) * (db : Int) := Int.natCast_mul da db
            omega
          have hpr0 : (0 : Int) ≤ (da : Int) * (db : Int) := Int.mul_nonneg (by omega) (by omega)
          have hw0 : IntKind.i64.wrap ((k : Int) + (q : Int)) = (k : Int) + (q : Int) := wrap_id (by omega) (by omega)
          have htn : ((k : Int) + (q : Int)).toNat = k + q := by omega
          have hp0 : (0 : Int) ≤ (k : Int) + (q : Int) := by omega
          have hw1 : IntKind.i64.wrap ((da : Int) * (db : Int)) = (da : Int) * (db : Int) := wrap_id (by omega) (by omega)
          have hw2 : IntKind.i64.wrap ((s : Int) + (da : Int) * (db : Int)) = (s : Int) + (da : Int) * (db : Int) := wrap_id (by omega) (by omega)
          have HI := hide hinv
          have HDA := hide hda1
          have HDB := hide hdb1
          clear hinv h1 h2 h3 h4 h5 h6 h7 h8
          go_wp2_with fail
          go_region_with (go_at_call 102; refine (digitAt_any _ _ _ (by omega) (by omega) (by omega) (by assumption)).mono ?_; rintro e w' ⟨rfl, rfl⟩)
          all_goals go_wp2
          all_goals
            go_roundw
            case rel =>
              refine ⟨q + 1, by omega, by go_num, ?_⟩
              have hst := (unhide HI).step (p := k + q) (by omega) (d := da) (e := db) (by omega) (by omega) ((s : Int) + (da : Int) * (db : Int)) (by
                intro S hS hI
                have := hI (k + q) (by omega)
                rw [hs1] at this
                injection this with this
                injection this with _ this
                rw [this]) (Dm.num a.data.toList % 10 ^ k * Dm.num b.data.toList + Dm.num a.data.toList / 10 ^ k % 10 * 10 ^ k * (Dm.num b.data.toList % 10 ^ (q + 1))) (by
                rw [← Dm.mul_inner (j := q), dAt_0 hda (unhide HDA), dAt_0 hdb (unhide HDB)])
              have hst2 := hst.more (m' := 81 * 60 * k + 81 * (q + 1)) (by omega)
              exact hst2.drew
            case measure => simp [intOf]; omega
        · obtain rfl : q = b.size := by omega
          have HI := hide hinv
          clear hinv
          go_wp2
          go_roundw
          case rel =>
            refine ⟨k + 1, by omega, by go_num, ?_⟩
            have h := unhide HI
            rw [Nat.mod_eq_of_lt (show Dm.num b.data.toList < 10 ^ b.size by rw [size_len]; exact Dm.num_lt hdb), Dm.mul_outer (Eq.refl _)] at h
            exact h.more (by omega)
          case measure => simp [intOf]; omega
    · obtain rfl : k = a.size := by omega
      rw [Nat.mod_eq_of_lt (show Dm.num a.data.toList < 10 ^ a.size by rw [size_len]; exact Dm.num_lt hda)] at hinv
      obtain ⟨S, h1, h2, h3, h4, h5, h6, h7, h8⟩ := hinv
      have mk2 := run_make_row' (P := Tryz.prog) 38 5 (.int .u8 0) 1 Tryz.underlying38 (by kernel_rfl) rfl .i64 .i64 cnt (by omega) (by omega) wo
      have HS := hide h1
      have HV := hide h2
      clear h1 h2 h5
      go_wp2
      go_loopw [50, 10, 11, 12] (fun i c _ _ wr => ∃ k cy : Nat, k ≤ cnt ∧ i = .int .i64 k ∧ c = .int .i64 (cy : Int) ∧ (cy : Int) ≤ 1000000 ∧ DigInv w w.heap.size wo.heap.size cnt S k cy wr) (fun i _ _ _ _ => cnt - (intOf i).toNat)
      case atStart =>
        refine ⟨0, 0, Nat.zero_le _, rfl, rfl, by omega, List.replicate cnt 0, by simp, ?_, ?_, row_made wo cnt, ?_, ?_, h6.alloc (by omega) _, h7, h8⟩
        · rw [Nat.sub_zero, List.drop_of_length_le (by simp)]; exact Dm.allD_nil
        · rw [Nat.sub_zero, List.drop_of_length_le (by simp)]; rfl
        · intro j hj; exact frozen_made wo _ 5 j
        · exact h4.below ((Below.refl _ _).alloc (Nat.le_refl _) _)
      case round =>
        obtain ⟨k, cy, hk, rfl, rfl, hcy, hinv⟩ := hrel
        by_cases hlt3 : k < cnt
        · obtain ⟨L, i1, i2, i3, i4, i5, i6, i7, i8, i9⟩ := id hinv
          obtain ⟨s, hs1, hs2⟩ : ∃ s : Nat, wr.cell? ⟨w.heap.size, k, none⟩ = some (.int .i64 (s : Int)) ∧ (s : Int) ≤ 1000000 := ⟨_, i6 k (by have := unhide HS; omega), by have := h3 k (by omega); omega⟩
          have hst : wr.cell? ⟨wo.heap.size, cnt - 1 - k, none⟩ = some (.int .u8 ((L.getD (cnt - 1 - k) 0).toNat : Int)) := by
            have := i4 (cnt - 1 - k) (by omega)
            rw [Nat.zero_add] at this; exact this
          have hsf : wr.frozen? ⟨wo.heap.size, cnt - 1 - k, none⟩ = false := i5 _ (by omega)
          have HI := hide hinv
          have HS1 := hide hs1
          clear hinv i1 i2 i3 i4 i5 i6 i7 i8 i9
          go_wp2
          go_roundw
          case rel =>
            refine ⟨k + 1, (s + cy) / 10, by omega, by go_num, by go_num, by omega, ?_⟩
            exact (unhide HI).step hlt3 (t := s + cy) _ (by rw [unhide HS]; omega) (by
              obtain ⟨_, _, _, _, _, _, hI6, _⟩ := unhide HI
              have := hI6 k (by rw [unhide HS]; exact hlt3)
              rw [unhide HS1] at this
              injection this with this
              injection this with _ this
              omega) (by omega)
          case measure => simp [intOf]; omega
        · obtain rfl : k = cnt := by omega
          obtain ⟨L, i1, i2, i3, i4, i5, i6, i7, i8, i9⟩ := hinv
          rw [Nat.sub_self, List.drop_zero] at i2 i3
          rw [List.take_of_length_le (by rw [unhide HS]; omega), unhide HV] at i3
          have hlt := Dm.num_lt i2
          rw [i1] at hlt
          have hab : Dm.num a.data.toList * Dm.num b.data.toList < 10 ^ k := by
            have h1 := Dm.num_lt hda
            have h2 := Dm.num_lt hdb
            have h3 : Dm.num a.data.toList * Dm.num b.data.toList < 10 ^ a.data.toList.length * 10 ^ b.data.toList.length := Nat.mul_lt_mul'' h1 h2
            rw [← Nat.pow_add, ← size_len, ← size_len, unhide HCAB] at h3
            exact h3
          have hfin : Dm.num L = Dm.num a.data.toList * Dm.num b.data.toList := by
            cases cy with
            | zero => rw [i3]; omega
            | succ c =>
              exfalso
              rw [Nat.add_mul] at i3
              omega
          have HL := hide i1
          have HF := hide hfin
          clear i1 i3 hfin hlt hab
          go_wp2
          go_ret
          exact ⟨wo.heap.size, L, ret_slice (unhide HL).symm, by rw [unhide HL]; have := unhide HCAB; omega, by rw [unhide HL]; omega, i2, i4, unhide HF, i7⟩
end Go.Proofs.YtmlmplmghlbdmaaGreatDoor
