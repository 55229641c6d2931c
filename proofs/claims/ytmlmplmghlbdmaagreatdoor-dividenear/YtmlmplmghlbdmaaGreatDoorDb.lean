/- What is proved here: what takeOff of package divide does, walked; conditions: both rows have as many digits, and the first is not less. -/
import Derived.Test.YtmlmplmghlbdmaaGreatDoorDa
import Derived.Test.YtmlmplmghlbdmaaGreatDoorUe
import Derived.Deep.CutRange
namespace Go.Proofs.YtmlmplmghlbdmaaGreatDoor
open Go.RowKit
set_option linter.unusedVariables false
set_option linter.unusedSimpArgs false

theorem Row.keep {w w' : World} {b o B : Nat} {l : List UInt8} (h : Row w b o l) (hb : b < B) (hB : Below B w w') : Row w' b o l :=
  fun i hi => by rw [hB.cell (p := ⟨b, o + i, none⟩) hb]; exact h i hi
theorem Row.get {w : World} {b : Nat} {l : List UInt8} (h : Row w b 0 l) {i : Nat} (hi : i < l.length) : w.cell? ⟨b, i, none⟩ = some (.int .u8 ((l[i]'hi).toNat : Int)) := by
  have := h i hi
  rw [Nat.zero_add] at this
  rw [this]
  simp [List.getD, List.getElem?_eq_getElem hi]
theorem set_mid (R L : List UInt8) (m : Nat) (c : UInt8) (h : m < R.length) : (R.take (m + 1) ++ L).set m c = R.take m ++ c :: L := by
  have hl : (R.take m).length = m := by rw [List.length_take]; omega
  rw [List.take_succ_eq_append_getElem h, List.append_assoc, List.set_append_right _ _ (by omega), hl, Nat.sub_self]
  rfl
theorem get_mid (R L : List UInt8) (m : Nat) (h : m < R.length) : (R.take (m + 1) ++ L)[m]'(by rw [List.length_append, List.length_take]; omega) = R[m] := by
  rw [List.getElem_append_left (by rw [List.length_take]; omega), List.getElem_take]
/-- What takeOff has come to. -/
def TakeInv (w : World) (b : Nat) (R D : List UInt8) (n : Nat) (L : List UInt8) (k j bo : Nat) (wr : World) : Prop :=
  MinusInv ⟨R.toArray⟩ ⟨D.toArray⟩ L n k j bo ∧ Row wr b 0 (R.take j ++ L) ∧ (∀ i, i < n → wr.frozen? ⟨b, i, none⟩ = false) ∧ Below b w wr
theorem TakeInv.next {w wr : World} {b n k m bo : Nat} {R D L : List UInt8} (h : TakeInv w b R D n L k (m + 1) bo wr) (hR : R.length = n) (hD : D.length = n) (dR : Dm.allD R) (dD : Dm.allD D) (hm : m < n) (c1 c : UInt8) (off b2 : Nat) (v1 v : Int)
    (hoff : (off : Int) = ((D[m]'(by omega)).toNat : Int) - 48 + (bo : Int)) (hb2 : b2 ≤ 1) (hv1 : v1 = (c1.toNat : Int)) (hv : v = (c.toNat : Int)) (hc : (c.toNat : Int) = ((R[m]'(by omega)).toNat : Int) + 10 * (b2 : Int) - (off : Int)) (ht : 48 ≤ c.toNat ∧ c.toNat ≤ 57) :
    TakeInv w b R D n (c :: L) (k + 1) m b2 (wr.setCell ⟨b, m, none⟩ (.int .u8 v)) ∧ TakeInv w b R D n (c :: L) (k + 1) m b2 ((wr.setCell ⟨b, m, none⟩ (.int .u8 v1)).setCell ⟨b, m, none⟩ (.int .u8 v)) := by
  obtain ⟨h1, h2, h3, h4⟩ := h
  subst hv hv1
  have e0 := h1.next (t := c.toNat - 48) (b2 := b2) (c := c) (by rw [mk_size]; exact hR) (by rw [mk_size]; exact hD) dR dD (by rw [mk_size]; omega) (by rw [mk_size]; omega)
    (by
      have q1 : (⟨R.toArray⟩ : ByteArray)[m]'(by rw [mk_size]; omega) = R[m]'(by omega) := rfl
      have q2 : (⟨D.toArray⟩ : ByteArray)[m]'(by rw [mk_size]; omega) = D[m]'(by omega) := rfl
      rw [q1, q2]; omega) (by omega) hb2 (by omega)
  refine ⟨⟨e0, ?_, fun i hi => by rw [World.frozen?_setCell]; exact h3 i hi, h4.setCell (Nat.le_refl _) _⟩, ⟨e0, ?_, fun i hi => by rw [World.frozen?_setCell, World.frozen?_setCell]; exact h3 i hi, (h4.setCell (p := ⟨b, m, none⟩) (Nat.le_refl _) _).setCell (p := ⟨b, m, none⟩) (Nat.le_refl _) _⟩⟩
  · have := h2.set m c
    rw [set_mid R L m c (by omega)] at this; exact this
  · have := (h2.set m c1).set m c
    rw [List.set_set, set_mid R L m c (by omega)] at this; exact this

set_option maxRecDepth 100000 in
set_option maxHeartbeats 2000000 in
theorem takeOff_any (b c n k1 k2 : Nat) (R D : List UInt8) (w : World) (hR : R.length = n) (hD : D.length = n) (hn : n ≤ 1000) (dR : Dm.allD R) (dD : Dm.allD D) (hr : Row w b 0 R) (hd : Row w c 0 D) (hcb : c < b) (hfz : ∀ i, i < n → w.frozen? ⟨b, i, none⟩ = false) (hle : Dm.num D ≤ Dm.num R) :
    Calls Tryz.prog 58 #[.slice (some ⟨b, 0, none⟩) n k1, .slice (some ⟨c, 0, none⟩) n k2] w fun e w' => e = .returned (.tuple #[]) ∧ ∃ L : List UInt8, L.length = n ∧ Dm.allD L ∧ Dm.num L + Dm.num D = Dm.num R ∧ Row w' b 0 L ∧ (∀ i, i < n → w'.frozen? ⟨b, i, none⟩ = false) ∧ Below b w w' := by
  have hI0 : TakeInv w b R D n [] 0 n 0 w := ⟨MinusInv.start _ _ (by rw [mk_size]; exact hR) (by rw [mk_size]; exact hD), by rw [List.append_nil, List.take_of_length_le (by omega)]; exact hr, hfz, Below.refl _ _⟩
  have HR := hide hR
  have HD := hide hD
  have HRR := hide hr
  have HDD := hide hd
  clear hR hD hr hfz hd
  go_enter Tryz.func58, Tryz.ntmps58
  go_wp2
  go_loopw [5, 4, 6] (fun i bo _ wr => ∃ (L : List UInt8) (k j bb : Nat), i = .int .i64 ((j : Int) - 1) ∧ bo = .int .u8 (bb : Int) ∧ TakeInv w b R D n L k j bb wr) (fun i _ _ _ => (intOf i + 1).toNat)
  case atStart => exact ⟨[], 0, n, 0, rfl, rfl, hI0⟩
  case round =>
    clear hI0
    obtain ⟨L, k, j, bb, rfl, rfl, hI⟩ := hrel
    have hbb := hI.1.2.2.2.2
    have hj := hI.1.1
    cases j with
    | zero =>
      obtain ⟨f1, f2, f3⟩ := hI.1.fin (by rw [mk_size]; exact unhide HR) dR hle
      have hrow := hI.2.1
      rw [List.take_zero, List.nil_append] at hrow
      obtain ⟨_, _, g3, g4⟩ := hI
      have F2 := hide f2
      have F3 := hide f3
      clear f2 f3
      go_wp2
      refine bodyPost_end (v := .tuple #[]) (by simp [results, Tryz.results58, go_sem]) rfl ⟨rfl, L, unhide F2, f1, unhide F3, hrow, g3, g4⟩
    | succ m =>
      have e1 : (((m + 1 : Nat) : Int) - 1) = (m : Int) := by omega
      rw [e1]
      clear e1
      have hmn : m < n := by omega
      have hmR : m < R.length := by rw [unhide HR]; omega
      have hmD : m < D.length := by rw [unhide HD]; omega
      have b1 := Dm.isD_iff.1 (dR _ (List.getElem_mem hmR))
      have b2 := Dm.isD_iff.1 (dD _ (List.getElem_mem hmD))
      have cR : wr.cell? ⟨b, m, none⟩ = some (.int .u8 ((R[m]).toNat : Int)) := by
        have := hI.2.1.get (i := m) (by rw [List.length_append, List.length_take]; omega)
        rw [this, get_mid R L m hmR]
      have cD : wr.cell? ⟨c, m, none⟩ = some (.int .u8 ((D[m]).toNat : Int)) := ((unhide HDD).keep hcb hI.2.2.2).get hmD
      have cF : wr.frozen? ⟨b, m, none⟩ = false := hI.2.2.1 m hmn
      have hnx := fun c1 c off b2 v1 v => hI.next (unhide HR) (unhide HD) dR dD hmn c1 c off b2 v1 v
      have HNX := hide hnx
      clear hnx hI
      obtain ⟨r, hrv⟩ : ∃ r : Nat, (R[m]).toNat = r := ⟨_, rfl⟩
      obtain ⟨d, hdv⟩ : ∃ d : Nat, (D[m]).toNat = d := ⟨_, rfl⟩
      rw [hrv] at b1 cR
      rw [hdv] at b2 cD
      have HRV := hide hrv
      have HDV := hide hdv
      clear hrv hdv
      obtain ⟨r48, r57⟩ : (48 : Int) ≤ (r : Int) ∧ (r : Int) ≤ 57 := by omega
      obtain ⟨d48, d57⟩ : (48 : Int) ≤ (d : Int) ∧ (d : Int) ≤ 57 := by omega
      have hbbI : (bb : Int) ≤ 1 := by omega
      clear b1 b2
      by_cases hlt : (r : Int) - 48 < (d : Int) - 48 + (bb : Int)
      · obtain ⟨c1, hc1⟩ : ∃ c : UInt8, c.toNat = r + 10 := ⟨_, byte_of (by omega)⟩
        obtain ⟨cc, hcc⟩ : ∃ c : UInt8, c.toNat = r + 10 - (d - 48 + bb) := ⟨_, byte_of (by omega)⟩
        have hfin := (unhide HNX c1 cc (d - 48 + bb) 1 ((r : Int) + 10) ((r : Int) + 10 - ((d : Int) - 48 + (bb : Int))) (by rw [unhide HDV]; omega) (by omega) (by omega) (by omega) (by rw [unhide HRV]; omega) (by omega)).2
        have HF := hide hfin
        clear hfin HNX hc1 hcc
        go_wp2_with fail
        exact ⟨⟨cc :: L, k + 1, m, 1, rfl, rfl, unhide HF⟩, by simp only [intOf]; omega⟩
      · obtain ⟨cc, hcc⟩ : ∃ c : UInt8, c.toNat = r - (d - 48 + bb) := ⟨_, byte_of (by omega)⟩
        have hfin := (unhide HNX cc cc (d - 48 + bb) 0 ((cc.toNat : Int)) ((r : Int) - ((d : Int) - 48 + (bb : Int))) (by rw [unhide HDV]; omega) (by omega) rfl (by omega) (by rw [unhide HRV]; omega) (by omega)).1
        have HF := hide hfin
        clear hfin HNX hcc
        go_wp2_with fail
        exact ⟨⟨cc :: L, k + 1, m, 0, rfl, rfl, unhide HF⟩, by simp only [intOf]; omega⟩
end Go.Proofs.YtmlmplmghlbdmaaGreatDoor
