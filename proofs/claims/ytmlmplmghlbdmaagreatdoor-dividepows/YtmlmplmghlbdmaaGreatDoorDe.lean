/- What is proved here: what bytes.Compare does with two rows of bytes, walked; and the order of rows of digits; conditions: as each theorem states. What is proved here: what takeOff of package divide does, walked; conditions: both rows have as many digits, and the first is not less. What is proved here: what bytes.Repeat does with one nought, walked; conditions: at least two, at most 1000 of them. What is proved here: what longDivide of package divide does, walked; conditions: digits, not too many, and the divisor is not 0. What is proved here: what longDivide of package divide does, walked; conditions: digits, not too many, and the divisor is not 0. -/
import Derived.Test.YtmlmplmghlbdmaaGreatDoorRb
import Derived.Test.YtmlmplmghlbdmaaGreatDoorWa
import Derived.Test.YtmlmplmghlbdmaaGreatDoorMh
import Derived.Test.YtmlmplmghlbdmaaGreatDoorM
import Derived.Lib.BytesEntry
import Derived.Lib.Bytealg
import Derived.Test.YtmlmplmghlbdmaaGreatDoorUe
import Derived.Deep.CutRange
import Derived.Test.YtmlmplmghlbdmaaGreatDoorShelf
import Derived.Lib.MakeNoZero
import Derived.Laws.IdiomCopy
import Derived.RegionTactic
import Derived.Deep.RegionWith
import Derived.Test.YtmlmplmghlbdmaaGreatDoorMn
import Derived.Lib.ConvBytes
import Derived.Deep.LoopGhost
import Derived.Test.YtmlmplmghlbdmaaGreatDoorAp
import Derived.Deep.OwnRows
import Derived.Lib.SmallJoins
namespace Go.Proofs.YtmlmplmghlbdmaaGreatDoor
open Go.RowKit
set_option linter.unusedVariables false
set_option linter.unusedSimpArgs false

theorem ints_bytes (R : List UInt8) : Lib.bytesOf (R.map fun x => (x.toNat : Int)) = R := by
  unfold Lib.bytesOf
  rw [List.map_map]
  have : (fun n => UInt8.ofNat n) ∘ Int.toNat ∘ (fun x : UInt8 => (x.toNat : Int)) = id := by funext x; simp
  conv => rhs; rw [← List.map_id R]
  congr 1
/-- The bytes of a row, as the entry reads them. -/
theorem row_bytes (b o n c : Nat) (R : List UInt8) (w : World) (hn : R.length = n) (hr : Row w b o R) :
    (Extern.Bytes.bytesOf (.slice (some ⟨b, o, none⟩) n c)).run Tryz.prog w = .ok ⟨R.toArray⟩ w := by
  have hl := Lib.run_loadBytesX (P := Tryz.prog) w (R.map fun x => (x.toNat : Int)) ⟨b, o, none⟩ .empty (fun j x hj => by
    have hjl : j < (R.map fun x => (x.toNat : Int)).length := (List.getElem?_eq_some_iff.1 hj).1
    rw [List.length_map] at hjl
    have e : (⟨b, o, none⟩ : Addr).add j = ⟨b, o + j, none⟩ := by unfold Addr.add; split <;> simp_all
    rw [e, hr j hjl]
    rw [List.getElem?_map, List.getElem?_eq_getElem hjl] at hj
    simp only [Option.map_some, Option.some.injEq] at hj
    rw [← hj]
    simp [List.getD, List.getElem?_eq_getElem hjl])
  rw [List.length_map, hn, ints_bytes] at hl
  have he : (⟨ByteArray.empty.data ++ R.toArray⟩ : ByteArray) = ⟨R.toArray⟩ := by
    apply ByteArray.ext
    show (#[] : Array UInt8) ++ R.toArray = R.toArray
    simp
  rw [he] at hl
  simp only [Extern.Bytes.bytesOf]
  exact hl
theorem run_compareRows (b o n c b2 o2 n2 c2 : Nat) (R D : List UInt8) (w : World) (hn : R.length = n) (hn2 : D.length = n2) (hr : Row w b o R) (hd : Row w b2 o2 D) :
    (Extern.BytealgCompare.compare #[.slice (some ⟨b, o, none⟩) n c, .slice (some ⟨b2, o2, none⟩) n2 c2]).run Tryz.prog w = .ok (.int .i64 (Lib.compareBytes R D)) w := by
  change Sem.run Tryz.prog (do pure (goInt (Extern.BytealgCompare.cmp (← Extern.Bytes.bytesOf (.slice (some ⟨b, o, none⟩) n c)) (← Extern.Bytes.bytesOf (.slice (some ⟨b2, o2, none⟩) n2 c2))))) w = _
  simp only [Sem.run_bind, Sem.run_pure, row_bytes b o n c R w hn hr, row_bytes b2 o2 n2 c2 D w hn2 hd, Result.andThen]
  rw [Lib.cmp_eq]
  rfl
set_option maxRecDepth 100000 in
set_option maxHeartbeats 1000000 in
theorem bcompare_any (b o n c b2 o2 n2 c2 : Nat) (R D : List UInt8) (w : World) (hn : R.length = n) (hn2 : D.length = n2) (hr : Row w b o R) (hd : Row w b2 o2 D) :
    Calls Tryz.prog 57 #[.slice (some ⟨b, o, none⟩) n c, .slice (some ⟨b2, o2, none⟩) n2 c2] w fun e w' => e = .returned (.int .i64 (Lib.compareBytes R D)) ∧ w' = w := by
  have hrun := run_compareRows b o n c b2 o2 n2 c2 R D w hn hn2 hr hd
  have HR := hide hr
  have HD := hide hd
  have HRUN := hide hrun
  clear hr hd hrun
  go_enter Tryz.func57, Tryz.ntmps57
  go_wp2_with fail
  rw [run_callFunc_extern Tryz.func78 (by kernel_rfl) (by kernel_rfl) (by kernel_rfl) (e := Extern.BytealgCompare.compare) (by kernel_rfl), unhide HRUN]
  simp only [Result.andThen]
  rw [Oper.upon_value]
  go_wp2
  go_ret
  exact ⟨rfl, rfl⟩
end Go.Proofs.YtmlmplmghlbdmaaGreatDoor

namespace Go.Proofs.YtmlmplmghlbdmaaGreatDoor
open Go.RowKit
set_option linter.unusedVariables false
set_option linter.unusedSimpArgs false

theorem Row.keep {w w' : World} {b o B : Nat} {l : List UInt8} (h : Row w b o l) (hb : b < B) (hB : Below B w w') : Row w' b o l :=
  fun i hi => by rw [hB.cell (p := ⟨b, o + i, none⟩) hb]; exact h i hi
theorem Row.get {w : World} {b : Nat} {l : List UInt8} (h : Row w b 0 l) {i : Nat} (hi : i < l.length) : w.cell? ⟨b, i, none⟩ = some (.int .u8 ((l[i]'hi).toNat : Int)) := by
  have := h i hi
  rw [Nat.zero_add] at this
  rw [this]
  simp [List.getD, List.getElem?_eq_getElem hi]
theorem set_mid (R L : List UInt8) (m : Nat) (c : UInt8) (h : m < R.length) : (R.take (m + 1) ++ L).set m c = R.take m ++ c :: L := by
  have hl : (R.take m).length = m := by rw [List.length_take]; omega
  rw [List.take_succ_eq_append_getElem h, List.append_assoc, List.set_append_right _ _ (by omega), hl, Nat.sub_self]
  rfl
theorem get_mid (R L : List UInt8) (m : Nat) (h : m < R.length) : (R.take (m + 1) ++ L)[m]'(by rw [List.length_append, List.length_take]; omega) = R[m] := by
  rw [List.getElem_append_left (by rw [List.length_take]; omega), List.getElem_take]
/-- What takeOff has come to. -/
def TakeInv (w : World) (b : Nat) (R D : List UInt8) (n : Nat) (L : List UInt8) (k j bo : Nat) (wr : World) : Prop :=
  MinusInv ⟨R.toArray⟩ ⟨D.toArray⟩ L n k j bo ∧ Row wr b 0 (R.take j ++ L) ∧ (∀ i, i < n → wr.frozen? ⟨b, i, none⟩ = false) ∧ Below b w wr
theorem TakeInv.next {w wr : World} {b n k m bo : Nat} {R D L : List UInt8} (h : TakeInv w b R D n L k (m + 1) bo wr) (hR : R.length = n) (hD : D.length = n) (dR : Dm.allD R) (dD : Dm.allD D) (hm : m < n) (c1 c : UInt8) (off b2 : Nat) (v1 v : Int)
    (hoff : (off : Int) = ((D[m]'(by omega)).toNat : Int) - 48 + (bo : Int)) (hb2 : b2 ≤ 1) (hv1 : v1 = (c1.toNat : Int)) (hv : v = (c.toNat : Int)) (hc : (c.toNat : Int) = ((R[m]'(by omega)).toNat : Int) + 10 * (b2 : Int) - (off : Int)) (ht : 48 ≤ c.toNat ∧ c.toNat ≤ 57) :
    TakeInv w b R D n (c :: L) (k + 1) m b2 (wr.setCell ⟨b, m, none⟩ (.int .u8 v)) ∧ TakeInv w b R D n (c :: L) (k + 1) m b2 ((wr.setCell ⟨b, m, none⟩ (.int .u8 v1)).setCell ⟨b, m, none⟩ (.int .u8 v)) := by
  obtain ⟨h1, h2, h3, h4⟩ := h
  subst hv hv1
  have e0 := h1.next (t := c.toNat - 48) (b2 := b2) (c := c) (by rw [mk_size]; exact hR) (by rw [mk_size]; exact hD) dR dD (by rw [mk_size]; omega) (by rw [mk_size]; omega)
    (by
      have q1 : (⟨R.toArray⟩ : ByteArray)[m]'(by rw [mk_size]; omega) = R[m]'(by omega) := rfl
      have q2 : (⟨D.toArray⟩ : ByteArray)[m]'(by rw [mk_size]; omega) = D[m]'(by omega) := rfl
      rw [q1, q2]; omega) (by omega) hb2 (by omega)
  refine ⟨⟨e0, ?_, fun i hi => by rw [World.frozen?_setCell]; exact h3 i hi, h4.setCell (Nat.le_refl _) _⟩, ⟨e0, ?_, fun i hi => by rw [World.frozen?_setCell, World.frozen?_setCell]; exact h3 i hi, (h4.setCell (p := ⟨b, m, none⟩) (Nat.le_refl _) _).setCell (p := ⟨b, m, none⟩) (Nat.le_refl _) _⟩⟩
  · have := h2.set m c
    rw [set_mid R L m c (by omega)] at this; exact this
  · have := (h2.set m c1).set m c
    rw [List.set_set, set_mid R L m c (by omega)] at this; exact this

set_option maxRecDepth 100000 in
set_option maxHeartbeats 2000000 in
theorem takeOff_any (b c n k1 k2 : Nat) (R D : List UInt8) (w : World) (hR : R.length = n) (hD : D.length = n) (hn : n ≤ 1000) (dR : Dm.allD R) (dD : Dm.allD D) (hr : Row w b 0 R) (hd : Row w c 0 D) (hcb : c < b) (hfz : ∀ i, i < n → w.frozen? ⟨b, i, none⟩ = false) (hle : Dm.num D ≤ Dm.num R) :
    Calls Tryz.prog 58 #[.slice (some ⟨b, 0, none⟩) n k1, .slice (some ⟨c, 0, none⟩) n k2] w fun e w' => e = .returned (.tuple #[]) ∧ ∃ L : List UInt8, L.length = n ∧ Dm.allD L ∧ Dm.num L + Dm.num D = Dm.num R ∧ Row w' b 0 L ∧ (∀ i, i < n → w'.frozen? ⟨b, i, none⟩ = false) ∧ Below b w w' := by
  have hI0 : TakeInv w b R D n [] 0 n 0 w := ⟨MinusInv.start _ _ (by rw [mk_size]; exact hR) (by rw [mk_size]; exact hD), by rw [List.append_nil, List.take_of_length_le (by omega)]; exact hr, hfz, Below.refl _ _⟩
  have HR := hide hR
  have HD := hide hD
  have HRR := hide hr
  have HDD := hide hd
  clear hR hD hr hfz hd
  go_enter Tryz.func58, Tryz.ntmps58
  go_wp2
  go_loopw [5, 4, 6] (fun i bo _ wr => ∃ (L : List UInt8) (k j bb : Nat), i = .int .i64 ((j : Int) - 1) ∧ bo = .int .u8 (bb : Int) ∧ TakeInv w b R D n L k j bb wr) (fun i _ _ _ => (intOf i + 1).toNat)
  case atStart => exact ⟨[], 0, n, 0, rfl, rfl, hI0⟩
  case round =>
    clear hI0
    obtain ⟨L, k, j, bb, rfl, rfl, hI⟩ := hrel
    have hbb := hI.1.2.2.2.2
    have hj := hI.1.1
    cases j with
    | zero =>
      obtain ⟨f1, f2, f3⟩ := hI.1.fin (by rw [mk_size]; exact unhide HR) dR hle
      have hrow := hI.2.1
      rw [List.take_zero, List.nil_append] at hrow
      obtain ⟨_, _, g3, g4⟩ := hI
      have F2 := hide f2
      have F3 := hide f3
      clear f2 f3
      go_wp2
      refine bodyPost_end (v := .tuple #[]) (by simp [results, Tryz.results58, go_sem]) rfl ⟨rfl, L, unhide F2, f1, unhide F3, hrow, g3, g4⟩
    | succ m =>
      have e1 : (((m + 1 : Nat) : Int) - 1) = (m : Int) := by omega
      rw [e1]
      clear e1
      have hmn : m < n := by omega
      have hmR : m < R.length := by rw [unhide HR]; omega
      have hmD : m < D.length := by rw [unhide HD]; omega
      have b1 := Dm.isD_iff.1 (dR _ (List.getElem_mem hmR))
      have b2 := Dm.isD_iff.1 (dD _ (List.getElem_mem hmD))
      have cR : wr.cell? ⟨b, m, none⟩ = some (.int .u8 ((R[m]).toNat : Int)) := by
        have := hI.2.1.get (i := m) (by rw [List.length_append, List.length_take]; omega)
        rw [this, get_mid R L m hmR]
      have cD : wr.cell? ⟨c, m, none⟩ = some (.int .u8 ((D[m]).toNat : Int)) := ((unhide HDD).keep hcb hI.2.2.2).get hmD
      have cF : wr.frozen? ⟨b, m, none⟩ = false := hI.2.2.1 m hmn
      have hnx := fun c1 c off b2 v1 v => hI.next (unhide HR) (unhide HD) dR dD hmn c1 c off b2 v1 v
      have HNX := hide hnx
      clear hnx hI
      obtain ⟨r, hrv⟩ : ∃ r : Nat, (R[m]).toNat = r := ⟨_, rfl⟩
      obtain ⟨d, hdv⟩ : ∃ d : Nat, (D[m]).toNat = d := ⟨_, rfl⟩
      rw [hrv] at b1 cR
      rw [hdv] at b2 cD
      have HRV := hide hrv
      have HDV := hide hdv
      clear hrv hdv
      obtain ⟨r48, r57⟩ : (48 : Int) ≤ (r : Int) ∧ (r : Int) ≤ 57 := by omega
      obtain ⟨d48, d57⟩ : (48 : Int) ≤ (d : Int) ∧ (d : Int) ≤ 57 := by omega
      have hbbI : (bb : Int) ≤ 1 := by omega
      clear b1 b2
      by_cases hlt : (r : Int) - 48 < (d : Int) - 48 + (bb : Int)
      · obtain ⟨c1, hc1⟩ : ∃ c : UInt8, c.toNat = r + 10 := ⟨_, byte_of (by omega)⟩
        obtain ⟨cc, hcc⟩ : ∃ c : UInt8, c.toNat = r + 10 - (d - 48 + bb) := ⟨_, byte_of (by omega)⟩
        have hfin := (unhide HNX c1 cc (d - 48 + bb) 1 ((r : Int) + 10) ((r : Int) + 10 - ((d : Int) - 48 + (bb : Int))) (by rw [unhide HDV]; omega) (by omega) (by omega) (by omega) (by rw [unhide HRV]; omega) (by omega)).2
        have HF := hide hfin
        clear hfin HNX hc1 hcc
        go_wp2_with fail
        exact ⟨⟨cc :: L, k + 1, m, 1, rfl, rfl, unhide HF⟩, by simp only [intOf]; omega⟩
      · obtain ⟨cc, hcc⟩ : ∃ c : UInt8, c.toNat = r - (d - 48 + bb) := ⟨_, byte_of (by omega)⟩
        have hfin := (unhide HNX cc cc (d - 48 + bb) 0 ((cc.toNat : Int)) ((r : Int) - ((d : Int) - 48 + (bb : Int))) (by rw [unhide HDV]; omega) (by omega) rfl (by omega) (by rw [unhide HRV]; omega) (by omega)).1
        have HF := hide hfin
        clear hfin HNX hcc
        go_wp2_with fail
        exact ⟨⟨cc :: L, k + 1, m, 0, rfl, rfl, unhide HF⟩, by simp only [intOf]; omega⟩
end Go.Proofs.YtmlmplmghlbdmaaGreatDoor

namespace Go.Proofs.YtmlmplmghlbdmaaGreatDoor
open Go.RowKit
set_option linter.unusedVariables false
set_option linter.unusedSimpArgs false

theorem bmul_1 (n : Nat) (w : World) (hn : n ≤ 1000) : Calls Tryz.prog 59 #[.int .u64 1, .int .u64 (n : Int)] w fun e w' => e = .returned (.tuple #[.int .u64 0, .int .u64 (n : Int)]) ∧ w' = w := by
  have := Any.bits_Mul { Tryz.laysB with } 1 n (by omega) (by omega) w
  rw [Nat.one_mul, Nat.div_eq_of_lt (by omega : n < 18446744073709551616), Nat.mod_eq_of_lt (by omega : n < 18446744073709551616)] at this
  exact this
/-- What has been laid of the noughts. -/
def NoughtInv (w : World) (g n k : Nat) (wr : World) : Prop :=
  (∀ i, i < k → wr.cell? ⟨g, i, none⟩ = some (.int .u8 48)) ∧ (∀ i, i < n → (wr.cell? ⟨g, i, none⟩).isSome = true) ∧ (∀ i, i < n → wr.frozen? ⟨g, i, none⟩ = false) ∧ Below w.heap.size w wr ∧ g < wr.heap.size
theorem setCells_size (w : World) (b o : Nat) (cs : List Value) : (w.setCells b o cs).heap.size = w.heap.size := by
  induction cs generalizing w o with
  | nil => rfl
  | cons v r ih => rw [World.setCells, ih]; simp [World.setCell]
theorem setCells_cell (cs : List Value) : ∀ (w : World) (g o : Nat), (∀ i, i < cs.length → (w.cell? ⟨g, o + i, none⟩).isSome = true) → ∀ j, (w.setCells g o cs).cell? ⟨g, j, none⟩ = if h : o ≤ j ∧ j < o + cs.length then some (cs[j - o]'(by omega)) else w.cell? ⟨g, j, none⟩ := by
  induction cs with
  | nil => intro w g o _ j; rw [dif_neg (by simp)]; rfl
  | cons v r ih =>
    intro w g o hs j
    have h0 : (w.cell? ⟨g, o, none⟩).isSome = true := by have := hs 0 (by simp); rwa [Nat.add_zero] at this
    rw [World.setCells, ih (w.setCell ⟨g, o, none⟩ v) g (o + 1) (fun i hi => by
      by_cases e : o + 1 + i = o
      · omega
      · rw [World.cell?_setCell_other (w := w) (a := ⟨g, o, none⟩) (b := ⟨g, o + 1 + i, none⟩) (h := by intro q; injection q with _ q2; omega)]
        have := hs (i + 1) (by simp; omega)
        rwa [show o + (i + 1) = o + 1 + i by omega] at this)]
    by_cases e : j = o
    · subst e
      rw [dif_neg (by omega), World.cell?_setCell_same' _ _ _ h0, dif_pos (by simp)]
      simp
    · have hne : (w.setCell ⟨g, o, none⟩ v).cell? ⟨g, j, none⟩ = w.cell? ⟨g, j, none⟩ := by
        rw [World.cell?_setCell_other (w := w) (a := ⟨g, o, none⟩) (b := ⟨g, j, none⟩) (h := by intro q; injection q with _ q2; exact e q2.symm)]
      by_cases h : o + 1 ≤ j ∧ j < o + 1 + r.length
      · rw [dif_pos h, dif_pos (by simp; omega)]
        congr 1
        rw [List.getElem_cons]
        rw [dif_neg (by omega)]
        rfl
      · rw [dif_neg h, dif_neg (by simp; omega), hne]
theorem setCells_frozen (cs : List Value) : ∀ (w : World) (g o : Nat) (a : Addr), (w.setCells g o cs).frozen? a = w.frozen? a := by
  induction cs with
  | nil => intro w g o a; rfl
  | cons v r ih => intro w g o a; rw [World.setCells, ih, World.frozen?_setCell]
theorem setCells_below (cs : List Value) : ∀ (w0 w : World) (B g o : Nat), Below B w0 w → B ≤ g → Below B w0 (w.setCells g o cs) := by
  induction cs with
  | nil => intro w0 w B g o h _; exact h
  | cons v r ih => intro w0 w B g o h hg; exact ih w0 _ B g (o + 1) (h.setCell (p := ⟨g, o, none⟩) hg _) hg
theorem NoughtInv.next {w wr : World} {g n k m : Nat} (h : NoughtInv w g n k wr) (hg : w.heap.size ≤ g) (hm : k + m ≤ n) : NoughtInv w g n (k + m) (wr.setCells g k (List.replicate m (.int .u8 48))) := by
  obtain ⟨h1, h2, h3, h4, h5⟩ := h
  have hs : ∀ i, i < (List.replicate m (Value.int .u8 48)).length → (wr.cell? ⟨g, k + i, none⟩).isSome = true := fun i hi => h2 _ (by rw [List.length_replicate] at hi; omega)
  refine ⟨fun i hi => ?_, fun i hi => ?_, fun i hi => by rw [setCells_frozen]; exact h3 i hi, setCells_below _ _ _ _ _ _ h4 hg, by rw [setCells_size]; exact h5⟩
  · rw [setCells_cell _ wr g k hs i]
    by_cases e : k ≤ i ∧ i < k + (List.replicate m (Value.int .u8 48)).length
    · rw [dif_pos e]; simp
    · rw [dif_neg e]; rw [List.length_replicate] at e; exact h1 i (by omega)
  · rw [setCells_cell _ wr g k hs i]
    by_cases e : k ≤ i ∧ i < k + (List.replicate m (Value.int .u8 48)).length
    · rw [dif_pos e]; rfl
    · rw [dif_neg e]; exact h2 i hi
theorem NoughtInv.copy {w wr : World} {g n k m c1 c2 : Nat} (h : NoughtInv w g n k wr) (hm : m = Nat.min k (n - k)) (ty : TypeId) :
    (Builtin.copy_ #[38, 38] ty #[.slice (some ⟨g, k, none⟩) (n - k) c1, .slice (some ⟨g, 0, none⟩) k c2]).run Tryz.prog wr = .ok (.int .i64 (m : Int)) (wr.setCells g k (List.replicate m (.int .u8 48))) := by
  obtain ⟨h1, h2, h3, h4, h5⟩ := h
  have hmk : m ≤ k ∧ m ≤ n - k := by
    subst hm
    exact ⟨Nat.min_le_left _ _, Nat.min_le_right _ _⟩
  have := run_copy_cells (P := Tryz.prog) wr 38 38 ty 5 g k (n - k) c1 ⟨g, 0, none⟩ k c2 (List.replicate m (.int .u8 48)) Tryz.underlying38 (by kernel_rfl) (by rw [List.length_replicate]; exact hm)
    (fun j v hj => by
      rw [List.getElem?_replicate] at hj
      split at hj
      · rename_i hjm
        injection hj with hj
        subst hj
        have e : (⟨g, 0, none⟩ : Addr).add j = ⟨g, j, none⟩ := by unfold Addr.add; split <;> simp_all
        rw [e]; exact h1 j (by omega)
      · cases hj)
    (fun j hj => h2 _ (by rw [List.length_replicate] at hj; omega)) (fun j hj => h3 _ (by rw [List.length_replicate] at hj; omega)) (fun v hv => by rw [List.mem_replicate] at hv; rw [hv.2]; rfl)
  rw [this, List.length_replicate]; rfl

theorem NoughtInv.drew {w wr : World} {g n k : Nat} (h : NoughtInv w g n k wr) : NoughtInv w g n k wr.drew := by
  obtain ⟨h1, h2, h3, h4, h5⟩ := h
  exact ⟨h1, h2, h3, h4.drew, h5⟩
set_option maxRecDepth 100000 in
set_option maxHeartbeats 2000000 in
theorem brepeat_any (b c n : Nat) (w : World) (h2 : 2 ≤ n) (hn : n ≤ 1000) (hr : w.cell? ⟨b, 0, none⟩ = some (.int .u8 48)) :
    Calls Tryz.prog 56 #[.slice (some ⟨b, 0, none⟩) 1 c, .int .i64 (n : Int)] w fun e w' => ∃ g : Nat, e = .returned (.slice (some ⟨g, 0, none⟩) n n) ∧ w.heap.size ≤ g ∧ NoughtInv w g n n w' := by
  have n0 : ((n : Int) == 0) = false := beq_eq_false_iff_ne.2 (by omega)
  have hn1 : (n : Int) ≤ 1000 := by omega
  have hn2 : (2 : Int) ≤ (n : Int) := by omega
  go_enter Tryz.func56, Tryz.ntmps56
  go_wp2_with fail
  refine (bmul_1 n _ hn).mono ?_
  rintro e w1 ⟨rfl, hw1⟩
  subst hw1
  go_wp2_with fail
  obtain ⟨cs, hrun, hle, _⟩ := Lib.run_makeNoZero (P := Tryz.prog) w1 #[3] 38 5 Tryz.underlying38 n (by omega)
  rw [run_callFunc_extern Tryz.func77 (by kernel_rfl) (by kernel_rfl) (by kernel_rfl) (e := Extern.BytealgMakeNoZero.makeNoZero #[3] #[38]) (by kernel_rfl), hrun]
  have hleI : (n : Int) ≤ (cs.size : Int) := by omega
  have hI0 : NoughtInv w1 w1.heap.size n 0 ((w1.alloc (.cells cs 5)).drew.drew) := by
    refine ⟨fun i hi => by omega, fun i hi => ?_, fun i hi => by go_simp, ((Below.refl _ _).alloc (Nat.le_refl _) _).drew.drew, by simp⟩
    have hi' : i < cs.size := by omega
    go_simp
  have hcp : (Builtin.copy_ #[38, 38] 3 #[.slice (some ⟨w1.heap.size, 0, none⟩) n n, .slice (some ⟨b, 0, none⟩) 1 c]).run Tryz.prog ((w1.alloc (.cells cs 5)).drew.drew) = .ok (.int .i64 1) (((w1.alloc (.cells cs 5)).drew.drew).setCells w1.heap.size 0 [.int .u8 48]) := by
    have hb : b < w1.heap.size := World.block_lt_of_cell? _ _ hr
    have := run_copy_cells (P := Tryz.prog) ((w1.alloc (.cells cs 5)).drew.drew) 38 38 3 5 w1.heap.size 0 n n ⟨b, 0, none⟩ 1 c [.int .u8 48] Tryz.underlying38 (by kernel_rfl) (Nat.min_eq_left (show 1 ≤ n by omega)).symm
      (fun j v hj => by
        cases j with
        | zero =>
          simp at hj
          subst hj
          exact ((hI0.2.2.2.1).cell (p := ⟨b, 0, none⟩) hb).trans hr
        | succ j => simp at hj)
      (fun j hj => by rw [Nat.zero_add]; exact hI0.2.1 j (by simp at hj; omega)) (fun j hj => by rw [Nat.zero_add]; exact hI0.2.2.1 j (by simp at hj; omega)) (fun v hv => by simp at hv; rw [hv]; rfl)
    exact this
  have hI1 : NoughtInv w1 w1.heap.size n (0 + 1) (((w1.alloc (.cells cs 5)).drew.drew).setCells w1.heap.size 0 (List.replicate 1 (.int .u8 48))) := hI0.next (Nat.le_refl _) (by omega)
  have HCP := hide hcp
  clear hcp hI0 hle
  simp only [Result.andThen]
  rw [Oper.upon_value]
  go_wp2_with fail
  rw [unhide HCP]
  clear HCP
  have hS : Hid (∃ q : World, q = ((w1.alloc (.cells cs 5)).drew.drew).setCells w1.heap.size 0 [.int .u8 48]) := ⟨_, rfl⟩
  obtain ⟨q, hq⟩ := unhide hS
  have e1 : (((w1.alloc (.cells cs 5)).drew.drew).setCells w1.heap.size 0 (List.replicate 1 (.int .u8 48))) = q := hq.symm
  rw [e1] at hI1
  rw [← hq]
  clear e1 hq hS
  simp only [Result.andThen]
  rw [Oper.upon_value]
  go_wp2_with fail
  go_loopw [10, 11] (fun bp _ wr => ∃ k : Nat, 1 ≤ k ∧ k ≤ n ∧ bp = .int .i64 (k : Int) ∧ NoughtInv w1 w1.heap.size n k wr) (fun bp _ _ => n - (intOf bp).toNat)
  case atStart => exact ⟨1, by omega, by omega, rfl, hI1⟩
  case round =>
    clear hI1
    obtain ⟨k, hk1, hk, rfl, hI⟩ := hrel
    by_cases hlt : (k : Int) < (n : Int)
    · obtain ⟨m, hm⟩ : ∃ m, m = Nat.min k (n - k) := ⟨_, rfl⟩
      have hm2 : m ≤ n - k ∧ 0 < m := by
        subst hm
        refine ⟨Nat.min_le_right _ _, ?_⟩
        have := Nat.lt_min.2 ⟨(by omega : 0 < k), (by omega : 0 < n - k)⟩
        exact this
      have hcp := hI.drew.copy (c1 := n - k) (c2 := n) hm 3
      have hnx := hI.drew.next (m := m) (Nat.le_refl _) (by omega)
      have HNX := hide hnx
      have hmin : min (k : Int) (n : Int) = (k : Int) := by omega
      have hnk : ¬ n = k := by omega
      have hmk : (m : Int) ≤ (n : Int) - (k : Int) := by omega
      clear hnx hm hI
      go_wp2_with fail
      go_region
      clear hcp
      go_wp2_with fail
      go_roundw
      case rel => exact ⟨k + m, by omega, by omega, congrArg (Value.int .i64) (by omega), unhide HNX⟩
      case measure => simp only [intOf]; omega
    · obtain rfl : k = n := by omega
      have HI := hide hI
      clear hI
      go_wp2
      go_ret
      exact ⟨w1.heap.size, rfl, Nat.le_refl _, unhide HI⟩
end Go.Proofs.YtmlmplmghlbdmaaGreatDoor

namespace Go.Proofs.YtmlmplmghlbdmaaGreatDoor
open Go.RowKit
set_option linter.unusedVariables false
set_option linter.unusedSimpArgs false

theorem Row.other {w : World} {b o g j : Nat} {l : List UInt8} (h : Row w b o l) (hne : g ≠ b) (v : Value) : Row (w.setCell ⟨g, j, none⟩ v) b o l :=
  fun i hi => by rw [World.cell?_setCell_other (w := w) (a := ⟨g, j, none⟩) (b := ⟨b, o + i, none⟩) (h := by intro q; injection q with q1 _; exact hne q1)]; exact h i hi
theorem setCells_other (cs : List Value) : ∀ (w : World) (g o b j : Nat), g ≠ b → (w.setCells g o cs).cell? ⟨b, j, none⟩ = w.cell? ⟨b, j, none⟩ := by
  induction cs with
  | nil => intro w g o b j _; rfl
  | cons v r ih =>
    intro w g o b j hne
    rw [World.setCells, ih _ g (o + 1) b j hne]
    exact World.cell?_setCell_other (w := w) (a := ⟨g, o, none⟩) (b := ⟨b, j, none⟩) (h := by intro q; injection q with q1 _; exact hne q1) v
theorem Row.others {w : World} {b o g k : Nat} {l : List UInt8} (h : Row w b o l) (hne : g ≠ b) (cs : List Value) : Row (w.setCells g k cs) b o l :=
  fun i hi => by rw [setCells_other cs w g k b (o + i) hne]; exact h i hi

/-- The three rows of a long division: the divisor, the quotient, the rest. -/
def R3 (w : World) (gd g1 g2 : Nat) (Dv Qr S : List UInt8) (wr : World) : Prop :=
  Row wr gd 0 Dv ∧ Row wr g1 0 Qr ∧ Row wr g2 0 S ∧ (∀ i, i < Qr.length → wr.frozen? ⟨g1, i, none⟩ = false) ∧ (∀ i, i < S.length → wr.frozen? ⟨g2, i, none⟩ = false) ∧ Below w.heap.size w wr ∧ (w.heap.size ≤ gd ∧ gd < g1 ∧ g1 < g2 ∧ g2 < wr.heap.size)
theorem R3.setQ {w wr : World} {gd g1 g2 : Nat} {Dv Qr S : List UInt8} (h : R3 w gd g1 g2 Dv Qr S wr) (j : Nat) (c : UInt8) : R3 w gd g1 g2 Dv (Qr.set j c) S (wr.setCell ⟨g1, j, none⟩ (.int .u8 (c.toNat : Int))) := by
  obtain ⟨h1, h2, h3, h4, h5, h6, h7, h8, h9, h10⟩ := h
  refine ⟨h1.other (by omega) _, h2.set j c, h3.other (by omega) _, fun i hi => ?_, fun i hi => ?_, h6.setCell (p := ⟨g1, j, none⟩) (by show w.heap.size ≤ g1; omega) _, h7, h8, h9, by simpa [World.setCell] using h10⟩
  · rw [World.frozen?_setCell]; exact h4 i (by rwa [List.length_set] at hi)
  · rw [World.frozen?_setCell]; exact h5 i hi
/-- The cells of a row but the first. -/
def tailCells (S : List UInt8) : List Value := S.tail.map fun x => .int .u8 (x.toNat : Int)
theorem R3.push {w wr : World} {gd g1 g2 n : Nat} {Dv Qr S : List UInt8} (h : R3 w gd g1 g2 Dv Qr S wr) (hn : S.length = n + 1) (c : UInt8) :
    R3 w gd g1 g2 Dv Qr (Dm.pushD S c) ((wr.setCells g2 0 (tailCells S)).setCell ⟨g2, n, none⟩ (.int .u8 (c.toNat : Int))) := by
  obtain ⟨h1, h2, h3, h4, h5, h6, h7, h8, h9, h10⟩ := h
  have hcl : (tailCells S).length = n := by unfold tailCells; rw [List.length_map, List.length_tail, hn]; rfl
  have hs : ∀ i, i < (tailCells S).length → (wr.cell? ⟨g2, 0 + i, none⟩).isSome = true := fun i hi => by
    rw [h3 i (by omega)]; rfl
  have hpl := Dm.pushD_len (c := c) hn (by omega)
  refine ⟨(h1.others (by omega) _).other (by omega) _, (h2.others (by omega) _).other (by omega) _, ?_, fun i hi => ?_, fun i hi => ?_, (setCells_below _ _ _ _ _ _ h6 (by omega)).setCell (p := ⟨g2, n, none⟩) (by show w.heap.size ≤ g2; omega) _, h7, h8, h9, ?_⟩
  · intro i hi
    rw [hpl] at hi
    rw [Nat.zero_add]
    by_cases e : i = n
    · subst e
      rw [World.cell?_setCell_same' _ _ _ (by rw [setCells_cell _ wr g2 0 hs, dif_neg (by omega), ← Nat.zero_add i, h3 i (by omega)]; rfl)]
      unfold Dm.pushD
      have : (S.tail ++ [c])[i]? = some c := by
        rw [List.getElem?_append_right (by rw [List.length_tail]; omega), List.length_tail, hn]; simp
      simp [List.getD, this]
    · rw [World.cell?_setCell_other (w := wr.setCells g2 0 (tailCells S)) (a := ⟨g2, n, none⟩) (b := ⟨g2, i, none⟩) (h := by intro q; injection q with _ q2; exact e q2.symm), setCells_cell _ wr g2 0 hs, dif_pos (by omega)]
      have : (S.tail ++ [c])[i]? = some (S.tail[i]'(by rw [List.length_tail]; omega)) := by
        rw [List.getElem?_append_left (by rw [List.length_tail]; omega), List.getElem?_eq_getElem]
      unfold Dm.pushD tailCells
      simp [List.getD, this]
  · rw [World.frozen?_setCell, setCells_frozen]; exact h4 i hi
  · rw [World.frozen?_setCell, setCells_frozen]; exact h5 i (by omega)
  · simp only [World.setCell, Array.size_modify]
    rw [setCells_size]; exact h10
theorem R3.copy {w wr : World} {gd g1 g2 n c1 c2 : Nat} {Dv Qr S : List UInt8} (h : R3 w gd g1 g2 Dv Qr S wr) (hn : S.length = n + 1) (ty : TypeId) :
    (Builtin.copy_ #[38, 38] ty #[.slice (some ⟨g2, 0, none⟩) (n + 1) c1, .slice (some ⟨g2, 1, none⟩) n c2]).run Tryz.prog wr = .ok (.int .i64 (n : Int)) (wr.setCells g2 0 (tailCells S)) := by
  obtain ⟨h1, h2, h3, h4, h5, h6, h7, h8, h9, h10⟩ := h
  have hcl : (tailCells S).length = n := by unfold tailCells; rw [List.length_map, List.length_tail, hn]; rfl
  have := run_copy_cells (P := Tryz.prog) wr 38 38 ty 5 g2 0 (n + 1) c1 ⟨g2, 1, none⟩ n c2 (tailCells S) Tryz.underlying38 (by kernel_rfl) (by rw [hcl]; exact (Nat.min_eq_left (show n ≤ n + 1 by omega)).symm)
    (fun j v hj => by
      have hjl : j < n := by have := (List.getElem?_eq_some_iff.1 hj).1; omega
      have e : (⟨g2, 1, none⟩ : Addr).add j = ⟨g2, 0 + (j + 1), none⟩ := by unfold Addr.add; split <;> simp_all; omega
      rw [e, h3 (j + 1) (by omega)]
      unfold tailCells at hj
      rw [List.getElem?_map] at hj
      cases S with
      | nil => simp at hn
      | cons a t =>
        simp only [List.tail_cons] at hj
        simp only [List.getD, List.getElem?_cons_succ]
        cases ht : t[j]? with
        | none => rw [ht] at hj; cases hj
        | some x => rw [ht] at hj; simpa using hj)
    (fun j hj => by rw [h3 j (by omega)]; rfl) (fun j hj => by rw [Nat.zero_add]; exact h5 j (by omega)) (fun v hv => by
      unfold tailCells at hv
      obtain ⟨x, _, rfl⟩ := List.mem_map.1 hv
      rfl)
  rw [this, hcl]; rfl
theorem R3.off {w wr w' : World} {gd g1 g2 : Nat} {Dv Qr S L : List UInt8} (h : R3 w gd g1 g2 Dv Qr S wr) (hl : L.length = S.length) (hr : Row w' g2 0 L) (hf : ∀ i, i < S.length → w'.frozen? ⟨g2, i, none⟩ = false) (hb : Below g2 wr w') : R3 w gd g1 g2 Dv Qr L w' := by
  obtain ⟨h1, h2, h3, h4, h5, h6, h7, h8, h9, h10⟩ := h
  exact ⟨h1.keep (by omega) hb, h2.keep h9 hb, hr, fun i hi => by rw [hb.frozen (p := ⟨g1, i, none⟩) h9]; exact h4 i hi, fun i hi => hf i (by omega), h6.trans (hb.mono (by omega)), h7, h8, h9, Nat.lt_of_lt_of_le h10 hb.size⟩
theorem R3.drew {w wr : World} {gd g1 g2 : Nat} {Dv Qr S : List UInt8} (h : R3 w gd g1 g2 Dv Qr S wr) : R3 w gd g1 g2 Dv Qr S wr.drew := by
  obtain ⟨h1, h2, h3, h4, h5, h6, h7⟩ := h
  exact ⟨h1, h2, h3, h4, h5, h6.drew, h7⟩
theorem set_at (Q Z : List UInt8) (k : Nat) (c : UInt8) (hQ : Q.length = k) (z : UInt8) : (Q ++ z :: Z).set k c = Q ++ c :: Z := by
  rw [List.set_append_right _ _ (by omega), hQ, Nat.sub_self]; rfl
end Go.Proofs.YtmlmplmghlbdmaaGreatDoor

namespace Go.Proofs.YtmlmplmghlbdmaaGreatDoor
open Go.RowKit
set_option linter.unusedVariables false
set_option linter.unusedSimpArgs false

set_option maxRecDepth 100000 in
set_option maxHeartbeats 4000000 in
theorem longDivide_any (N D : List UInt8) (p n : Nat) (w : World) (hp : N.length = p) (hp0 : 1 ≤ p) (hp1 : p ≤ 400) (hn : D.length = n) (hn0 : 1 ≤ n) (hn1 : n ≤ 400) (dN : Dm.allD N) (dD : Dm.allD D) (hpos : 0 < Dm.num D) :
    Calls Tryz.prog 32 #[.string ⟨N.toArray⟩, .string ⟨D.toArray⟩] w fun e w' => ∃ (g1 g2 c : Nat) (Q S : List UInt8), e = .returned (.tuple #[.slice (some ⟨g1, 0, none⟩) p p, .slice (some ⟨g2, 0, none⟩) (n + 1) (n + 1)]) ∧ Q.length = p ∧ S.length = n + 1 ∧ Dm.allD Q ∧ Dm.allD S ∧ Dm.num Q = Dm.num N / Dm.num D ∧ Dm.num S = Dm.num N % Dm.num D ∧ Row w' g1 0 Q ∧ Row w' g2 0 S ∧ Below w.heap.size w w' := by
  obtain ⟨s, hs⟩ : ∃ s : ByteArray, (⟨#[48]⟩ ++ ⟨D.toArray⟩ : ByteArray) = s := ⟨_, rfl⟩
  have hsl : s.data.toList = 48 :: D := by rw [← hs, cons_join]
  have hsz : s.size = n + 1 := by rw [size_len, hsl, List.length_cons, hn]
  have hNl : N.length ≤ 400 := by omega
  have hNp : N.length ≤ p := by omega
  have hpN : p ≤ N.length := by omega
  have hDl : D.length ≤ 400 := by omega
  have HN := hide hp
  have HD := hide hn
  have HSL := hide hsl
  have HSZ := hide hsz
  clear hp hn hsl hsz
  have cv := Lib.run_convert_string_bytes (P := Tryz.prog) w 9 38 5 s Tryz.underlying9 Tryz.underlying38 Tryz.underlying5
  have CV := hide cv
  clear cv
  go_enter Tryz.func32, Tryz.ntmps32
  go_wp2_with fail
  rw [unhide CV]
  clear hs
  simp only [Result.andThen]
  rw [Oper.upon_value]
  have hrD : Row (Lib.bytesWorld w 5 s) w.heap.size 0 (48 :: D) := fun i hi => by
    rw [Nat.zero_add, Lib.bytesWorld_cell w 5 s i (by rw [unhide HSZ]; rw [List.length_cons, unhide HD] at hi; exact hi), unhide HSL]
  have hb1 := bytesWorld_below w 5 s
  have hz1 := Lib.bytesWorld_size w 5 s
  generalize Lib.bytesWorld w 5 s = w1 at *
  generalize grownCap w s.size 0 5 = cp
  rw [unhide HSZ]
  clear CV HSZ HSL
  go_wp2_with fail
  rw [unhide HN]
  have mk := fun W => run_make_row' (P := Tryz.prog) 38 5 (.int .u8 0) 1 Tryz.underlying38 (by kernel_rfl) rfl .i64 .i64 p (by omega) (by omega) W
  rw [mk]
  clear mk
  have hr1 := row_made w1 p
  have hf1 := fun j => frozen_made w1 (madeCells #[.int .u8 0] p) 5 j
  rw [hz1] at hr1 hf1
  have hb2 : Below w.heap.size w (w1.alloc (.cells (madeCells #[.int .u8 0] p) 5)) := hb1.alloc (by omega) _
  have hz2 : (w1.alloc (.cells (madeCells #[.int .u8 0] p) 5)).heap.size = w.heap.size + 1 + 1 := by simp [hz1]
  have hrD2 := hrD.below ((Below.refl w1.heap.size w1).alloc (Nat.le_refl _) (.cells (madeCells #[.int .u8 0] p) 5))
  simp only [hz1]
  clear hrD hb1
  generalize w1.alloc (.cells (madeCells #[.int .u8 0] p) 5) = w2 at *
  clear hz1
  go_wp2_with fail
  rw [Go.Joins.run_convert_bytes_const_at w2 38 5 #[.int .u8 48] 1 1 (w.heap.size + 1 + 1) hz2.symm Tryz.underlying38 Tryz.underlying5]
  simp only [Result.andThen]
  rw [Oper.upon_value]
  have hb3 : Below w2.heap.size w2 (w2.alloc (.cells #[.int .u8 48] 5 (1, 2))) := (Below.refl _ _).alloc (Nat.le_refl _) _
  have hc3 : (w2.alloc (.cells #[.int .u8 48] 5 (1, 2))).cell? ⟨w.heap.size + 1 + 1, 0, none⟩ = some (.int .u8 48) := by
    rw [Go.Joins.cell_alloc_mark_at w2 _ 5 (1, 2) (w.heap.size + 1 + 1) 0 hz2.symm]; rfl
  have hz3 : (w2.alloc (.cells #[.int .u8 48] 5 (1, 2))).heap.size = w.heap.size + 1 + 1 + 1 := by simp [hz2]
  have hrD3 := hrD2.below hb3
  have hr3 := hr1.below hb3
  have hf3 : ∀ j, (w2.alloc (.cells #[.int .u8 48] 5 (1, 2))).frozen? ⟨w.heap.size + 1, j, none⟩ = false := fun j => by
    rw [hb3.frozen (p := ⟨w.heap.size + 1, j, none⟩) (by rw [hz2]; show w.heap.size + 1 < _; omega)]; exact hf1 j
  have hb03 : Below w.heap.size w (w2.alloc (.cells #[.int .u8 48] 5 (1, 2))) := hb2.alloc (by omega) _
  clear hrD2 hr1 hf1 hb2 hb3
  simp only [show (#[Value.int IntKind.u8 48] : Array Value).size = 1 from rfl]
  generalize w2.alloc (.cells #[.int .u8 48] 5 (1, 2)) = w3 at *
  clear hz2
  have hbr := brepeat_any (w.heap.size + 1 + 1) 1 (n + 1) w3 (by omega) (by omega) hc3
  rw [show ((n + 1 : Nat) : Int) = (n : Int) + 1 from by omega] at hbr
  have HBR := hide hbr
  clear hbr hc3
  go_wp2_with fail
  refine (unhide HBR).mono ?_
  rintro e w4 ⟨g2, rfl, hg2, hni⟩
  clear HBR
  obtain ⟨n1, n2, n3, n4, n5⟩ := hni
  have hlt2 : w.heap.size + 1 < g2 := by omega
  have hR0 : R3 w w.heap.size (w.heap.size + 1) g2 (48 :: D) ([] ++ List.replicate p 0) (List.replicate (n + 1) 48) w4 := by
    refine ⟨hrD3.below n4, hr3.below n4, fun i hi => ?_, fun i hi => ?_, fun i hi => ?_, hb03.trans (n4.mono (by omega)), Nat.le_refl _, by omega, hlt2, n5⟩
    · rw [List.length_replicate] at hi
      rw [Nat.zero_add, n1 i hi]; simp [List.getD, hi]
    · rw [n4.frozen (p := ⟨w.heap.size + 1, i, none⟩) (by rw [hz3]; show w.heap.size + 1 < _; omega)]; exact hf3 i
    · rw [List.length_replicate] at hi; exact n3 i hi
  have hL0 : Dm.LongInv N (Dm.num D) 0 [] (List.replicate (n + 1) 48) (n + 1) := ⟨rfl, Dm.allD_nil, by simp, Dm.allD_zeros _, by rw [Dm.num_zeros, List.take_zero]; simp [Dm.num], by rw [Dm.num_zeros]; exact hpos⟩
  have hDB : Dm.num D ≤ 10 ^ n := by have := Dm.num_lt dD; rw [unhide HD] at this; omega
  have hDv : Dm.allD (48 :: D) ∧ Dm.num (48 :: D) = Dm.num D ∧ (48 :: D).length = n + 1 := ⟨Dm.allD_cons.2 ⟨rfl, dD⟩, Dm.num_48 D, by rw [List.length_cons, unhide HD]⟩
  have HDB := hide hDB
  have HDV := hide hDv
  clear n1 n2 n3 n4 n5 hrD3 hr3 hf3 hb03 hz3 hg2 hDB hDv
  go_wp2_with fail
  go_loopg [25, 8] p (fun g i _ wr => ∃ (k : Nat) (Q S : List UInt8), k + g = p ∧ i = .int .i64 (k : Int) ∧ Dm.LongInv N (Dm.num D) k Q S (n + 1) ∧ R3 w w.heap.size (w.heap.size + 1) g2 (48 :: D) (Q ++ List.replicate g 0) S wr)
  case atStart => exact ⟨0, [], _, by omega, rfl, hL0, hR0⟩
  case round =>
    clear hR0 hL0
    obtain ⟨k, Q, S, hkg, rfl, hL, hR⟩ := hrel
    cases gk with
    | zero =>
      obtain rfl : k = p := by omega
      have hQl := hL.1
      obtain ⟨f1, f2, f3, f4, f5, f6⟩ := id hL
      have hf := Dm.LongInv.fin (N := N) (Q := Q) (S := S) (by rw [unhide HN]; exact hL)
      obtain ⟨r1, r2, r3, _, _, r6, _⟩ := hR
      rw [List.replicate_zero, List.append_nil] at r2
      have F1 := hide f1
      have F3 := hide f3
      have F := hide hf
      clear hL f1 f3 f5 f6 hf hQl
      go_wp2
      go_ret2
      exact ⟨w.heap.size + 1, g2, 0, Q, S, rfl, unhide F1, unhide F3, f2, f4, (unhide F).1, (unhide F).2, r2, r3, r6⟩
    | succ g =>
      have hkp : k < p := by omega
      have hkN : k < N.length := by rw [unhide HN]; exact hkp
      have hkS : k < (⟨N.toArray⟩ : ByteArray).size := by rw [mk_size]; exact hkN
      have hSn : S.length = n + 1 := hL.2.2.1
      have hcp := hR.copy (c1 := n + 1) (c2 := n) hSn 3
      have hpu := hR.push hSn ((⟨N.toArray⟩ : ByteArray)[k]'hkS)
      have hcN : (⟨N.toArray⟩ : ByteArray)[k]'hkS = N[k] := rfl
      have hcd : Dm.isD ((⟨N.toArray⟩ : ByteArray)[k]'hkS) = true := dN _ (List.getElem_mem hkN)
      have hcl : (tailCells S).length = n := by unfold tailCells; rw [List.length_map, List.length_tail, hSn]; rfl
      have f2 : (wr.setCells g2 0 (tailCells S)).frozen? ⟨g2, n, none⟩ = false := by rw [setCells_frozen]; exact hR.2.2.2.2.1 n (by omega)
      have c2 : (wr.setCells g2 0 (tailCells S)).cell? ⟨g2, n, none⟩ = some (.int .u8 ((S.getD n 0).toNat : Int)) := by
        rw [setCells_cell _ wr g2 0 (fun i hi => by rw [hR.2.2.1 i (by omega)]; rfl), dif_neg (by omega)]
        have := hR.2.2.1 n (by omega)
        rwa [Nat.zero_add] at this
      have HCN := hide hcN
      have HS := hide hSn
      have hn1' : ¬ n + 1 = 1 := by omega
      clear hcN hSn hcl
      go_upto_region 10 with fail
      clear hcp f2 c2 hn1'
      generalize (wr.setCells g2 0 (tailCells S)).setCell ⟨g2, n, none⟩ (.int .u8 (((⟨N.toArray⟩ : ByteArray)[k]'hkS).toNat : Int)) = w5 at hpu ⊢
      generalize (⟨N.toArray⟩ : ByteArray)[k]'hkS = c at *
      have hQl : Q.length = k := hL.1
      have q1 : w5.cell? ⟨w.heap.size + 1, k, none⟩ = some (.int .u8 0) := by
        have := hpu.2.1 k (by rw [List.length_append, hQl, List.length_replicate]; omega)
        rw [Nat.zero_add] at this
        rw [this]
        have e : (Q ++ List.replicate (g + 1) (0 : UInt8)).getD k 0 = 0 := by
          rw [List.getD, List.getElem?_append_right (by omega), List.getElem?_replicate]; split <;> rfl
        rw [e]; rfl
      have q2 : w5.frozen? ⟨w.heap.size + 1, k, none⟩ = false := hpu.2.2.2.1 k (by rw [List.length_append, hQl, List.length_replicate]; omega)
      have hq : R3 w w.heap.size (w.heap.size + 1) g2 (48 :: D) (Q ++ 48 :: List.replicate g 0) (Dm.pushD S c) (w5.setCell ⟨w.heap.size + 1, k, none⟩ (.int .u8 48)) := by
        have := hpu.setQ k 48
        rw [List.replicate_succ, set_at Q _ k 48 hQl] at this
        exact this
      have HQ := hide hQl
      clear hQl hpu
      obtain ⟨X, hX⟩ : ∃ X, Dm.num (Dm.pushD S c) = X := ⟨_, rfl⟩
      have hXB := Dm.step_lt hL (unhide HDB) hcd
      rw [hX] at hXB
      have hS0 : Dm.StepInv X (Dm.num D) 0 (Dm.pushD S c) (n + 1) := ⟨Dm.pushD_len (unhide HS) (by omega), Dm.pushD_allD hL.2.2.2.1 hcd, by rw [hX]; omega, by omega⟩
      have HX := hide hX
      have HXB := hide hXB
      have HL := hide hL
      clear hX hXB hL
      go_upto_region 11 with fail
      clear q1 q2
      go_loopg [] 9 (fun g' wx => ∃ (q : Nat) (S' : List UInt8) (d : UInt8), q + g' = 9 ∧ d.toNat = 48 + q ∧ Dm.StepInv X (Dm.num D) q S' (n + 1) ∧ R3 w w.heap.size (w.heap.size + 1) g2 (48 :: D) (Q ++ d :: List.replicate g 0) S' wx)
      case atStart => exact ⟨0, _, 48, rfl, rfl, hS0, hq⟩
      case round =>
        clear hS0 hq
        obtain ⟨q, S', d, hqg, hd, hSt, hR⟩ := hrel
        have hlS : S'.length = n + 1 := hSt.1
        obtain ⟨z, hz⟩ : ∃ z, Lib.compareBytes S' (48 :: D) = z := ⟨_, rfl⟩
        have hcmp := Dm.cmp_rows S' (48 :: D) hSt.2.1 (unhide HDV).1 (by rw [(unhide HDV).2.2]; exact hlS)
        rw [hz, (unhide HDV).2.1] at hcmp
        have hbc := bcompare_any g2 0 (n + 1) (n + 1) w.heap.size 0 (n + 1) cp S' (48 :: D) wr hlS (unhide HDV).2.2 hR.2.2.1 hR.1
        rw [hz] at hbc
        have HBC := hide hbc
        have HCMP := hide hcmp
        have HLS := hide hlS
        clear hbc hcmp hlS hz
        go_wp2_with fail
        refine (unhide HBC).mono ?_
        rintro e w6 ⟨rfl, rfl⟩
        clear HBC
        by_cases hge : (0 : Int) ≤ z
        · have hle := (unhide HCMP).1 hge
          go_wp2_with fail
          refine (takeOff_any g2 w.heap.size (n + 1) (n + 1) cp S' (48 :: D) w6 (unhide HLS) (unhide HDV).2.2 (by omega) hSt.2.1 (unhide HDV).1 hR.2.2.1 hR.1 (by omega) (fun i hi => hR.2.2.2.2.1 i (by rw [unhide HLS]; exact hi)) (by rw [(unhide HDV).2.1]; exact hle)).mono ?_
          rintro e w7 ⟨rfl, L, hL1, hL2, hL3, hL4, hL5, hL6⟩
          rw [(unhide HDV).2.1] at hL3
          have hSt2 := hSt.more (unhide HXB) hle hL1 hL2 hL3
          have hR2 := hR.off (by rw [hL1, unhide HLS]) hL4 (fun i hi => hL5 i (by rw [unhide HLS] at hi; exact hi)) hL6
          have hq9 := hSt2.2.2.2
          have hQk : (Q ++ d :: List.replicate g 0).length = p := by
            rw [List.length_append, unhide HQ, List.length_cons, List.length_replicate]; omega
          have q1 : w7.cell? ⟨w.heap.size + 1, k, none⟩ = some (.int .u8 (d.toNat : Int)) := by
            have := hR2.2.1 k (by rw [hQk]; exact hkp)
            rw [Nat.zero_add] at this
            rw [this]
            have e : (Q ++ d :: List.replicate g (0 : UInt8)).getD k 0 = d := by
              rw [List.getD, List.getElem?_append_right (by rw [unhide HQ]; omega), unhide HQ, Nat.sub_self]; rfl
            rw [e]
          have q2 : w7.frozen? ⟨w.heap.size + 1, k, none⟩ = false := hR2.2.2.2.1 k (by rw [hQk]; exact hkp)
          obtain ⟨d', hd'⟩ : ∃ d' : UInt8, d'.toNat = 48 + (q + 1) := ⟨_, byte_of (by omega)⟩
          have hR3 := hR2.setQ k d'
          rw [set_at Q _ k d' (unhide HQ), show ((d'.toNat : Nat) : Int) = 48 + (q : Int) + 1 from by omega] at hR3
          have hdb : (d.toNat : Int) ≤ 57 := by omega
          have HD' := hide hd'
          clear hL1 hL2 hL3 hL4 hL5 hL6 hSt hR hd' hQk
          go_wp2_with fail
          go_roundg (gk - 1)
          case measure => omega
          case rel => exact ⟨q + 1, L, d', by omega, unhide HD', hSt2, hR3⟩
        · have hlt : Dm.num S' < Dm.num D := by
            have := unhide HCMP
            omega
          have hN := Dm.LongInv.next (d := d) (unhide HL) (unhide HDB) hkN (unhide HCN) hcd (by rw [unhide HX]; exact hSt) hlt hd
          have hR2 : R3 w w.heap.size (w.heap.size + 1) g2 (48 :: D) ((Q ++ [d]) ++ List.replicate g 0) S' w6 := by
            rw [List.append_assoc]; exact hR
          have HN2 := hide hN
          clear hN hSt
          go_wp2_with fail
          go_roundg g
          case measure => omega
          case rel => exact ⟨k + 1, Q ++ [d], S', by omega, by go_num, unhide HN2, hR2⟩
end Go.Proofs.YtmlmplmghlbdmaaGreatDoor
