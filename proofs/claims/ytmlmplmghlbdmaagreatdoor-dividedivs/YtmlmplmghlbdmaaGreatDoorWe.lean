/- What is proved here: what fit of package dec does with digits that lie in memory, walked; conditions: as each theorem states. -/
import Derived.Test.YtmlmplmghlbdmaaGreatDoorWd
import Derived.Test.YtmlmplmghlbdmaaGreatDoorRt
import Derived.Test.YtmlmplmghlbdmaaGreatDoorRb
import Derived.Laws.BytesArg
import Derived.RegionTactic
import Derived.Deep.RegionWith
import Derived.Deep.CutRange
namespace Go.Proofs.YtmlmplmghlbdmaaGreatDoor
open Go.RowKit
set_option linter.unusedVariables false
set_option linter.unusedSimpArgs false

theorem trimLeftS_48 (l : List UInt8) : Lib.trimLeftS l [48] = Dm.tl l := by
  unfold Lib.trimLeftS Dm.tl
  congr 1
  funext c
  simp only [List.contains, List.elem]
  cases c == 48 <;> rfl
theorem trimRightS_48 (l : List UInt8) : Lib.trimRightS l [48] = Dm.tr l := by
  unfold Lib.trimRightS Dm.tr
  congr 2
  funext c
  simp only [List.contains, List.elem]
  cases c == 48 <;> rfl

theorem trimL_none (b o n c : Nat) (ds : List UInt8) (w : World) (hn : ds.length = n) (h0 : 0 < n) (hnc : n ≤ c) (hc : c ≤ 9223372036854775807) (hr : Row w b o ds) (h : Dm.tl ds = []) :
    Calls Tryz.prog 65 #[.slice (some ⟨b, o, none⟩) n c, .string ⟨#[48]⟩] w fun e w' => e = .returned (.slice none 0 0) ∧ w' = w := by
  have := Tryz.bytes_TrimLeft_48 (some ⟨b, o, none⟩) n c ds w hn hnc hc (hr.at hn) h0
  rw [trimLeftS_48, h] at this
  refine this.mono ?_
  rintro e w' ⟨rfl, rfl⟩
  exact ⟨by simp [Lib.leftV], rfl⟩
theorem trimL_some (b o j m n c : Nat) (ds : List UInt8) (w : World) (hn : ds.length = n) (hj : n = j + m) (hm : (Dm.tl ds).length = m) (h0 : 0 < m) (hnc : n ≤ c) (hc : c ≤ 9223372036854775807) (hr : Row w b o ds) :
    Calls Tryz.prog 65 #[.slice (some ⟨b, o, none⟩) n c, .string ⟨#[48]⟩] w fun e w' => e = .returned (.slice (some ⟨b, o + j, none⟩) m (c - j)) ∧ w' = w := by
  have := Tryz.bytes_TrimLeft_48 (some ⟨b, o, none⟩) n c ds w hn hnc hc (hr.at hn) (by omega)
  rw [trimLeftS_48, hm] at this
  refine this.mono ?_
  rintro e w' ⟨rfl, rfl⟩
  refine ⟨?_, rfl⟩
  have e1 : n - m = j := by omega
  have e2 : n - j = m := by omega
  have e3 : j ≠ n := by omega
  have e4 : c ≠ j := by omega
  simp [Lib.leftV, Lib.fromV, e1, e2, e3, e4, Addr.add]
theorem trimR_some (b o m c k : Nat) (ds : List UInt8) (w : World) (hn : ds.length = m) (h0 : 0 < m) (hk : (Dm.tr ds).length = k) (hnc : m ≤ c) (hc : c ≤ 9223372036854775807) (hr : Row w b o ds) :
    Calls Tryz.prog 101 #[.slice (some ⟨b, o, none⟩) m c, .string ⟨#[48]⟩] w fun e w' => e = .returned (.slice (some ⟨b, o, none⟩) k c) ∧ w' = w := by
  have := Tryz.bytes_TrimRight_48 (some ⟨b, o, none⟩) m c ds w hn hnc hc (hr.at hn) h0
  rw [trimRightS_48, hk] at this
  exact this
theorem repeatL_48 (n : Nat) : Lib.repeatL [48] n = List.replicate n 48 := by
  induction n with
  | zero => rfl
  | succ n ih => rw [List.replicate_succ, Lib.repeatL, ih]; rfl
set_option maxRecDepth 100000 in
theorem repeat_any (c : Int) (w : World) (h0 : 0 ≤ c) (h1 : c ≤ 1000) :
    Calls Tryz.prog 33 #[.string ⟨#[48]⟩, .int .i64 c] w fun e w' => e = .returned (.string ⟨(List.replicate c.toNat (48 : UInt8)).toArray⟩) ∧ Below w.heap.size w w' := by
  obtain ⟨n, rfl⟩ := Int.eq_ofNat_of_zero_le h0
  have hs : (⟨#[48]⟩ : ByteArray).size = 1 := rfl
  have := Tryz.strings_Repeat ⟨#[48]⟩ n w (by omega) (by rw [hs]; omega)
  refine this.mono ?_
  rintro e w' ⟨rfl, hb⟩
  refine ⟨?_, hb⟩
  rw [Int.toNat_natCast]
  have : (⟨#[48]⟩ : ByteArray).data.toList = [48] := rfl
  rw [this, repeatL_48]
theorem str_join (l : List UInt8) (n : Nat) : (⟨l.toArray⟩ ++ ⟨Array.replicate n 48⟩ : ByteArray) = ⟨(l ++ List.replicate n 48).toArray⟩ := by
  rw [← ByteArray.mk_append_mk]; simp
/-- A decimal as a value. -/
def dV (d : Dm.D) : Value := .agg #[.bool d.ng, .string ⟨d.ds.toArray⟩, .int .i64 (d.sc : Int)]
def zV : Value := .agg #[.bool false, .string ⟨#[]⟩, .int .i64 0]
/-- What a call hands back: a decimal and OK; or none and ErrBig. -/
def rV (r : Option Dm.D) : Value := match r with
  | some d => .tuple #[dV d, .int .i64 0]
  | none => .tuple #[zV, .int .i64 3]

set_option maxRecDepth 100000 in
set_option maxHeartbeats 1000000 in
theorem fit_zero (ng : Bool) (b o n c : Nat) (ds : List UInt8) (sc : Int) (w : World) (hn : ds.length = n) (h0 : 0 < n) (hnc : n ≤ c) (hc : c ≤ 9223372036854775807) (hr : Row w b o ds) (h : Dm.tl ds = []) :
    Calls Tryz.prog 74 #[.bool ng, .slice (some ⟨b, o, none⟩) n c, .int .i64 sc] w fun e w' => e = .returned (rV (some ⟨false, [48], 0⟩)) ∧ Below w.heap.size w w' := by
  have hb1 : ∀ O, Below w.heap.size w (w.alloc O) := fun O => (Below.refl _ _).alloc (Nat.le_refl _) _
  have hr1 := fun O => hr.below (hb1 O)
  have HR := hide hr1
  clear hr hr1
  go_enter Tryz.func74, Tryz.ntmps74
  go_wp2_with (go_at_call 65; refine (trimL_none b o n c ds _ hn h0 hnc hc (by exact unhide HR _) h).mono ?_; rintro e w' ⟨rfl, rfl⟩)
  exact bodyPost_ret (v := rV (some ⟨false, [48], 0⟩)) (by simp [results, Tryz.results74, go_sem, rV, dV]) rfl ⟨rfl, hb1 _⟩

set_option maxRecDepth 100000 in
set_option maxHeartbeats 1000000 in
theorem fit_big (ng : Bool) (b o j m k n c : Nat) (ds : List UInt8) (sc : Int) (w : World) (hn : ds.length = n) (hj : n = j + m) (hm : (Dm.tl ds).length = m) (h0 : 0 < m) (hk : (Dm.tr (Dm.tl ds)).length = k) (hnc : n ≤ c) (hc : c ≤ 9223372036854775807) (hn1 : n ≤ 1000000) (hs0 : -1000000 ≤ sc) (hs1 : sc ≤ 1000000) (hr : Row w b o ds)
    (hbig : 60 < sc - ((m : Int) - (k : Int)) ∨ (sc - ((m : Int) - (k : Int)) ≤ 60 ∧ 0 ≤ sc - ((m : Int) - (k : Int)) ∧ 60 < (k : Int)) ∨ (sc - ((m : Int) - (k : Int)) < 0 ∧ 60 < (k : Int) + -(sc - ((m : Int) - (k : Int))))) :
    Calls Tryz.prog 74 #[.bool ng, .slice (some ⟨b, o, none⟩) n c, .int .i64 sc] w fun e w' => e = .returned (rV none) ∧ Below w.heap.size w w' := by
  have hb1 : ∀ O, Below w.heap.size w (w.alloc O) := fun O => (Below.refl _ _).alloc (Nat.le_refl _) _
  have hkm : k ≤ m := by rw [← hk, ← hm]; exact Dm.tr_le _
  have hr1 := fun O => hr.below (hb1 O)
  have hr2 : ∀ O, Row (w.alloc O) b (o + j) (Dm.tl ds) := by
    intro O
    obtain ⟨j', hj'⟩ := Dm.tl_spec ds
    have e : j' = j := by
      have := congrArg List.length hj'
      simp only [List.length_append, List.length_replicate] at this
      omega
    subst e
    have := (hr1 O).drop j'
    rw [hj'] at this
    simpa using this
  have HR := hide hr1
  have HR2 := hide hr2
  have HN := hide hn
  have HJ := hide hj
  have HM := hide hm
  have HK := hide hk
  have b1 : (m : Int) ≤ 1000000 := by omega
  have b2 : (k : Int) ≤ (m : Int) := by omega
  have b3 : ((m : Int) == 0) = false := beq_eq_false_iff_ne.2 (by omega)
  clear hr hr1 hr2 hn hj hm hk
  have hg : 60 < sc - ((m : Int) - (k : Int)) ∨ (sc - ((m : Int) - (k : Int)) ≤ 60 ∧ 60 < (k : Int) + max 0 (-(sc - ((m : Int) - (k : Int))))) := by omega
  clear hbig
  rcases hg with g | ⟨g1, g2⟩
  all_goals
    go_enter Tryz.func74, Tryz.ntmps74
    go_wp2_with (first | (go_at_call 65; refine (trimL_some b o j m n c ds _ (unhide HN) (unhide HJ) (unhide HM) h0 hnc hc (by exact unhide HR _)).mono ?_; rintro e w' ⟨rfl, rfl⟩) | (go_at_call 101; refine (trimR_some b (o + j) m (c - j) k (Dm.tl ds) _ (unhide HM) h0 (unhide HK) (by have := unhide HJ; omega) (by omega) (by exact unhide HR2 _)).mono ?_; rintro e w' ⟨rfl, rfl⟩))
    exact bodyPost_ret (v := rV none) (by simp [results, Tryz.results74, go_sem, rV, zV]) rfl ⟨rfl, hb1 _⟩

set_option maxRecDepth 100000 in
set_option maxHeartbeats 1000000 in
theorem fit_ok (ng : Bool) (b o j m k n c : Nat) (ds : List UInt8) (sc : Int) (w : World) (hn : ds.length = n) (hj : n = j + m) (hm : (Dm.tl ds).length = m) (h0 : 0 < m) (hk : (Dm.tr (Dm.tl ds)).length = k) (hnc : n ≤ c) (hc : c ≤ 9223372036854775807) (hn1 : n ≤ 1000000) (hs0 : -1000000 ≤ sc) (hs1 : sc ≤ 1000000) (hr : Row w b o ds)
    (g1 : sc - ((m : Int) - (k : Int)) ≤ 60) (g2 : (k : Int) + max 0 (-(sc - ((m : Int) - (k : Int)))) ≤ 60) :
    Calls Tryz.prog 74 #[.bool ng, .slice (some ⟨b, o, none⟩) n c, .int .i64 sc] w fun e w' => e = .returned (.tuple #[.agg #[.bool ng, .string ⟨(Dm.tr (Dm.tl ds) ++ List.replicate (max 0 (-(sc - ((m : Int) - (k : Int))))).toNat 48).toArray⟩, .int .i64 (max 0 (sc - ((m : Int) - (k : Int))))], .int .i64 0]) ∧ Below w.heap.size w w' := by
  have hb1 : ∀ O, Below w.heap.size w (w.alloc O) := fun O => (Below.refl _ _).alloc (Nat.le_refl _) _
  have hkm : k ≤ m := by rw [← hk, ← hm]; exact Dm.tr_le _
  have hr1 := fun O => hr.below (hb1 O)
  have hr2 : ∀ O, Row (w.alloc O) b (o + j) (Dm.tl ds) := by
    intro O
    obtain ⟨j', hj'⟩ := Dm.tl_spec ds
    have e : j' = j := by
      have := congrArg List.length hj'
      simp only [List.length_append, List.length_replicate] at this
      omega
    subst e
    have := (hr1 O).drop j'
    rw [hj'] at this
    simpa using this
  have hr3 : ∀ O, Row (w.alloc O) b (o + j) (Dm.tr (Dm.tl ds)) := by
    intro O
    have := (hr2 O).take k
    rw [Dm.tr_spec (Dm.tl ds), ← hk, List.take_left'] at this
    · exact this
    · rfl
  have HR := hide hr1
  have HR2 := hide hr2
  have HR3 := hide hr3
  have HN := hide hn
  have HJ := hide hj
  have HM := hide hm
  have HK := hide hk
  have b1 : (m : Int) ≤ 1000000 := by omega
  have b2 : (k : Int) ≤ (m : Int) := by omega
  have b3 : ((m : Int) == 0) = false := beq_eq_false_iff_ne.2 (by omega)
  clear hr hr1 hr2 hr3 hn hj hm hk
  have conv : ∀ O, ∀ W, Below (w.heap.size + 1) (w.alloc O) W → (convert 38 9 (.slice (some ⟨b, o + j, none⟩) k (c - j))).run Tryz.prog W = .ok (.string ⟨(Dm.tr (Dm.tl ds)).toArray⟩) W := fun O W hB =>
    conv_row b (o + j) k (c - j) _ W (unhide HK) ((unhide HR3 O).below (by simpa using hB))
  have CV := hide conv
  have hkl : (Dm.tr (Dm.tl ds)).length ≤ 1000000 := by have := unhide HK; omega
  clear conv
  go_enter Tryz.func74, Tryz.ntmps74
  go_upto_region 9 with (first | (go_at_call 65; refine (trimL_some b o j m n c ds _ (unhide HN) (unhide HJ) (unhide HM) h0 hnc hc (by exact unhide HR _)).mono ?_; rintro e w' ⟨rfl, rfl⟩) | (go_at_call 101; refine (trimR_some b (o + j) m (c - j) k (Dm.tl ds) _ (unhide HM) h0 (unhide HK) (by have := unhide HJ; omega) (by omega) (by exact unhide HR2 _)).mono ?_; rintro e w' ⟨rfl, rfl⟩))
  have hz : (w.alloc (.cells #[.bool false, .string ⟨#[]⟩, .int .i64 0] 23)).heap.size = w.heap.size + 1 := by simp
  have c0 := unhide CV _ _ (Below.refl _ (w.alloc (.cells #[.bool false, .string ⟨#[]⟩, .int .i64 0] 23)))
  have c1 := unhide CV _ _ (Below.refl _ (w.alloc (.cells #[.bool false, .string ⟨#[]⟩, .int .i64 0] 23))).drew
  have c2 := unhide CV _ _ (Below.refl _ (w.alloc (.cells #[.bool false, .string ⟨#[]⟩, .int .i64 0] 23))).drew.drew
  go_cut [10] from 39 to 43 (fun s10 wx => s10 = .string ⟨(Dm.tr (Dm.tl ds) ++ List.replicate (max 0 (-(sc - ((m : Int) - (k : Int))))).toNat 48).toArray⟩ ∧ Below (w.heap.size + 1) (w.alloc (.cells #[.bool false, .string ⟨#[]⟩, .int .i64 0] 23)) wx)
  case first =>
    go_region_with (go_at_call 33; refine (repeat_any _ _ (by omega) (by omega)).mono ?_; rintro e w' ⟨rfl, hbw⟩; have hB3 : Below (w.heap.size + 1) (w.alloc (.cells #[.bool false, .string ⟨#[]⟩, .int .i64 0] 23)) w' := (by first | exact (Below.refl _ _).trans (hbw.mono (by simp)) | exact ((Below.refl _ _).drew).trans (hbw.mono (by simp)) | exact ((Below.refl _ _).drew.drew).trans (hbw.mono (by simp))); have c3 := unhide CV _ _ hB3)
    all_goals go_wp2_with fail
    all_goals go_meet
    all_goals exact ⟨congrArg Value.string (str_join _ _), by first | exact hB3 | exact hB3.drew | exact hB3.drew.drew⟩
  case rest =>
  obtain ⟨rfl, hB⟩ := hcut
  have k0 : wc.cell? ⟨w.heap.size, 0, none⟩ = some (.bool false) := by rw [hB.cell (p := ⟨w.heap.size, 0, none⟩) (by simp)]; go_simp
  have k1 : wc.cell? ⟨w.heap.size, 1, none⟩ = some (.string ⟨#[]⟩) := by rw [hB.cell (p := ⟨w.heap.size, 1, none⟩) (by simp)]; go_simp
  have k2 : wc.cell? ⟨w.heap.size, 2, none⟩ = some (.int .i64 0) := by rw [hB.cell (p := ⟨w.heap.size, 2, none⟩) (by simp)]; go_simp
  have f0 : wc.frozen? ⟨w.heap.size, 0, none⟩ = false := by rw [hB.frozen (p := ⟨w.heap.size, 0, none⟩) (by simp)]; go_simp
  have f1 : wc.frozen? ⟨w.heap.size, 1, none⟩ = false := by rw [hB.frozen (p := ⟨w.heap.size, 1, none⟩) (by simp)]; go_simp
  have f2 : wc.frozen? ⟨w.heap.size, 2, none⟩ = false := by rw [hB.frozen (p := ⟨w.heap.size, 2, none⟩) (by simp)]; go_simp
  go_wp2
  refine bodyPost_ret (v := .tuple #[.agg #[.bool ng, .string ⟨(Dm.tr (Dm.tl ds) ++ List.replicate (max 0 (-(sc - ((m : Int) - (k : Int))))).toNat 48).toArray⟩, .int .i64 (max 0 (sc - ((m : Int) - (k : Int))))], .int .i64 0]) ?_ rfl ⟨rfl, ?_⟩
  · simp [results, Tryz.results74, go_sem, k0, k1, k2]
  · exact ((((hb1 _).trans (hB.mono (by omega))).setCell (by simp) _).setCell (by simp) _).setCell (by simp) _

theorem fit_any (ng : Bool) (b o n c : Nat) (ds : List UInt8) (sc : Int) (w : World) (hn : ds.length = n) (h0 : 0 < n) (hnc : n ≤ c) (hc : c ≤ 9223372036854775807) (hn1 : n ≤ 1000000) (hs0 : -1000000 ≤ sc) (hs1 : sc ≤ 1000000) (hr : Row w b o ds) :
    Calls Tryz.prog 74 #[.bool ng, .slice (some ⟨b, o, none⟩) n c, .int .i64 sc] w fun e w' => e = .returned (rV (Dm.fitL ng ds sc)) ∧ Below w.heap.size w w' := by
  by_cases h : Dm.tl ds = []
  · have e : Dm.fitL ng ds sc = some ⟨false, [48], 0⟩ := by unfold Dm.fitL; rw [if_pos h]
    rw [e]; exact fit_zero ng b o n c ds sc w hn h0 hnc hc hr h
  · have hm0 : 0 < (Dm.tl ds).length := by
      cases hd : Dm.tl ds with
      | nil => exact absurd hd h
      | cons => simp
    have hml : (Dm.tl ds).length ≤ n := by
      obtain ⟨j, hj⟩ := Dm.tl_spec ds
      have := congrArg List.length hj
      simp only [List.length_append, List.length_replicate] at this
      omega
    have hkm := Dm.tr_le (Dm.tl ds)
    have ec : (((Dm.tl ds).length - (Dm.tr (Dm.tl ds)).length : Nat) : Int) = ((Dm.tl ds).length : Int) - ((Dm.tr (Dm.tl ds)).length : Int) := by omega
    unfold Dm.fitL
    rw [if_neg h, ec]
    by_cases g : 60 < sc - (((Dm.tl ds).length : Int) - ((Dm.tr (Dm.tl ds)).length : Int)) ∨ 60 < ((Dm.tr (Dm.tl ds)).length : Int) + (-(sc - (((Dm.tl ds).length : Int) - ((Dm.tr (Dm.tl ds)).length : Int)))).toNat
    · rw [if_pos g]
      exact fit_big ng b o (n - (Dm.tl ds).length) (Dm.tl ds).length (Dm.tr (Dm.tl ds)).length n c ds sc w hn (by omega) rfl hm0 rfl hnc hc hn1 hs0 hs1 hr (by omega)
    · rw [if_neg g]
      have := fit_ok ng b o (n - (Dm.tl ds).length) (Dm.tl ds).length (Dm.tr (Dm.tl ds)).length n c ds sc w hn (by omega) rfl hm0 rfl hnc hc hn1 hs0 hs1 hr (by omega) (by omega)
      have e1 : (max 0 (-(sc - (((Dm.tl ds).length : Int) - ((Dm.tr (Dm.tl ds)).length : Int))))).toNat = (-(sc - (((Dm.tl ds).length : Int) - ((Dm.tr (Dm.tl ds)).length : Int)))).toNat := by omega
      have e2 : max 0 (sc - (((Dm.tl ds).length : Int) - ((Dm.tr (Dm.tl ds)).length : Int))) = ((sc - (((Dm.tl ds).length : Int) - ((Dm.tr (Dm.tl ds)).length : Int))).toNat : Int) := by omega
      rw [e1, e2] at this
      exact this
end Go.Proofs.YtmlmplmghlbdmaaGreatDoor
