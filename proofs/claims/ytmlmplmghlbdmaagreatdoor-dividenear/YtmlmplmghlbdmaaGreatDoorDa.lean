/- What is proved here: what bytes.Compare does with two rows of bytes, walked; and the order of rows of digits; conditions: as each theorem states. -/
import Derived.Test.YtmlmplmghlbdmaaGreatDoorRb
import Derived.Test.YtmlmplmghlbdmaaGreatDoorWa
import Derived.Test.YtmlmplmghlbdmaaGreatDoorMh
import Derived.Test.YtmlmplmghlbdmaaGreatDoorMd
import Derived.Lib.BytesEntry
import Derived.Lib.Bytealg
namespace Go.Proofs.YtmlmplmghlbdmaaGreatDoor
open Go.RowKit
set_option linter.unusedVariables false
set_option linter.unusedSimpArgs false

theorem ints_bytes (R : List UInt8) : Lib.bytesOf (R.map fun x => (x.toNat : Int)) = R := by
  unfold Lib.bytesOf
  rw [List.map_map]
  have : (fun n => UInt8.ofNat n) ∘ Int.toNat ∘ (fun x : UInt8 => (x.toNat : Int)) = id := by funext x; simp
  conv => rhs; rw [← List.map_id R]
  congr 1
/-- The bytes of a row, as the entry reads them. -/
theorem row_bytes (b o n c : Nat) (R : List UInt8) (w : World) (hn : R.length = n) (hr : Row w b o R) :
    (Extern.Bytes.bytesOf (.slice (some ⟨b, o, none⟩) n c)).run Tryz.prog w = .ok ⟨R.toArray⟩ w := by
  have hl := Lib.run_loadBytesX (P := Tryz.prog) w (R.map fun x => (x.toNat : Int)) ⟨b, o, none⟩ .empty (fun j x hj => by
    have hjl : j < (R.map fun x => (x.toNat : Int)).length := (List.getElem?_eq_some_iff.1 hj).1
    rw [List.length_map] at hjl
    have e : (⟨b, o, none⟩ : Addr).add j = ⟨b, o + j, none⟩ := by unfold Addr.add; split <;> simp_all
    rw [e, hr j hjl]
    rw [List.getElem?_map, List.getElem?_eq_getElem hjl] at hj
    simp only [Option.map_some, Option.some.injEq] at hj
    rw [← hj]
    simp [List.getD, List.getElem?_eq_getElem hjl])
  rw [List.length_map, hn, ints_bytes] at hl
  have he : (⟨ByteArray.empty.data ++ R.toArray⟩ : ByteArray) = ⟨R.toArray⟩ := by
    apply ByteArray.ext
    show (#[] : Array UInt8) ++ R.toArray = R.toArray
    simp
  rw [he] at hl
  simp only [Extern.Bytes.bytesOf]
  exact hl
theorem run_compareRows (b o n c b2 o2 n2 c2 : Nat) (R D : List UInt8) (w : World) (hn : R.length = n) (hn2 : D.length = n2) (hr : Row w b o R) (hd : Row w b2 o2 D) :
    (Extern.BytealgCompare.compare #[.slice (some ⟨b, o, none⟩) n c, .slice (some ⟨b2, o2, none⟩) n2 c2]).run Tryz.prog w = .ok (.int .i64 (Lib.compareBytes R D)) w := by
  change Sem.run Tryz.prog (do pure (goInt (Extern.BytealgCompare.cmp (← Extern.Bytes.bytesOf (.slice (some ⟨b, o, none⟩) n c)) (← Extern.Bytes.bytesOf (.slice (some ⟨b2, o2, none⟩) n2 c2))))) w = _
  simp only [Sem.run_bind, Sem.run_pure, row_bytes b o n c R w hn hr, row_bytes b2 o2 n2 c2 D w hn2 hd, Result.andThen]
  rw [Lib.cmp_eq]
  rfl
set_option maxRecDepth 100000 in
set_option maxHeartbeats 1000000 in
theorem bcompare_any (b o n c b2 o2 n2 c2 : Nat) (R D : List UInt8) (w : World) (hn : R.length = n) (hn2 : D.length = n2) (hr : Row w b o R) (hd : Row w b2 o2 D) :
    Calls Tryz.prog 57 #[.slice (some ⟨b, o, none⟩) n c, .slice (some ⟨b2, o2, none⟩) n2 c2] w fun e w' => e = .returned (.int .i64 (Lib.compareBytes R D)) ∧ w' = w := by
  have hrun := run_compareRows b o n c b2 o2 n2 c2 R D w hn hn2 hr hd
  have HR := hide hr
  have HD := hide hd
  have HRUN := hide hrun
  clear hr hd hrun
  go_enter Tryz.func57, Tryz.ntmps57
  go_wp2_with fail
  rw [run_callFunc_extern Tryz.func78 (by kernel_rfl) (by kernel_rfl) (by kernel_rfl) (e := Extern.BytealgCompare.compare) (by kernel_rfl), unhide HRUN]
  simp only [Result.andThen]
  rw [Oper.upon_value]
  go_wp2
  go_ret
  exact ⟨rfl, rfl⟩
end Go.Proofs.YtmlmplmghlbdmaaGreatDoor
