/- What is proved here: what digitsAt and Mod of package divide do, walked; conditions: decimals that may be, the second is not 0, and the table of powers of ten lies in the world. -/
import Derived.Test.YtmlmplmghlbdmaaGreatDoorDe
import Derived.Test.YtmlmplmghlbdmaaGreatDoorDf
import Derived.Deep.RegionHeld3
namespace Go.Proofs.YtmlmplmghlbdmaaGreatDoor
open Go.RowKit
set_option linter.unusedVariables false
set_option linter.unusedSimpArgs false

theorem Box3.cells {w0 w : World} {x y z : Value} (h : Box3 w0 x y z w) : w.cell? ⟨w0.heap.size, 0, none⟩ = some x ∧ w.cell? ⟨w0.heap.size, 1, none⟩ = some y ∧ w.cell? ⟨w0.heap.size, 2, none⟩ = some z := h.2.2
theorem Box3.cells_d {w0 w : World} {x y z : Value} (h : Box3 w0 x y z w) : w.drew.cell? ⟨w0.heap.size, 0, none⟩ = some x ∧ w.drew.cell? ⟨w0.heap.size, 1, none⟩ = some y ∧ w.drew.cell? ⟨w0.heap.size, 2, none⟩ = some z := h.drew.2.2

theorem repeat_o (c : Int) (k : Nat) (zs : List UInt8) (w : World) (h0 : c = (k : Int)) (h1 : k ≤ 1000) (hz : zs = List.replicate k 48) :
    Calls Tryz.prog 33 #[.string ⟨#[48]⟩, .int .i64 c] w fun e w' => e = .returned (.string ⟨zs.toArray⟩) ∧ Below w.heap.size w w' := by
  rw [hz]; exact repeat_b c k w h0 h1

set_option maxRecDepth 100000 in
set_option maxHeartbeats 2000000 in
theorem digitsAt_any (x : Bool) (l : List UInt8) (j S k : Nat) (w : World) (hl : l.length ≤ 60) (hS : S = j + k) (hS1 : S ≤ 60) :
    Calls Tryz.prog 44 #[.agg #[.bool x, .string ⟨l.toArray⟩, .int .i64 (j : Int)], .int .i64 (S : Int)] w fun e w' => e = .returned (.string ⟨(l ++ List.replicate k 48).toArray⟩) ∧ Below w.heap.size w w' := by
  have hB := Box3.start w (.bool x) (.string ⟨l.toArray⟩) (.int .i64 (j : Int)) 23
  have hw : IntKind.i64.wrap ((S : Int) - (j : Int)) = (S : Int) - (j : Int) := wrap_id (by omega) (by omega)
  have hsk : (S : Int) - (j : Int) = (k : Int) := by omega
  have hk60 : k ≤ 60 := by omega
  have HSK := hide hsk
  clear hsk hS
  obtain ⟨zs, hz⟩ : ∃ zs : List UInt8, zs = List.replicate k 48 := ⟨_, rfl⟩
  have hzl : zs.length ≤ 60 := by rw [hz, List.length_replicate]; omega
  rw [← hz]
  have HZ := hide hz
  clear hz
  obtain ⟨_, _, a0, a1, a2⟩ := id hB
  go_enter Tryz.func44, Tryz.ntmps44
  go_wp2_with fail
  obtain ⟨b0, b1, b2⟩ := Box3.cells_d hB
  obtain ⟨b3, b4, b5⟩ := Box3.cells_d hB.drew
  go_region_with (first | (go_at_call 33; refine (repeat_o ((S : Int) - (j : Int)) k zs _ (unhide HSK) (by omega) (unhide HZ)).mono ?_; rintro e w' ⟨rfl, hbw⟩; replace hB := Box3.next (by first | exact hB | exact hB.drew | exact hB.drew.drew) hbw; clear hbw; obtain ⟨cd0, cd1, cd2⟩ := Box3.cells hB; obtain ⟨ce0, ce1, ce2⟩ := Box3.cells_d hB))
  all_goals
    go_wp2
    go_ret
    exact ⟨ret_s (by first | exact str_join_o l zs | exact mk_join l zs), hB.1⟩
end Go.Proofs.YtmlmplmghlbdmaaGreatDoor
