/- What is proved here: what Cut and escape of package quote do, walked; conditions: as each theorem states. What is proved here: what Quote of package quote does, walked; conditions: as each theorem states. What is proved here: what worthOf, unit and numbered of package quote do, walked; conditions: as each theorem states. What is proved here: what numbered of package quote does, walked; conditions: as each theorem states. What is proved here: what escaped and next of package quote do, walked; conditions: as each theorem states. What is proved here: what Unquote of package quote does, walked; condition: the two tables of unicode/utf8 lie in the world. What is proved here: what the functions of package quote answer, said with letters; shown and few of the laws, walked; condition: the two tables of unicode/utf8 lie in the world. -/
import Derived.Test.YtppkknmgdahniabDoorBc
import Derived.Deep.QuietTactic
import Derived.BigQuiet
import Derived.Test.YtppkknmgdahniabDoorAb
import Derived.OwnWalk
import Derived.Deep.RegionHeld3
namespace Go.Proofs.YtppkknmgdahniabDoor.Nq
set_option maxRecDepth 100000
open Go.RowKit
set_option linter.unusedVariables false
set_option linter.unusedSimpArgs false

theorem ext_list (s : ByteArray) (a b : Nat) : s.extract a b = ⟨((s.data.toList.drop a).take (b - a)).toArray⟩ := by
  have h := Lib.extract_data s a b
  cases hx : s.extract a b with
  | mk d =>
    rw [hx] at h
    have : d = ((s.data.toList.drop a).take (b - a)).toArray := by rw [← h]
    rw [this]

set_option maxHeartbeats 4000000 in
set_option maxRecDepth 1000000 in
theorem escape_any (r : Nat) (w : World) (hr : r ≤ 1114111) :
    Calls Tryd.prog 49 #[.int .i32 (r : Int)] w fun e w' => e = .returned (.string ⟨(Qm.esc r).toArray⟩) ∧ Below w.heap.size w w' := by
  by_cases h34 : r = 34
  · subst h34
    go_enter Tryd.func49, Tryd.ntmps49
    go_wp2
    go_ret
    exact ⟨rfl, Below.refl _ _⟩
  by_cases h92 : r = 92
  · subst h92
    go_enter Tryd.func49, Tryd.ntmps49
    go_wp2
    go_ret
    exact ⟨rfl, Below.refl _ _⟩
  by_cases h10 : r = 10
  · subst h10
    go_enter Tryd.func49, Tryd.ntmps49
    go_wp2
    go_ret
    exact ⟨rfl, Below.refl _ _⟩
  by_cases h13 : r = 13
  · subst h13
    go_enter Tryd.func49, Tryd.ntmps49
    go_wp2
    go_ret
    exact ⟨rfl, Below.refl _ _⟩
  by_cases h9 : r = 9
  · subst h9
    go_enter Tryd.func49, Tryd.ntmps49
    go_wp2
    go_ret
    exact ⟨rfl, Below.refl _ _⟩
  by_cases hx : r < 32 ∨ r = 127
  · have hc : r = 0 ∨ r = 1 ∨ r = 2 ∨ r = 3 ∨ r = 4 ∨ r = 5 ∨ r = 6 ∨ r = 7 ∨ r = 8 ∨ r = 11 ∨ r = 12 ∨ r = 14 ∨ r = 15 ∨ r = 16 ∨ r = 17 ∨ r = 18 ∨ r = 19 ∨ r = 20 ∨ r = 21 ∨ r = 22 ∨ r = 23 ∨ r = 24 ∨ r = 25 ∨ r = 26 ∨ r = 27 ∨ r = 28 ∨ r = 29 ∨ r = 30 ∨ r = 31 ∨ r = 127 := by omega
    rcases hc with rfl | rfl | rfl | rfl | rfl | rfl | rfl | rfl | rfl | rfl | rfl | rfl | rfl | rfl | rfl | rfl | rfl | rfl | rfl | rfl | rfl | rfl | rfl | rfl | rfl | rfl | rfl | rfl | rfl | rfl
    · have kb : bits BinOp.and IntKind.i32 0 15 = 0 := by decide
      have k0 : Utf8.encode (((({ data := #[48, 49, 50, 51, 52, 53, 54, 55, 56, 57, 97, 98, 99, 100, 101, 102] } : ByteArray)[0]).toNat : Nat) : Int) = ⟨#[48]⟩ := by decide
      go_enter Tryd.func49, Tryd.ntmps49
      go_wp2
      go_quiet (fail)
      go_wp2
      go_ret
      exact ⟨rfl, Go.Proofs.below_drewNv (Below.refl _ _) _⟩
    · have kb : bits BinOp.and IntKind.i32 1 15 = 1 := by decide
      have k0 : Utf8.encode (((({ data := #[48, 49, 50, 51, 52, 53, 54, 55, 56, 57, 97, 98, 99, 100, 101, 102] } : ByteArray)[0]).toNat : Nat) : Int) = ⟨#[48]⟩ := by decide
      have k1 : Utf8.encode (((({ data := #[48, 49, 50, 51, 52, 53, 54, 55, 56, 57, 97, 98, 99, 100, 101, 102] } : ByteArray)[1]).toNat : Nat) : Int) = ⟨#[49]⟩ := by decide
      go_enter Tryd.func49, Tryd.ntmps49
      go_wp2
      go_quiet (fail)
      go_wp2
      go_ret
      exact ⟨rfl, Go.Proofs.below_drewNv (Below.refl _ _) _⟩
    · have kb : bits BinOp.and IntKind.i32 2 15 = 2 := by decide
      have k0 : Utf8.encode (((({ data := #[48, 49, 50, 51, 52, 53, 54, 55, 56, 57, 97, 98, 99, 100, 101, 102] } : ByteArray)[0]).toNat : Nat) : Int) = ⟨#[48]⟩ := by decide
      have k2 : Utf8.encode (((({ data := #[48, 49, 50, 51, 52, 53, 54, 55, 56, 57, 97, 98, 99, 100, 101, 102] } : ByteArray)[2]).toNat : Nat) : Int) = ⟨#[50]⟩ := by decide
      go_enter Tryd.func49, Tryd.ntmps49
      go_wp2
      go_quiet (fail)
      go_wp2
      go_ret
      exact ⟨rfl, Go.Proofs.below_drewNv (Below.refl _ _) _⟩
    · have kb : bits BinOp.and IntKind.i32 3 15 = 3 := by decide
      have k0 : Utf8.encode (((({ data := #[48, 49, 50, 51, 52, 53, 54, 55, 56, 57, 97, 98, 99, 100, 101, 102] } : ByteArray)[0]).toNat : Nat) : Int) = ⟨#[48]⟩ := by decide
      have k3 : Utf8.encode (((({ data := #[48, 49, 50, 51, 52, 53, 54, 55, 56, 57, 97, 98, 99, 100, 101, 102] } : ByteArray)[3]).toNat : Nat) : Int) = ⟨#[51]⟩ := by decide
      go_enter Tryd.func49, Tryd.ntmps49
      go_wp2
      go_quiet (fail)
      go_wp2
      go_ret
      exact ⟨rfl, Go.Proofs.below_drewNv (Below.refl _ _) _⟩
    · have kb : bits BinOp.and IntKind.i32 4 15 = 4 := by decide
      have k0 : Utf8.encode (((({ data := #[48, 49, 50, 51, 52, 53, 54, 55, 56, 57, 97, 98, 99, 100, 101, 102] } : ByteArray)[0]).toNat : Nat) : Int) = ⟨#[48]⟩ := by decide
      have k4 : Utf8.encode (((({ data := #[48, 49, 50, 51, 52, 53, 54, 55, 56, 57, 97, 98, 99, 100, 101, 102] } : ByteArray)[4]).toNat : Nat) : Int) = ⟨#[52]⟩ := by decide
      go_enter Tryd.func49, Tryd.ntmps49
      go_wp2
      go_quiet (fail)
      go_wp2
      go_ret
      exact ⟨rfl, Go.Proofs.below_drewNv (Below.refl _ _) _⟩
    · have kb : bits BinOp.and IntKind.i32 5 15 = 5 := by decide
      have k0 : Utf8.encode (((({ data := #[48, 49, 50, 51, 52, 53, 54, 55, 56, 57, 97, 98, 99, 100, 101, 102] } : ByteArray)[0]).toNat : Nat) : Int) = ⟨#[48]⟩ := by decide
      have k5 : Utf8.encode (((({ data := #[48, 49, 50, 51, 52, 53, 54, 55, 56, 57, 97, 98, 99, 100, 101, 102] } : ByteArray)[5]).toNat : Nat) : Int) = ⟨#[53]⟩ := by decide
      go_enter Tryd.func49, Tryd.ntmps49
      go_wp2
      go_quiet (fail)
      go_wp2
      go_ret
      exact ⟨rfl, Go.Proofs.below_drewNv (Below.refl _ _) _⟩
    · have kb : bits BinOp.and IntKind.i32 6 15 = 6 := by decide
      have k0 : Utf8.encode (((({ data := #[48, 49, 50, 51, 52, 53, 54, 55, 56, 57, 97, 98, 99, 100, 101, 102] } : ByteArray)[0]).toNat : Nat) : Int) = ⟨#[48]⟩ := by decide
      have k6 : Utf8.encode (((({ data := #[48, 49, 50, 51, 52, 53, 54, 55, 56, 57, 97, 98, 99, 100, 101, 102] } : ByteArray)[6]).toNat : Nat) : Int) = ⟨#[54]⟩ := by decide
      go_enter Tryd.func49, Tryd.ntmps49
      go_wp2
      go_quiet (fail)
      go_wp2
      go_ret
      exact ⟨rfl, Go.Proofs.below_drewNv (Below.refl _ _) _⟩
    · have kb : bits BinOp.and IntKind.i32 7 15 = 7 := by decide
      have k0 : Utf8.encode (((({ data := #[48, 49, 50, 51, 52, 53, 54, 55, 56, 57, 97, 98, 99, 100, 101, 102] } : ByteArray)[0]).toNat : Nat) : Int) = ⟨#[48]⟩ := by decide
      have k7 : Utf8.encode (((({ data := #[48, 49, 50, 51, 52, 53, 54, 55, 56, 57, 97, 98, 99, 100, 101, 102] } : ByteArray)[7]).toNat : Nat) : Int) = ⟨#[55]⟩ := by decide
      go_enter Tryd.func49, Tryd.ntmps49
      go_wp2
      go_quiet (fail)
      go_wp2
      go_ret
      exact ⟨rfl, Go.Proofs.below_drewNv (Below.refl _ _) _⟩
    · have kb : bits BinOp.and IntKind.i32 8 15 = 8 := by decide
      have k0 : Utf8.encode (((({ data := #[48, 49, 50, 51, 52, 53, 54, 55, 56, 57, 97, 98, 99, 100, 101, 102] } : ByteArray)[0]).toNat : Nat) : Int) = ⟨#[48]⟩ := by decide
      have k8 : Utf8.encode (((({ data := #[48, 49, 50, 51, 52, 53, 54, 55, 56, 57, 97, 98, 99, 100, 101, 102] } : ByteArray)[8]).toNat : Nat) : Int) = ⟨#[56]⟩ := by decide
      go_enter Tryd.func49, Tryd.ntmps49
      go_wp2
      go_quiet (fail)
      go_wp2
      go_ret
      exact ⟨rfl, Go.Proofs.below_drewNv (Below.refl _ _) _⟩
    · have kb : bits BinOp.and IntKind.i32 11 15 = 11 := by decide
      have k0 : Utf8.encode (((({ data := #[48, 49, 50, 51, 52, 53, 54, 55, 56, 57, 97, 98, 99, 100, 101, 102] } : ByteArray)[0]).toNat : Nat) : Int) = ⟨#[48]⟩ := by decide
      have k11 : Utf8.encode (((({ data := #[48, 49, 50, 51, 52, 53, 54, 55, 56, 57, 97, 98, 99, 100, 101, 102] } : ByteArray)[11]).toNat : Nat) : Int) = ⟨#[98]⟩ := by decide
      go_enter Tryd.func49, Tryd.ntmps49
      go_wp2
      go_quiet (fail)
      go_wp2
      go_ret
      exact ⟨rfl, Go.Proofs.below_drewNv (Below.refl _ _) _⟩
    · have kb : bits BinOp.and IntKind.i32 12 15 = 12 := by decide
      have k0 : Utf8.encode (((({ data := #[48, 49, 50, 51, 52, 53, 54, 55, 56, 57, 97, 98, 99, 100, 101, 102] } : ByteArray)[0]).toNat : Nat) : Int) = ⟨#[48]⟩ := by decide
      have k12 : Utf8.encode (((({ data := #[48, 49, 50, 51, 52, 53, 54, 55, 56, 57, 97, 98, 99, 100, 101, 102] } : ByteArray)[12]).toNat : Nat) : Int) = ⟨#[99]⟩ := by decide
      go_enter Tryd.func49, Tryd.ntmps49
      go_wp2
      go_quiet (fail)
      go_wp2
      go_ret
      exact ⟨rfl, Go.Proofs.below_drewNv (Below.refl _ _) _⟩
    · have kb : bits BinOp.and IntKind.i32 14 15 = 14 := by decide
      have k0 : Utf8.encode (((({ data := #[48, 49, 50, 51, 52, 53, 54, 55, 56, 57, 97, 98, 99, 100, 101, 102] } : ByteArray)[0]).toNat : Nat) : Int) = ⟨#[48]⟩ := by decide
      have k14 : Utf8.encode (((({ data := #[48, 49, 50, 51, 52, 53, 54, 55, 56, 57, 97, 98, 99, 100, 101, 102] } : ByteArray)[14]).toNat : Nat) : Int) = ⟨#[101]⟩ := by decide
      go_enter Tryd.func49, Tryd.ntmps49
      go_wp2
      go_quiet (fail)
      go_wp2
      go_ret
      exact ⟨rfl, Go.Proofs.below_drewNv (Below.refl _ _) _⟩
    · have kb : bits BinOp.and IntKind.i32 15 15 = 15 := by decide
      have k0 : Utf8.encode (((({ data := #[48, 49, 50, 51, 52, 53, 54, 55, 56, 57, 97, 98, 99, 100, 101, 102] } : ByteArray)[0]).toNat : Nat) : Int) = ⟨#[48]⟩ := by decide
      have k15 : Utf8.encode (((({ data := #[48, 49, 50, 51, 52, 53, 54, 55, 56, 57, 97, 98, 99, 100, 101, 102] } : ByteArray)[15]).toNat : Nat) : Int) = ⟨#[102]⟩ := by decide
      go_enter Tryd.func49, Tryd.ntmps49
      go_wp2
      go_quiet (fail)
      go_wp2
      go_ret
      exact ⟨rfl, Go.Proofs.below_drewNv (Below.refl _ _) _⟩
    · have kb : bits BinOp.and IntKind.i32 16 15 = 0 := by decide
      have k0 : Utf8.encode (((({ data := #[48, 49, 50, 51, 52, 53, 54, 55, 56, 57, 97, 98, 99, 100, 101, 102] } : ByteArray)[0]).toNat : Nat) : Int) = ⟨#[48]⟩ := by decide
      have k1 : Utf8.encode (((({ data := #[48, 49, 50, 51, 52, 53, 54, 55, 56, 57, 97, 98, 99, 100, 101, 102] } : ByteArray)[1]).toNat : Nat) : Int) = ⟨#[49]⟩ := by decide
      go_enter Tryd.func49, Tryd.ntmps49
      go_wp2
      go_quiet (fail)
      go_wp2
      go_ret
      exact ⟨rfl, Go.Proofs.below_drewNv (Below.refl _ _) _⟩
    · have kb : bits BinOp.and IntKind.i32 17 15 = 1 := by decide
      have k1 : Utf8.encode (((({ data := #[48, 49, 50, 51, 52, 53, 54, 55, 56, 57, 97, 98, 99, 100, 101, 102] } : ByteArray)[1]).toNat : Nat) : Int) = ⟨#[49]⟩ := by decide
      go_enter Tryd.func49, Tryd.ntmps49
      go_wp2
      go_quiet (fail)
      go_wp2
      go_ret
      exact ⟨rfl, Go.Proofs.below_drewNv (Below.refl _ _) _⟩
    · have kb : bits BinOp.and IntKind.i32 18 15 = 2 := by decide
      have k1 : Utf8.encode (((({ data := #[48, 49, 50, 51, 52, 53, 54, 55, 56, 57, 97, 98, 99, 100, 101, 102] } : ByteArray)[1]).toNat : Nat) : Int) = ⟨#[49]⟩ := by decide
      have k2 : Utf8.encode (((({ data := #[48, 49, 50, 51, 52, 53, 54, 55, 56, 57, 97, 98, 99, 100, 101, 102] } : ByteArray)[2]).toNat : Nat) : Int) = ⟨#[50]⟩ := by decide
      go_enter Tryd.func49, Tryd.ntmps49
      go_wp2
      go_quiet (fail)
      go_wp2
      go_ret
      exact ⟨rfl, Go.Proofs.below_drewNv (Below.refl _ _) _⟩
    · have kb : bits BinOp.and IntKind.i32 19 15 = 3 := by decide
      have k1 : Utf8.encode (((({ data := #[48, 49, 50, 51, 52, 53, 54, 55, 56, 57, 97, 98, 99, 100, 101, 102] } : ByteArray)[1]).toNat : Nat) : Int) = ⟨#[49]⟩ := by decide
      have k3 : Utf8.encode (((({ data := #[48, 49, 50, 51, 52, 53, 54, 55, 56, 57, 97, 98, 99, 100, 101, 102] } : ByteArray)[3]).toNat : Nat) : Int) = ⟨#[51]⟩ := by decide
      go_enter Tryd.func49, Tryd.ntmps49
      go_wp2
      go_quiet (fail)
      go_wp2
      go_ret
      exact ⟨rfl, Go.Proofs.below_drewNv (Below.refl _ _) _⟩
    · have kb : bits BinOp.and IntKind.i32 20 15 = 4 := by decide
      have k1 : Utf8.encode (((({ data := #[48, 49, 50, 51, 52, 53, 54, 55, 56, 57, 97, 98, 99, 100, 101, 102] } : ByteArray)[1]).toNat : Nat) : Int) = ⟨#[49]⟩ := by decide
      have k4 : Utf8.encode (((({ data := #[48, 49, 50, 51, 52, 53, 54, 55, 56, 57, 97, 98, 99, 100, 101, 102] } : ByteArray)[4]).toNat : Nat) : Int) = ⟨#[52]⟩ := by decide
      go_enter Tryd.func49, Tryd.ntmps49
      go_wp2
      go_quiet (fail)
      go_wp2
      go_ret
      exact ⟨rfl, Go.Proofs.below_drewNv (Below.refl _ _) _⟩
    · have kb : bits BinOp.and IntKind.i32 21 15 = 5 := by decide
      have k1 : Utf8.encode (((({ data := #[48, 49, 50, 51, 52, 53, 54, 55, 56, 57, 97, 98, 99, 100, 101, 102] } : ByteArray)[1]).toNat : Nat) : Int) = ⟨#[49]⟩ := by decide
      have k5 : Utf8.encode (((({ data := #[48, 49, 50, 51, 52, 53, 54, 55, 56, 57, 97, 98, 99, 100, 101, 102] } : ByteArray)[5]).toNat : Nat) : Int) = ⟨#[53]⟩ := by decide
      go_enter Tryd.func49, Tryd.ntmps49
      go_wp2
      go_quiet (fail)
      go_wp2
      go_ret
      exact ⟨rfl, Go.Proofs.below_drewNv (Below.refl _ _) _⟩
    · have kb : bits BinOp.and IntKind.i32 22 15 = 6 := by decide
      have k1 : Utf8.encode (((({ data := #[48, 49, 50, 51, 52, 53, 54, 55, 56, 57, 97, 98, 99, 100, 101, 102] } : ByteArray)[1]).toNat : Nat) : Int) = ⟨#[49]⟩ := by decide
      have k6 : Utf8.encode (((({ data := #[48, 49, 50, 51, 52, 53, 54, 55, 56, 57, 97, 98, 99, 100, 101, 102] } : ByteArray)[6]).toNat : Nat) : Int) = ⟨#[54]⟩ := by decide
      go_enter Tryd.func49, Tryd.ntmps49
      go_wp2
      go_quiet (fail)
      go_wp2
      go_ret
      exact ⟨rfl, Go.Proofs.below_drewNv (Below.refl _ _) _⟩
    · have kb : bits BinOp.and IntKind.i32 23 15 = 7 := by decide
      have k1 : Utf8.encode (((({ data := #[48, 49, 50, 51, 52, 53, 54, 55, 56, 57, 97, 98, 99, 100, 101, 102] } : ByteArray)[1]).toNat : Nat) : Int) = ⟨#[49]⟩ := by decide
      have k7 : Utf8.encode (((({ data := #[48, 49, 50, 51, 52, 53, 54, 55, 56, 57, 97, 98, 99, 100, 101, 102] } : ByteArray)[7]).toNat : Nat) : Int) = ⟨#[55]⟩ := by decide
      go_enter Tryd.func49, Tryd.ntmps49
      go_wp2
      go_quiet (fail)
      go_wp2
      go_ret
      exact ⟨rfl, Go.Proofs.below_drewNv (Below.refl _ _) _⟩
    · have kb : bits BinOp.and IntKind.i32 24 15 = 8 := by decide
      have k1 : Utf8.encode (((({ data := #[48, 49, 50, 51, 52, 53, 54, 55, 56, 57, 97, 98, 99, 100, 101, 102] } : ByteArray)[1]).toNat : Nat) : Int) = ⟨#[49]⟩ := by decide
      have k8 : Utf8.encode (((({ data := #[48, 49, 50, 51, 52, 53, 54, 55, 56, 57, 97, 98, 99, 100, 101, 102] } : ByteArray)[8]).toNat : Nat) : Int) = ⟨#[56]⟩ := by decide
      go_enter Tryd.func49, Tryd.ntmps49
      go_wp2
      go_quiet (fail)
      go_wp2
      go_ret
      exact ⟨rfl, Go.Proofs.below_drewNv (Below.refl _ _) _⟩
    · have kb : bits BinOp.and IntKind.i32 25 15 = 9 := by decide
      have k1 : Utf8.encode (((({ data := #[48, 49, 50, 51, 52, 53, 54, 55, 56, 57, 97, 98, 99, 100, 101, 102] } : ByteArray)[1]).toNat : Nat) : Int) = ⟨#[49]⟩ := by decide
      have k9 : Utf8.encode (((({ data := #[48, 49, 50, 51, 52, 53, 54, 55, 56, 57, 97, 98, 99, 100, 101, 102] } : ByteArray)[9]).toNat : Nat) : Int) = ⟨#[57]⟩ := by decide
      go_enter Tryd.func49, Tryd.ntmps49
      go_wp2
      go_quiet (fail)
      go_wp2
      go_ret
      exact ⟨rfl, Go.Proofs.below_drewNv (Below.refl _ _) _⟩
    · have kb : bits BinOp.and IntKind.i32 26 15 = 10 := by decide
      have k1 : Utf8.encode (((({ data := #[48, 49, 50, 51, 52, 53, 54, 55, 56, 57, 97, 98, 99, 100, 101, 102] } : ByteArray)[1]).toNat : Nat) : Int) = ⟨#[49]⟩ := by decide
      have k10 : Utf8.encode (((({ data := #[48, 49, 50, 51, 52, 53, 54, 55, 56, 57, 97, 98, 99, 100, 101, 102] } : ByteArray)[10]).toNat : Nat) : Int) = ⟨#[97]⟩ := by decide
      go_enter Tryd.func49, Tryd.ntmps49
      go_wp2
      go_quiet (fail)
      go_wp2
      go_ret
      exact ⟨rfl, Go.Proofs.below_drewNv (Below.refl _ _) _⟩
    · have kb : bits BinOp.and IntKind.i32 27 15 = 11 := by decide
      have k1 : Utf8.encode (((({ data := #[48, 49, 50, 51, 52, 53, 54, 55, 56, 57, 97, 98, 99, 100, 101, 102] } : ByteArray)[1]).toNat : Nat) : Int) = ⟨#[49]⟩ := by decide
      have k11 : Utf8.encode (((({ data := #[48, 49, 50, 51, 52, 53, 54, 55, 56, 57, 97, 98, 99, 100, 101, 102] } : ByteArray)[11]).toNat : Nat) : Int) = ⟨#[98]⟩ := by decide
      go_enter Tryd.func49, Tryd.ntmps49
      go_wp2
      go_quiet (fail)
      go_wp2
      go_ret
      exact ⟨rfl, Go.Proofs.below_drewNv (Below.refl _ _) _⟩
    · have kb : bits BinOp.and IntKind.i32 28 15 = 12 := by decide
      have k1 : Utf8.encode (((({ data := #[48, 49, 50, 51, 52, 53, 54, 55, 56, 57, 97, 98, 99, 100, 101, 102] } : ByteArray)[1]).toNat : Nat) : Int) = ⟨#[49]⟩ := by decide
      have k12 : Utf8.encode (((({ data := #[48, 49, 50, 51, 52, 53, 54, 55, 56, 57, 97, 98, 99, 100, 101, 102] } : ByteArray)[12]).toNat : Nat) : Int) = ⟨#[99]⟩ := by decide
      go_enter Tryd.func49, Tryd.ntmps49
      go_wp2
      go_quiet (fail)
      go_wp2
      go_ret
      exact ⟨rfl, Go.Proofs.below_drewNv (Below.refl _ _) _⟩
    · have kb : bits BinOp.and IntKind.i32 29 15 = 13 := by decide
      have k1 : Utf8.encode (((({ data := #[48, 49, 50, 51, 52, 53, 54, 55, 56, 57, 97, 98, 99, 100, 101, 102] } : ByteArray)[1]).toNat : Nat) : Int) = ⟨#[49]⟩ := by decide
      have k13 : Utf8.encode (((({ data := #[48, 49, 50, 51, 52, 53, 54, 55, 56, 57, 97, 98, 99, 100, 101, 102] } : ByteArray)[13]).toNat : Nat) : Int) = ⟨#[100]⟩ := by decide
      go_enter Tryd.func49, Tryd.ntmps49
      go_wp2
      go_quiet (fail)
      go_wp2
      go_ret
      exact ⟨rfl, Go.Proofs.below_drewNv (Below.refl _ _) _⟩
    · have kb : bits BinOp.and IntKind.i32 30 15 = 14 := by decide
      have k1 : Utf8.encode (((({ data := #[48, 49, 50, 51, 52, 53, 54, 55, 56, 57, 97, 98, 99, 100, 101, 102] } : ByteArray)[1]).toNat : Nat) : Int) = ⟨#[49]⟩ := by decide
      have k14 : Utf8.encode (((({ data := #[48, 49, 50, 51, 52, 53, 54, 55, 56, 57, 97, 98, 99, 100, 101, 102] } : ByteArray)[14]).toNat : Nat) : Int) = ⟨#[101]⟩ := by decide
      go_enter Tryd.func49, Tryd.ntmps49
      go_wp2
      go_quiet (fail)
      go_wp2
      go_ret
      exact ⟨rfl, Go.Proofs.below_drewNv (Below.refl _ _) _⟩
    · have kb : bits BinOp.and IntKind.i32 31 15 = 15 := by decide
      have k1 : Utf8.encode (((({ data := #[48, 49, 50, 51, 52, 53, 54, 55, 56, 57, 97, 98, 99, 100, 101, 102] } : ByteArray)[1]).toNat : Nat) : Int) = ⟨#[49]⟩ := by decide
      have k15 : Utf8.encode (((({ data := #[48, 49, 50, 51, 52, 53, 54, 55, 56, 57, 97, 98, 99, 100, 101, 102] } : ByteArray)[15]).toNat : Nat) : Int) = ⟨#[102]⟩ := by decide
      go_enter Tryd.func49, Tryd.ntmps49
      go_wp2
      go_quiet (fail)
      go_wp2
      go_ret
      exact ⟨rfl, Go.Proofs.below_drewNv (Below.refl _ _) _⟩
    · have kb : bits BinOp.and IntKind.i32 127 15 = 15 := by decide
      have k7 : Utf8.encode (((({ data := #[48, 49, 50, 51, 52, 53, 54, 55, 56, 57, 97, 98, 99, 100, 101, 102] } : ByteArray)[7]).toNat : Nat) : Int) = ⟨#[55]⟩ := by decide
      have k15 : Utf8.encode (((({ data := #[48, 49, 50, 51, 52, 53, 54, 55, 56, 57, 97, 98, 99, 100, 101, 102] } : ByteArray)[15]).toNat : Nat) : Int) = ⟨#[102]⟩ := by decide
      go_enter Tryd.func49, Tryd.ntmps49
      go_wp2
      go_quiet (fail)
      go_wp2
      go_ret
      exact ⟨rfl, Go.Proofs.below_drewNv (Below.refl _ _) _⟩
  · have he : Qm.esc r = [] := by unfold Qm.esc; simp [h34, h92, h10, h13, h9, hx]
    have n1 : ((r : Int) == 34) = false := by simp; omega
    have n2 : ((r : Int) == 92) = false := by simp; omega
    have n3 : ((r : Int) == 10) = false := by simp; omega
    have n4 : ((r : Int) == 13) = false := by simp; omega
    have n5 : ((r : Int) == 9) = false := by simp; omega
    have n6 : ¬ (r : Int) < 32 := by omega
    have n7 : ((r : Int) == 127) = false := by simp; omega
    rw [he]
    go_enter Tryd.func49, Tryd.ntmps49
    go_wp2
    go_ret
    exact ⟨rfl, Below.refl _ _⟩
end Go.Proofs.YtppkknmgdahniabDoor.Nq

namespace Go.Proofs.YtppkknmgdahniabDoor.Nq
set_option maxRecDepth 100000
open Go.RowKit
set_option linter.unusedVariables false
set_option linter.unusedSimpArgs false

/-- A builder stands as it stood, if nothing that lay has turned. -/
theorem stays {T e : TypeId} {B b : Nat} {bs : List Value} {W W' : World} (h : Lib.IsBuilderF T e B b bs W) (hk : Below W.heap.size W W') : Lib.IsBuilderF T e B b bs W' := by
  have one : ∀ p, Lib.BuilderAtF T e B b p bs W → Lib.BuilderAtF T e B b p bs W' := fun p g => by
    have hlt := g.lt
    obtain ⟨g1, v, g2, g3, g4⟩ := g
    refine ⟨g1, v, ?_, ?_, g4⟩
    · rw [hk.block b hlt]; exact g2
    · exact g3.kept (row := none) ⟨hk.os, hk.tape, hk.output, hk.size, fun k hl _ => hk.block k hl⟩ (Classical.em _)
  rcases h with h | h
  · exact .inl (one _ h)
  · exact .inr (one _ h)
theorem sign_le (l : List UInt8) (hne : l ≠ []) : (Qm.sign l).length ≤ 6 * (Lib.decodeL l).2 := by
  have h1 := Lib.decodeL_width l
  unfold Qm.sign
  split
  · rw [Qm.piece_len l hne]; omega
  · rename_i h
    have := Qm.esc_length _ h
    omega
theorem quo_le (l : List UInt8) : (Qm.quo l).length ≤ 6 * l.length := by
  refine Qm.runes (P := fun l => (Qm.quo l).length ≤ 6 * l.length) (by simp [Qm.quo_nil]) ?_ l
  intro l hne ih
  have h1 := sign_le l hne
  have h2 := Lib.decodeL_le l hne
  show (Qm.quo l).length ≤ 6 * l.length
  rw [List.length_drop] at ih
  rw [Qm.quo_step l hne, List.length_append]
  omega
theorem drop_take_more (l : List UInt8) (a p k : Nat) (h : a ≤ p) : (l.drop a).take (p + k - a) = (l.drop a).take (p - a) ++ (l.drop p).take k := by
  rw [show p + k - a = (p - a) + k by omega, List.take_add, List.drop_drop, show a + (p - a) = p by omega]
theorem width_one (l : List UInt8) (h : (Lib.decodeL l).1 < 128) : (Lib.decodeL l).2 = 1 := by
  rw [Lib.decodeL_N] at h ⊢
  rcases Lib.decodeN_shape l.length (l.getD 0 0).toNat (l.getD 1 0).toNat (l.getD 2 0).toNat (l.getD 3 0).toNat with ⟨c, e⟩ | ⟨c1, c2, c3, cv, e⟩ | ⟨c1, c2, c3, c4, cv, cs, e⟩ | ⟨c1, c2, c3, c4, c5, cv, cw, e⟩ | e
  all_goals first | (rw [e]; done) | (rw [e] at h; dsimp only at h; omega)

set_option maxHeartbeats 4000000 in
set_option maxRecDepth 1000000 in
theorem quote_any (s : ByteArray) (w : World) (hs : s.size ≤ 1099511627776) :
    Calls Tryd.prog 33 #[.string s] w fun e w' => e = .returned (.string ⟨(Qm.quoteL s.data.toList).toArray⟩) ∧ Below w.heap.size w w' := by
  have hql := quo_le s.data.toList
  rw [← Lib.size_eq] at hql
  go_enter Tryd.func33, Tryd.ntmps33
  go_wp2_with (go_at_call 48; refine (Tryd.Builder_WriteByte_k w.heap.size w.heap.size [] 34 _ (Lib.IsBuilderF.of (Lib.fresh_isBuilder 43 5 w)) (by simp) (by simp)).mono ?_)
  rintro e W0 ⟨rfl, i0, b0, k0⟩
  have hbw0 : Below w.heap.size w W0 := ((Below.refl _ w).alloc (Nat.le_refl _) _).trans b0
  have hI0 : Lib.IsBuilderF 43 5 w.heap.size w.heap.size (Lib.byteCells [34]) W0 := Or.inr i0
  have hlt0 : w.heap.size < W0.heap.size := i0.lt
  clear i0 b0 k0
  go_wp2
  go_loopw [4, 5, 6, 7] (fun x _ _ _ wr => ∃ (wn pos : Nat) (acc : List UInt8), x = .int .i64 (wn : Int) ∧ Lib.IsBuilderF 43 5 w.heap.size w.heap.size (Lib.byteCells acc) wr ∧ wr.heap[W0.heap.size]? = some (.stringIter s pos) ∧ Below w.heap.size w wr ∧
    wn ≤ pos ∧ pos ≤ s.size ∧ acc ++ (s.data.toList.drop wn).take (pos - wn) ++ Qm.quo (s.data.toList.drop pos) = 34 :: Qm.quo s.data.toList) (fun _ _ _ _ wr => s.size - wr.iterPos W0.heap.size)
  case atStart =>
    refine ⟨0, 0, [34], rfl, hI0.alloc _, ?_, hbw0.alloc (by omega) _, by omega, by omega, by simp⟩
    have := World.iter_heap W0 s 0
    simpa using this
  case round =>
    obtain ⟨wn, pos, acc, rfl, hI, hit, hbw, hwp, hps, hacc⟩ := hrel
    have hsz : W0.heap.size < wr.heap.size := (Array.getElem?_eq_some_iff.1 hit).1
    have hal : acc.length ≤ 1 + 6 * s.size := by
      have := congrArg List.length hacc
      simp only [List.length_append, List.length_cons] at this
      omega
    by_cases hp : pos < s.size
    · have hnx : ∀ ty, (Instr.next (.pointer (some ⟨W0.heap.size, 0, none⟩)) true ty).run Tryd.prog wr = _ := fun ty => Lib.run_next_any_at wr W0.heap.size s pos ty hit hp
      obtain ⟨hne, hd, hdd, hw1, hw2⟩ := at_step s pos hp
      have hst := Qm.quo_step _ hne
      have hsc := Qm.decode_sc (s.data.toList.drop pos)
      rw [hd] at hsc
      have hr1 : (Utf8.decode s pos).1 ≤ 1114111 := hsc.1
      rw [hd, hdd] at hst
      have hI2 := hI.iterAt hit (pos + (Utf8.decode s pos).2)
      have hit2 := Lib.iterAt_heap wr W0.heap.size s pos (pos + (Utf8.decode s pos).2) hit
      have hbw2 := Lib.below_iterAt hbw (k := W0.heap.size) (by omega) s (pos + (Utf8.decode s pos).2)
      have hz2 : (wr.iterAt W0.heap.size s (pos + (Utf8.decode s pos).2)).heap.size = wr.heap.size := Lib.iterAt_size ..
      have hsg : Qm.sign (s.data.toList.drop pos) = if Qm.esc (Utf8.decode s pos).1 = [] then (s.data.toList.drop pos).take (Utf8.decode s pos).2 else Qm.esc (Utf8.decode s pos).1 := by unfold Qm.sign; rw [hd]
      go_wp2_with (go_at_call 49; refine (escape_any (Utf8.decode s pos).1 _ hr1).mono ?_)
      rintro e W1 ⟨rfl, b1⟩
      have hI3 := stays hI2 b1
      have hit3 : W1.heap[W0.heap.size]? = _ := (b1.block W0.heap.size (by rw [hz2]; omega)).trans hit2
      have hbw3 : Below w.heap.size w W1 := hbw2.trans (b1.mono (by rw [hz2]; omega))
      have hz3 : W0.heap.size < W1.heap.size := (Array.getElem?_eq_some_iff.1 hit3).1
      by_cases he : Qm.esc (Utf8.decode s pos).1 = []
      · rw [he]
        rw [if_pos he] at hsg
        go_wp2
        go_roundw
        case rel =>
          refine ⟨wn, pos + (Utf8.decode s pos).2, acc, rfl, hI3, hit3, hbw3, by omega, hw2, ?_⟩
          rw [← hacc, hst, hsg, drop_take_more _ _ _ _ hwp]
          simp [List.append_assoc]
        case measure =>
          simp only [World.iterPos, hit3, hit]
          omega
      · rw [if_neg he] at hsg
        have hone := width_one (s.data.toList.drop pos) (by rw [hd]; exact Qm.esc_small he)
        rw [hd] at hone
        have hel := (Qm.esc_length _ he).2
        obtain ⟨E, hE⟩ : ∃ E, Qm.esc (Utf8.decode s pos).1 = E := ⟨_, rfl⟩
        rw [hE] at he hel hsg ⊢
        have hEn : E.isEmpty = false := by
          cases E with
          | nil => exact absurd rfl he
          | cons c t => rfl
        have hz4 : w.heap.size ≤ W1.heap.size := by omega
        have hwpz : (wn : Int) ≤ (pos : Int) := by omega
        have hpsz : (pos : Int) ≤ (s.size : Int) := by omega
        have hxs : (s.extract wn pos).size ≤ s.size := by rw [ByteArray.size_extract]; omega
        go_wp2_with (go_at_call 20; refine (Tryd.Builder_WriteString_k w.heap.size w.heap.size _ (s.extract wn pos) _ hI3 (by rw [Lib.byteCells_length]; omega) hz4).mono ?_)
        rintro e W2 ⟨rfl, i2, b2, k2⟩
        rw [Lib.strCells_eq, ← Lib.byteCells_append, Lib.extract_data] at i2
        have hit4 := k2.iter hit3 (by omega)
        have hz5 : W0.heap.size < W2.heap.size := (Array.getElem?_eq_some_iff.1 hit4).1
        go_wp2_with (go_at_call 20; refine (Tryd.Builder_WriteString_k w.heap.size w.heap.size _ ⟨E.toArray⟩ _ (Or.inr i2) (by rw [Lib.byteCells_length, List.length_append, ← Lib.extract_data, ← Lib.size_eq, show ((⟨E.toArray⟩ : ByteArray)).size = E.length from by simp [ByteArray.size]]; omega) (by omega)).mono ?_)
        rintro e W3 ⟨rfl, i3, b3, k3⟩
        rw [Lib.strCells_eq, ← Lib.byteCells_append] at i3
        have hit5 := k3.iter hit4 (by omega)
        go_wp2
        go_roundw
        case rel =>
          refine ⟨pos + 1, pos + (Utf8.decode s pos).2, acc ++ (s.data.toList.drop wn).take (pos - wn) ++ E, rfl, Or.inr i3, hit5, (hbw3.trans b2).trans b3, by omega, hw2, ?_⟩
          rw [← hacc, hst, hsg, hone, Nat.sub_self, List.take_zero, List.append_nil]
          simp [List.append_assoc]
        case measure =>
          simp only [World.iterPos, hit5, hit]
          omega
    · have hnx : ∀ ty, (Instr.next (.pointer (some ⟨W0.heap.size, 0, none⟩)) true ty).run Tryd.prog wr = _ := fun ty => Lib.run_next_end_at wr W0.heap.size s pos ty hit hp
      have hpe : pos = s.size := by omega
      have hwz : (wn : Int) ≤ (s.size : Int) := by omega
      have hxs : (s.extract wn s.size).size ≤ s.size := by rw [ByteArray.size_extract]; omega
      go_wp2_with (go_at_call 20; refine (Tryd.Builder_WriteString_k w.heap.size w.heap.size _ (s.extract wn s.size) _ hI (by rw [Lib.byteCells_length]; omega) (by omega)).mono ?_)
      rintro e W2 ⟨rfl, i2, b2, k2⟩
      rw [Lib.strCells_eq, ← Lib.byteCells_append, Lib.extract_data] at i2
      have hz5 : w.heap.size ≤ W2.heap.size := Nat.le_trans (by omega) b2.size
      go_wp2_with (go_at_call 48; refine (Tryd.Builder_WriteByte_k w.heap.size w.heap.size _ 34 _ (Or.inr i2) (by rw [Lib.byteCells_length, List.length_append, ← Lib.extract_data, ← Lib.size_eq]; omega) hz5).mono ?_)
      rintro e W3 ⟨rfl, i3, b3, k3⟩
      have hz6 : w.heap.size ≤ W3.heap.size := Nat.le_trans hz5 b3.size
      have i4 : Lib.IsBuilderF 43 5 w.heap.size w.heap.size (Lib.byteCells (Qm.quoteL s.data.toList)) W3 := by
        rw [at_end s pos hp, Qm.quo_nil, List.append_nil, hpe] at hacc
        have e1 : Qm.quoteL s.data.toList = (acc ++ (s.data.toList.drop wn).take (s.size - wn)) ++ [34] := by rw [hacc]; rfl
        rw [e1, Lib.byteCells_append]
        exact Or.inr i3
      go_wp2_with (go_at_call 22; refine (Tryd.Builder_String_any_k w.heap.size w.heap.size _ _ i4 hz6).mono ?_)
      rintro e W4 ⟨rfl, i5, b5, k5⟩
      go_wp2
      go_ret
      exact ⟨rfl, ((hbw.trans b2).trans b3).trans b5⟩
end Go.Proofs.YtppkknmgdahniabDoor.Nq

namespace Go.Proofs.YtppkknmgdahniabDoor.Nq
set_option maxRecDepth 100000
open Go.RowKit
set_option linter.unusedVariables false
set_option linter.unusedSimpArgs false

/-- A number, or none, as it is handed back. -/
def wV (o : Option Nat) : Value := .tuple #[.int .i32 ((o.getD 0 : Nat) : Int), .bool o.isSome]
theorem worth_any (r : Nat) (w : World) (hr : r ≤ 1114111) : Calls Tryd.prog 94 #[.int .i32 (r : Int)] w fun e w' => e = .returned (wV (Qm.worth r)) ∧ w' = w := by
  by_cases c1 : (48 : Int) ≤ (r : Int) <;> by_cases c2 : (r : Int) ≤ 57 <;> by_cases c3 : (97 : Int) ≤ (r : Int) <;> by_cases c4 : (r : Int) ≤ 102 <;> by_cases c5 : (65 : Int) ≤ (r : Int) <;> by_cases c6 : (r : Int) ≤ 70
  all_goals try (exfalso; omega)
  all_goals (
    go_enter Tryd.func94, Tryd.ntmps94
    go_wp2
    go_ret2
    refine ⟨?_, rfl⟩
    unfold wV Qm.worth
    repeat' split
    all_goals first | (exfalso; omega) | rfl | (simp; done) | (simp; omega))

theorem worth_high {c : Nat} (h : 128 ≤ c) : Qm.worth c = none := by
  unfold Qm.worth
  rw [if_neg (by omega), if_neg (by omega), if_neg (by omega)]
theorem dec_high (l : List UInt8) (h : 128 ≤ (l.getD 0 0).toNat) : 128 ≤ (Lib.decodeL l).1 := by
  rw [Lib.decodeL_N]
  rcases Lib.decodeN_shape l.length (l.getD 0 0).toNat (l.getD 1 0).toNat (l.getD 2 0).toNat (l.getD 3 0).toNat with ⟨c, e⟩ | ⟨c1, c2, c3, cv, e⟩ | ⟨c1, c2, c3, c4, cv, cs, e⟩ | ⟨c1, c2, c3, c4, c5, cv, cw, e⟩ | e
  all_goals (rw [e]; dsimp only; omega)
theorem dec_worth (c : UInt8) (t : List UInt8) : Qm.worth (Lib.decodeL (c :: t)).1 = Qm.worth c.toNat ∧ (Qm.worth c.toNat ≠ none → (Lib.decodeL (c :: t)).2 = 1) := by
  by_cases h : c.toNat < 128
  · rw [Lib.decodeL_ascii c t h]
    exact ⟨rfl, fun _ => rfl⟩
  · have h1 := dec_high (c :: t) (by simpa using (show 128 ≤ c.toNat by omega))
    rw [worth_high h1, worth_high (c := c.toNat) (by omega)]
    exact ⟨rfl, fun g => absurd rfl g⟩
theorem pre_two (l : List UInt8) (h : 2 ≤ l.length) : Lib.hasPrefix l [92, 117] = decide (l.getD 0 0 = 92 ∧ l.getD 1 0 = 117) := by
  match l, h with
  | a :: b :: t, _ => 
    rw [Bool.eq_iff_iff]
    simp only [Lib.hasPrefix, List.isPrefixOf, Bool.and_true, Bool.and_eq_true, beq_iff_eq, decide_eq_true_eq, List.getD_cons_zero, List.getD_cons_succ]
    exact ⟨fun ⟨x, y⟩ => ⟨x.symm, y.symm⟩, fun ⟨x, y⟩ => ⟨x.symm, y.symm⟩⟩
theorem pre_one (l : List UInt8) (c : UInt8) (hc : c ≠ 0) : Lib.hasPrefix l [c] = decide (l.getD 0 0 = c) := by
  match l with
  | [] => simp [Lib.hasPrefix, hc.symm]
  | a :: t =>
    rw [Bool.eq_iff_iff]
    simp only [Lib.hasPrefix, List.isPrefixOf, Bool.and_true, Bool.and_eq_true, beq_iff_eq, decide_eq_true_eq, List.getD_cons_zero, List.getD_cons_succ]
    exact ⟨fun x => x.symm, fun x => x.symm⟩
theorem prefix_is (s p : ByteArray) (b : Bool) (h : Lib.hasPrefix s.data.toList p.data.toList = b) (w : World) :
    Calls Tryd.prog 27 #[.string s, .string p] w fun e w' => e = .returned (.bool b) ∧ w' = w := by
  rw [← h]; exact Tryd.strings_HasPrefix s p w

set_option maxHeartbeats 4000000 in
set_option maxRecDepth 1000000 in
theorem unit_any (s : ByteArray) (w : World) (hs : s.size ≤ 9223372036854775807) :
    Calls Tryd.prog 90 #[.string s] w fun e w' => e = .returned (wV (Qm.unitL s.data.toList)) ∧ Below w.heap.size w w' := by
  by_cases h6 : (s.size : Int) < 6
  · have hu : Qm.unitL s.data.toList = none := by
      unfold Qm.unitL
      rw [if_neg]
      rw [← Lib.size_eq]
      omega
    rw [hu]
    go_enter Tryd.func90, Tryd.ntmps90
    go_wp2
    go_ret2
    exact ⟨rfl, Below.refl _ _⟩
  have h6' : (6 : Int) ≤ (s.size : Int) := by omega
  have hpre := pre_two s.data.toList (by rw [← Lib.size_eq]; omega)
  by_cases hq : s.data.toList.getD 0 0 = 92 ∧ s.data.toList.getD 1 0 = 117
  · have hpt := prefix_is s ⟨#[92, 117]⟩ true (by rw [show ((⟨#[92, 117]⟩ : ByteArray)).data.toList = [92, 117] from rfl, hpre]; exact decide_eq_true hq)
    have hu : Qm.unitL s.data.toList = Qm.digs ((s.data.toList.drop 2).take 4) 0 := by
      unfold Qm.unitL
      rw [if_pos ⟨by rw [← Lib.size_eq]; omega, hq⟩]
    rw [hu]
    obtain ⟨t, ht⟩ : ∃ t, s.extract 2 6 = t := ⟨_, rfl⟩
    have htl : (s.data.toList.drop 2).take 4 = t.data.toList := by rw [← ht, Lib.extract_data]
    have hts : t.size = 4 := by rw [← ht, ByteArray.size_extract]; omega
    rw [htl]
    obtain ⟨D0, hD0⟩ : ∃ D0, Qm.digs t.data.toList 0 = D0 := ⟨_, rfl⟩
    rw [hD0]
    clear hq hpre hu htl
    go_enter Tryd.func90, Tryd.ntmps90
    go_wp2_with (go_at_call 27; refine (hpt _).mono ?_; rintro e w ⟨rfl, rfl⟩)
    go_loopw [2, 5, 6, 7] (fun n _ _ _ wr => ∃ (pos v : Nat), n = .int .i32 (v : Int) ∧ wr.heap[w.heap.size]? = some (.stringIter t pos) ∧ Below w.heap.size w wr ∧ pos ≤ 4 ∧ v < 16 ^ pos ∧ Qm.digs (t.data.toList.drop pos) v = D0) (fun _ _ _ _ wr => t.size - wr.iterPos w.heap.size)
    case atStart =>
      refine ⟨0, 0, rfl, ?_, (Below.refl _ w).alloc (Nat.le_refl _) _, by omega, by omega, by rw [List.drop_zero]; exact hD0⟩
      have := World.iter_heap w t 0
      simpa using this
    case round =>
      obtain ⟨pos, v, rfl, hit, hbw, hp4, hv, hdg⟩ := hrel
      have hsz : w.heap.size < wr.heap.size := (Array.getElem?_eq_some_iff.1 hit).1
      by_cases hp : pos < t.size
      · have hnx : ∀ ty, (Instr.next (.pointer (some ⟨w.heap.size, 0, none⟩)) true ty).run Tryd.prog wr = _ := fun ty => Lib.run_next_any_at wr w.heap.size t pos ty hit hp
        obtain ⟨hne, hd, hdd, hw1, hw2⟩ := at_step t pos hp
        have hsc := Qm.decode_sc (t.data.toList.drop pos)
        rw [hd] at hsc
        have hit2 := Lib.iterAt_heap wr w.heap.size t pos (pos + (Utf8.decode t pos).2) hit
        have hbw2 := Lib.below_iterAt hbw (k := w.heap.size) (by omega) t (pos + (Utf8.decode t pos).2)
        obtain ⟨c, u, hcu⟩ : ∃ c u, t.data.toList.drop pos = c :: u := by
          cases hx : t.data.toList.drop pos with
          | nil => exact absurd hx hne
          | cons c u => exact ⟨c, u, rfl⟩
        obtain ⟨dw1, dw2⟩ := dec_worth c u
        rw [← hcu, hd] at dw1 dw2
        rw [hcu] at hdg
        unfold Qm.digs at hdg
        have hv16 : v ≤ 4095 := by
          have : v < 16 ^ 3 := Nat.lt_of_lt_of_le hv (Nat.pow_le_pow_right (by omega) (by omega))
          omega
        go_wp2_with (go_at_call 94; refine (worth_any (Utf8.decode t pos).1 _ hsc.1).mono ?_)
        rintro e W1 ⟨rfl, hW1⟩
        subst hW1
        unfold wV
        cases hx : Qm.worth (Utf8.decode t pos).1 with
        | none =>
          rw [← dw1, hx] at hdg
          dsimp only at hdg
          subst hdg
          go_wp2
          go_ret2
          exact ⟨rfl, hbw2⟩
        | some x =>
          rw [← dw1, hx] at hdg
          dsimp only at hdg
          have hx16 := Qm.worth_lt hx
          have h1 := dw2 (by rw [← dw1, hx]; simp)
          have hdu : t.data.toList.drop (pos + 1) = u := by
            have := congrArg List.tail hcu
            rwa [List.tail_drop] at this
          rw [h1] at hit2 hbw2 hw2 ⊢
          go_wp2
          go_roundw
          case rel =>
            refine ⟨pos + 1, 16 * v + x, ?_, hit2, hbw2, by omega, ?_, by rw [hdu]; exact hdg⟩
            · congr 1; push_cast; omega
            · rw [Nat.pow_succ]; omega
          case measure =>
            simp only [World.iterPos, hit2, hit]
            omega
      · have hnx : ∀ ty, (Instr.next (.pointer (some ⟨w.heap.size, 0, none⟩)) true ty).run Tryd.prog wr = _ := fun ty => Lib.run_next_end_at wr w.heap.size t pos ty hit hp
        rw [at_end t pos hp] at hdg
        unfold Qm.digs at hdg
        subst hdg
        go_wp2
        go_ret2
        exact ⟨rfl, hbw⟩
  · have hpt := prefix_is s ⟨#[92, 117]⟩ false (by rw [show ((⟨#[92, 117]⟩ : ByteArray)).data.toList = [92, 117] from rfl, hpre]; exact decide_eq_false hq)
    have hu : Qm.unitL s.data.toList = none := by
      unfold Qm.unitL
      rw [if_neg]
      intro g
      exact hq g.2
    rw [hu]
    clear hq hpre hu
    go_enter Tryd.func90, Tryd.ntmps90
    go_wp2_with (go_at_call 27; refine (hpt _).mono ?_; rintro e w ⟨rfl, rfl⟩)
    go_ret2
    exact ⟨rfl, Below.refl _ _⟩
end Go.Proofs.YtppkknmgdahniabDoor.Nq

namespace Go.Proofs.YtppkknmgdahniabDoor.Nq
set_option maxRecDepth 100000
open Go.RowKit
set_option linter.unusedVariables false
set_option linter.unusedSimpArgs false

/-- A rune and how many bytes it has, or none, as it is handed back. -/
def nV (o : Option (Nat × Nat)) : Value := .tuple #[.int .i32 (((o.getD (0, 0)).1 : Nat) : Int), .int .i64 (((o.getD (0, 0)).2 : Nat) : Int)]
theorem ext_drop (s : ByteArray) (k : Nat) : (s.extract k s.size).data.toList = s.data.toList.drop k := by
  rw [Lib.extract_data, List.take_of_length_le]
  rw [List.length_drop, ← Lib.size_eq]
  exact Nat.le_refl _

theorem wrap_i32 (x : Int) (h0 : -2147483648 ≤ x) (h1 : x ≤ 2147483647) : IntKind.i32.wrap x = x := by rw [IntKind.wrap_i32]; omega
set_option maxHeartbeats 4000000 in
set_option maxRecDepth 1000000 in
theorem num_no1 (s : ByteArray) (a b : Nat) (w : World) (h6 : (6 : Int) ≤ (s.size : Int)) (ha : ¬ (a : Int) < 55296) (ha2 : ¬ (57344 : Int) ≤ (a : Int)) (g1 : (56320 : Int) ≤ (a : Int))
    (c1 : ∀ W, Calls Tryd.prog 90 #[.string s] W fun e w' => e = .returned (wV (some a)) ∧ Below W.heap.size W w')
    (c2 : ∀ W, Calls Tryd.prog 90 #[.string (s.extract 6 s.size)] W fun e w' => e = .returned (wV (some b)) ∧ Below W.heap.size W w') :
    Calls Tryd.prog 82 #[.string s] w fun e w' => e = .returned (nV none) ∧ Below w.heap.size w w' := by
  have e1 : decide ((a : Int) < 55296) = false := decide_eq_false ha
  have e2 : decide ((57344 : Int) ≤ (a : Int)) = false := decide_eq_false ha2
  have d1 : decide ((56320 : Int) ≤ (a : Int)) = true := decide_eq_true g1
  clear ha ha2 g1
  unfold wV at c1 c2
  unfold nV
  go_enter Tryd.func82, Tryd.ntmps82
  go_wp2_with fail
  refine (c1 _).mono ?_
  rintro e W1 ⟨rfl, b1⟩
  go_wp2_with fail
  refine (c2 _).mono ?_
  rintro e W2 ⟨rfl, b2⟩
  go_wp2
  go_ret2
  exact ⟨rfl, b1.trans (b2.mono b1.size)⟩

set_option maxHeartbeats 4000000 in
set_option maxRecDepth 1000000 in
theorem num_no2 (s : ByteArray) (a b : Nat) (w : World) (h6 : (6 : Int) ≤ (s.size : Int)) (ha : ¬ (a : Int) < 55296) (ha2 : ¬ (57344 : Int) ≤ (a : Int)) (g1 : ¬ (56320 : Int) ≤ (a : Int)) (g2 : (b : Int) < 56320)
    (c1 : ∀ W, Calls Tryd.prog 90 #[.string s] W fun e w' => e = .returned (wV (some a)) ∧ Below W.heap.size W w')
    (c2 : ∀ W, Calls Tryd.prog 90 #[.string (s.extract 6 s.size)] W fun e w' => e = .returned (wV (some b)) ∧ Below W.heap.size W w') :
    Calls Tryd.prog 82 #[.string s] w fun e w' => e = .returned (nV none) ∧ Below w.heap.size w w' := by
  have e1 : decide ((a : Int) < 55296) = false := decide_eq_false ha
  have e2 : decide ((57344 : Int) ≤ (a : Int)) = false := decide_eq_false ha2
  have d1 : decide ((56320 : Int) ≤ (a : Int)) = false := decide_eq_false g1
  have d2 : decide ((b : Int) < 56320) = true := decide_eq_true g2
  clear ha ha2 g1 g2
  unfold wV at c1 c2
  unfold nV
  go_enter Tryd.func82, Tryd.ntmps82
  go_wp2_with fail
  refine (c1 _).mono ?_
  rintro e W1 ⟨rfl, b1⟩
  go_wp2_with fail
  refine (c2 _).mono ?_
  rintro e W2 ⟨rfl, b2⟩
  go_wp2
  go_ret2
  exact ⟨rfl, b1.trans (b2.mono b1.size)⟩

set_option maxHeartbeats 4000000 in
set_option maxRecDepth 1000000 in
theorem num_no3 (s : ByteArray) (a b : Nat) (w : World) (h6 : (6 : Int) ≤ (s.size : Int)) (ha : ¬ (a : Int) < 55296) (ha2 : ¬ (57344 : Int) ≤ (a : Int)) (g1 : ¬ (56320 : Int) ≤ (a : Int)) (g2 : ¬ (b : Int) < 56320) (g3 : (57344 : Int) ≤ (b : Int))
    (c1 : ∀ W, Calls Tryd.prog 90 #[.string s] W fun e w' => e = .returned (wV (some a)) ∧ Below W.heap.size W w')
    (c2 : ∀ W, Calls Tryd.prog 90 #[.string (s.extract 6 s.size)] W fun e w' => e = .returned (wV (some b)) ∧ Below W.heap.size W w') :
    Calls Tryd.prog 82 #[.string s] w fun e w' => e = .returned (nV none) ∧ Below w.heap.size w w' := by
  have e1 : decide ((a : Int) < 55296) = false := decide_eq_false ha
  have e2 : decide ((57344 : Int) ≤ (a : Int)) = false := decide_eq_false ha2
  have d1 : decide ((56320 : Int) ≤ (a : Int)) = false := decide_eq_false g1
  have d2 : decide ((b : Int) < 56320) = false := decide_eq_false g2
  have d3 : decide ((57344 : Int) ≤ (b : Int)) = true := decide_eq_true g3
  clear ha ha2 g1 g2 g3
  unfold wV at c1 c2
  unfold nV
  go_enter Tryd.func82, Tryd.ntmps82
  go_wp2_with fail
  refine (c1 _).mono ?_
  rintro e W1 ⟨rfl, b1⟩
  go_wp2_with fail
  refine (c2 _).mono ?_
  rintro e W2 ⟨rfl, b2⟩
  go_wp2
  go_ret2
  exact ⟨rfl, b1.trans (b2.mono b1.size)⟩

set_option maxHeartbeats 4000000 in
set_option maxRecDepth 1000000 in
theorem num_yes (s : ByteArray) (a b : Nat) (w : World) (h6 : (6 : Int) ≤ (s.size : Int)) (u1 : a < 65536) (v1 : b < 65536) (ha : ¬ (a : Int) < 55296) (ha2 : ¬ (57344 : Int) ≤ (a : Int)) (g1 : ¬ (56320 : Int) ≤ (a : Int)) (g2 : ¬ (b : Int) < 56320) (g3 : ¬ (57344 : Int) ≤ (b : Int)) (r : Nat) (hr : r = 65536 + (a - 55296) * 1024 + (b - 56320))
    (c1 : ∀ W, Calls Tryd.prog 90 #[.string s] W fun e w' => e = .returned (wV (some a)) ∧ Below W.heap.size W w')
    (c2 : ∀ W, Calls Tryd.prog 90 #[.string (s.extract 6 s.size)] W fun e w' => e = .returned (wV (some b)) ∧ Below W.heap.size W w') :
    Calls Tryd.prog 82 #[.string s] w fun e w' => e = .returned (nV (some (r, 12))) ∧ Below w.heap.size w w' := by
  obtain ⟨A, hA⟩ : ∃ A : Nat, (a : Int) - 55296 = (A : Int) := ⟨a - 55296, by omega⟩
  have z0 : ¬ (A : Int) < 0 := by omega
  have w1 : IntKind.i32.wrap ((a : Int) - 55296) = (A : Int) := by rw [hA]; exact wrap_i32 _ (by omega) (by omega)
  have w2 : IntKind.i32.wrap ((A : Int) * 1024) = (A : Int) * 1024 := wrap_i32 _ (by omega) (by omega)
  have w3 : IntKind.i32.wrap (65536 + (A : Int) * 1024) = 65536 + (A : Int) * 1024 := wrap_i32 _ (by omega) (by omega)
  have w4 : IntKind.i32.wrap (65536 + (A : Int) * 1024 + (b : Int)) = 65536 + (A : Int) * 1024 + (b : Int) := wrap_i32 _ (by omega) (by omega)
  have w5 : IntKind.i32.wrap (65536 + (A : Int) * 1024 + (b : Int) - 56320) = (r : Int) := by rw [wrap_i32 _ (by omega) (by omega)]; omega
  clear hA hr
  have e1 : decide ((a : Int) < 55296) = false := decide_eq_false ha
  have e2 : decide ((57344 : Int) ≤ (a : Int)) = false := decide_eq_false ha2
  have d1 : decide ((56320 : Int) ≤ (a : Int)) = false := decide_eq_false g1
  have d2 : decide ((b : Int) < 56320) = false := decide_eq_false g2
  have d3 : decide ((57344 : Int) ≤ (b : Int)) = false := decide_eq_false g3
  clear g1 g2 g3 ha ha2 u1 v1 z0
  unfold wV at c1 c2
  unfold nV
  go_enter Tryd.func82, Tryd.ntmps82
  go_wp2_with fail
  refine (c1 _).mono ?_
  rintro e W1 ⟨rfl, b1⟩
  go_wp2_with fail
  refine (c2 _).mono ?_
  rintro e W2 ⟨rfl, b2⟩
  go_wp2
  go_ret2
  exact ⟨rfl, b1.trans (b2.mono b1.size)⟩

set_option maxHeartbeats 4000000 in
set_option maxRecDepth 1000000 in
theorem numbered_any (s : ByteArray) (w : World) (hs : s.size ≤ 9223372036854775807) :
    Calls Tryd.prog 82 #[.string s] w fun e w' => e = .returned (nV (Qm.numL s.data.toList)) ∧ Below w.heap.size w w' := by
  obtain ⟨o1, h1⟩ : ∃ o, Qm.unitL s.data.toList = o := ⟨_, rfl⟩
  have c1 : ∀ W, Calls Tryd.prog 90 #[.string s] W fun e w' => e = .returned (wV o1) ∧ Below W.heap.size W w' := fun W => by rw [← h1]; exact unit_any s W hs
  unfold Qm.numL
  rw [h1]
  cases o1 with
  | none =>
    clear h1
    unfold wV at c1
    go_enter Tryd.func82, Tryd.ntmps82
    go_wp2_with (go_at_call 90; refine (c1 _).mono ?_; rintro e W1 ⟨rfl, b1⟩)
    go_ret2
    exact ⟨rfl, b1⟩
  | some a =>
    obtain ⟨u1, u2⟩ := Qm.unit_lt h1
    rw [← Lib.size_eq] at u2
    dsimp only
    by_cases ha : a < 55296 ∨ 57344 ≤ a
    · rw [if_pos ha]
      unfold wV at c1
      by_cases h2 : (a : Int) < 55296
      · have e1 : decide ((a : Int) < 55296) = true := decide_eq_true h2
        clear ha h2 u1 u2
        go_enter Tryd.func82, Tryd.ntmps82
        go_wp2_with (go_at_call 90; refine (c1 _).mono ?_; rintro e W1 ⟨rfl, b1⟩)
        go_ret2
        exact ⟨rfl, b1⟩
      · have h3 : (57344 : Int) ≤ (a : Int) := by omega
        have e1 : decide ((a : Int) < 55296) = false := decide_eq_false h2
        have e2 : decide ((57344 : Int) ≤ (a : Int)) = true := decide_eq_true h3
        clear ha h2 h3 u1 u2
        go_enter Tryd.func82, Tryd.ntmps82
        go_wp2_with (go_at_call 90; refine (c1 _).mono ?_; rintro e W1 ⟨rfl, b1⟩)
        go_ret2
        exact ⟨rfl, b1⟩
    · rw [if_neg ha]
      have h2 : ¬ (a : Int) < 55296 := by omega
      have h3 : ¬ (57344 : Int) ≤ (a : Int) := by omega
      have h6 : (6 : Int) ≤ (s.size : Int) := by omega
      obtain ⟨o2, h4⟩ : ∃ o, Qm.unitL (s.data.toList.drop 6) = o := ⟨_, rfl⟩
      have hx6 : (s.extract 6 s.size).size ≤ 9223372036854775807 := by rw [ByteArray.size_extract]; omega
      have c2 : ∀ W, Calls Tryd.prog 90 #[.string (s.extract 6 s.size)] W fun e w' => e = .returned (wV o2) ∧ Below W.heap.size W w' := fun W => by
        have := unit_any (s.extract 6 s.size) W hx6
        rwa [ext_drop, h4] at this
      rw [h4]
      cases o2 with
      | none =>
        have e1 : decide ((a : Int) < 55296) = false := decide_eq_false h2
        have e2 : decide ((57344 : Int) ≤ (a : Int)) = false := decide_eq_false h3
        clear ha h2 h3 u1 u2
        unfold wV at c1 c2
        go_enter Tryd.func82, Tryd.ntmps82
        go_wp2_with fail
        refine (c1 _).mono ?_
        rintro e W1 ⟨rfl, b1⟩
        go_wp2_with fail
        refine (c2 _).mono ?_
        rintro e W2 ⟨rfl, b2⟩
        go_wp2
        go_ret2
        exact ⟨rfl, b1.trans (b2.mono b1.size)⟩
      | some b =>
        obtain ⟨v1, v2⟩ := Qm.unit_lt h4
        dsimp only
        by_cases g1 : (56320 : Int) ≤ (a : Int)
        · rw [if_neg (by omega)]
          exact num_no1 s a b w h6 h2 h3 g1 c1 c2
        by_cases g2 : (b : Int) < 56320
        · rw [if_neg (by omega)]
          exact num_no2 s a b w h6 h2 h3 g1 g2 c1 c2
        by_cases g3 : (57344 : Int) ≤ (b : Int)
        · rw [if_neg (by omega)]
          exact num_no3 s a b w h6 h2 h3 g1 g2 g3 c1 c2
        rw [if_pos (by omega)]
        exact num_yes s a b w h6 u1 v1 h2 h3 g1 g2 g3 _ rfl c1 c2

end Go.Proofs.YtppkknmgdahniabDoor.Nq

namespace Go.Proofs.YtppkknmgdahniabDoor.Nq
set_option maxRecDepth 100000
open Go.RowKit
set_option linter.unusedVariables false
set_option linter.unusedSimpArgs false

theorem at_getD (s : ByteArray) (k : Nat) (h : k < s.size) : s[k]'h = s.data.toList.getD k 0 := by
  show s.data[k]'h = _
  have h2 : k < s.data.toList.length := by rw [← Lib.size_eq]; exact h
  simp only [List.getD, List.getElem?_eq_getElem h2, Option.getD_some, Array.getElem_toList]
/-- What is read behind a backslash. -/
def escd (l : List UInt8) : Option (Nat × Nat) := if l.length < 2 then none else match Qm.escL (l.getD 1 0).toNat with | some r => some (r, 2) | none => Qm.numL l

set_option maxHeartbeats 4000000 in
set_option maxRecDepth 1000000 in
theorem escaped_any (s : ByteArray) (w : World) (hs : s.size ≤ 9223372036854775807) :
    Calls Tryd.prog 66 #[.string s] w fun e w' => e = .returned (nV (escd s.data.toList)) ∧ Below w.heap.size w w' := by
  by_cases h2 : (s.size : Int) < 2
  · have e : escd s.data.toList = none := by unfold escd; rw [if_pos (by rw [← Lib.size_eq]; omega)]
    rw [e]
    go_enter Tryd.func66, Tryd.ntmps66
    go_wp2
    go_ret2
    exact ⟨rfl, Below.refl _ _⟩
  have b1 : 1 < s.size := by omega
  have b2 : (1 : Int) < (s.size : Int) := by omega
  have he : escd s.data.toList = match Qm.escL (s[1]'b1).toNat with | some r => some (r, 2) | none => Qm.numL s.data.toList := by
    unfold escd
    rw [if_neg (by rw [← Lib.size_eq]; omega), at_getD s 1 b1]
  rw [he]
  clear he
  by_cases h34 : (s[1]'b1).toNat = 34
  · have e1 : ((s[1]'b1).toNat : Int) = 34 := by rw [h34]; rfl
    rw [h34, show Qm.escL 34 = some 34 from by decide]
    clear h34
    dsimp only
    go_enter Tryd.func66, Tryd.ntmps66
    go_wp2
    go_ret2
    exact ⟨rfl, Below.refl _ _⟩
  by_cases h92 : (s[1]'b1).toNat = 92
  · have e1 : ((s[1]'b1).toNat : Int) = 92 := by rw [h92]; rfl
    rw [h92, show Qm.escL 92 = some 92 from by decide]
    clear h92
    dsimp only
    go_enter Tryd.func66, Tryd.ntmps66
    go_wp2
    go_ret2
    exact ⟨rfl, Below.refl _ _⟩
  by_cases h47 : (s[1]'b1).toNat = 47
  · have e1 : ((s[1]'b1).toNat : Int) = 47 := by rw [h47]; rfl
    rw [h47, show Qm.escL 47 = some 47 from by decide]
    clear h47
    dsimp only
    go_enter Tryd.func66, Tryd.ntmps66
    go_wp2
    go_ret2
    exact ⟨rfl, Below.refl _ _⟩
  by_cases h98 : (s[1]'b1).toNat = 98
  · have e1 : ((s[1]'b1).toNat : Int) = 98 := by rw [h98]; rfl
    rw [h98, show Qm.escL 98 = some 8 from by decide]
    clear h98
    dsimp only
    go_enter Tryd.func66, Tryd.ntmps66
    go_wp2
    go_ret2
    exact ⟨rfl, Below.refl _ _⟩
  by_cases h102 : (s[1]'b1).toNat = 102
  · have e1 : ((s[1]'b1).toNat : Int) = 102 := by rw [h102]; rfl
    rw [h102, show Qm.escL 102 = some 12 from by decide]
    clear h102
    dsimp only
    go_enter Tryd.func66, Tryd.ntmps66
    go_wp2
    go_ret2
    exact ⟨rfl, Below.refl _ _⟩
  by_cases h110 : (s[1]'b1).toNat = 110
  · have e1 : ((s[1]'b1).toNat : Int) = 110 := by rw [h110]; rfl
    rw [h110, show Qm.escL 110 = some 10 from by decide]
    clear h110
    dsimp only
    go_enter Tryd.func66, Tryd.ntmps66
    go_wp2
    go_ret2
    exact ⟨rfl, Below.refl _ _⟩
  by_cases h114 : (s[1]'b1).toNat = 114
  · have e1 : ((s[1]'b1).toNat : Int) = 114 := by rw [h114]; rfl
    rw [h114, show Qm.escL 114 = some 13 from by decide]
    clear h114
    dsimp only
    go_enter Tryd.func66, Tryd.ntmps66
    go_wp2
    go_ret2
    exact ⟨rfl, Below.refl _ _⟩
  by_cases h116 : (s[1]'b1).toNat = 116
  · have e1 : ((s[1]'b1).toNat : Int) = 116 := by rw [h116]; rfl
    rw [h116, show Qm.escL 116 = some 9 from by decide]
    clear h116
    dsimp only
    go_enter Tryd.func66, Tryd.ntmps66
    go_wp2
    go_ret2
    exact ⟨rfl, Below.refl _ _⟩
  have hn : Qm.escL (s[1]'b1).toNat = none := by
    unfold Qm.escL
    simp only [h34, h92, h47, h98, h102, h110, h114, h116, or_self, if_false]
  have n34 : ¬ ((s[1]'b1).toNat : Int) = 34 := by omega
  have n92 : ¬ ((s[1]'b1).toNat : Int) = 92 := by omega
  have n47 : ¬ ((s[1]'b1).toNat : Int) = 47 := by omega
  have n98 : ¬ ((s[1]'b1).toNat : Int) = 98 := by omega
  have n102 : ¬ ((s[1]'b1).toNat : Int) = 102 := by omega
  have n110 : ¬ ((s[1]'b1).toNat : Int) = 110 := by omega
  have n114 : ¬ ((s[1]'b1).toNat : Int) = 114 := by omega
  have n116 : ¬ ((s[1]'b1).toNat : Int) = 116 := by omega
  rw [hn]
  clear hn h34 h92 h47 h98 h102 h110 h114 h116
  obtain ⟨x, y, hR⟩ : ∃ x y, nV (Qm.numL s.data.toList) = .tuple #[.int .i32 x, .int .i64 y] := ⟨_, _, rfl⟩
  dsimp only
  rw [hR]
  have hc : ∀ W, Calls Tryd.prog 82 #[.string s] W fun e w' => e = .returned (.tuple #[.int .i32 x, .int .i64 y]) ∧ Below W.heap.size W w' := fun W => by
    rw [← hR]; exact numbered_any s W hs
  clear hR
  go_enter Tryd.func66, Tryd.ntmps66
  go_wp2_with (go_at_call 82; refine (hc _).mono ?_; rintro e W1 ⟨rfl, b3⟩)
  first | go_ret2 | go_ret
  exact ⟨rfl, b3⟩

theorem decodeGo_L (s : ByteArray) (h : 0 < s.size) : Lib.decodeGo s = Lib.decodeL s.data.toList := by
  have := Lib.decodeL_drop s 0
  rw [List.drop_zero] at this
  rw [this]
  unfold Lib.decodeGo
  rw [if_neg (by omega)]

set_option maxHeartbeats 4000000 in
set_option maxRecDepth 1000000 in
theorem next_any (s : ByteArray) (w : World) (hs : s.size ≤ 9223372036854775807) (hT : Tabs w) :
    Calls Tryd.prog 56 #[.string s] w fun e w' => e = .returned (nV (Qm.nextL s.data.toList)) ∧ Below w.heap.size w w' := by
  by_cases hb : s.data.toList.getD 0 0 = 92
  · have hpt := prefix_is s ⟨#[92]⟩ true (by rw [show ((⟨#[92]⟩ : ByteArray)).data.toList = [92] from rfl, pre_one _ _ (by decide)]; exact decide_eq_true hb)
    have he : Qm.nextL s.data.toList = escd s.data.toList := by
      have hne : s.data.toList ≠ [] := by intro g; rw [g] at hb; revert hb; decide
      unfold Qm.nextL escd
      rw [if_neg hne, if_pos hb]
      rfl
    obtain ⟨x, y, hR⟩ : ∃ x y, nV (Qm.nextL s.data.toList) = .tuple #[.int .i32 x, .int .i64 y] := ⟨_, _, rfl⟩
    rw [hR]
    have hc : ∀ W, Calls Tryd.prog 66 #[.string s] W fun e w' => e = .returned (.tuple #[.int .i32 x, .int .i64 y]) ∧ Below W.heap.size W w' := fun W => by
      rw [← hR, he]; exact escaped_any s W hs
    clear hR he hb
    go_enter Tryd.func56, Tryd.ntmps56
    go_wp2_with (first | (go_at_call 27; refine (hpt _).mono ?_; rintro e w ⟨rfl, rfl⟩) | (go_at_call 66; refine (hc _).mono ?_; rintro e W1 ⟨rfl, b3⟩))
    first | go_ret2 | go_ret
    exact ⟨rfl, b3⟩
  have hpf := prefix_is s ⟨#[92]⟩ false (by rw [show ((⟨#[92]⟩ : ByteArray)).data.toList = [92] from rfl, pre_one _ _ (by decide)]; exact decide_eq_false hb)
  have hsc : (Lib.decodeGo s).1 ≤ 1114111 ∧ (Lib.decodeGo s).2 ≤ 4 := by
    unfold Lib.decodeGo
    split
    · decide
    · rename_i g
      have h1 := (Qm.decode_sc s.data.toList).1
      have h2 := Qm.width_le4 s.data.toList
      have := Lib.decodeL_drop s 0
      rw [List.drop_zero] at this
      rw [this] at h1 h2
      exact ⟨h1, h2⟩
  have he : Qm.nextL s.data.toList = if (Lib.decodeGo s).1 < 32 ∨ ((Lib.decodeGo s).1 = 65533 ∧ (Lib.decodeGo s).2 ≤ 1) then none else some (Lib.decodeGo s) := by
    unfold Qm.nextL
    by_cases hz : s.size = 0
    · have hnil : s.data.toList = [] := List.eq_nil_of_length_eq_zero (by rw [← Lib.size_eq]; exact hz)
      rw [if_pos hnil]
      unfold Lib.decodeGo
      rw [if_pos hz, if_pos (by decide)]
    · have hne : s.data.toList ≠ [] := by intro g; have := congrArg List.length g; rw [← Lib.size_eq] at this; exact hz this
      rw [if_neg hne, if_neg hb, ← decodeGo_L s (by omega)]
  rw [he]
  have hcall : ∀ W, Tabs W → Calls Tryd.prog 45 #[.string s] W fun e w' => e = .returned (.tuple #[.int .i32 (Lib.decodeGo s).1, .int .i64 (Lib.decodeGo s).2]) ∧ Below W.heap.size W w' := fun W h => Tryd.utf8_DecodeRuneInString s W h
  clear he hb
  generalize Lib.decodeGo s = q at hsc hcall ⊢
  obtain ⟨r, k⟩ := q
  dsimp only at hsc hcall ⊢
  obtain ⟨hr, hk⟩ := hsc
  have arm : True := trivial
  by_cases c1 : (r : Int) < 32
  · rw [if_pos (.inl (by omega))]
    go_enter Tryd.func56, Tryd.ntmps56
    go_wp2_with (first | (go_at_call 27; refine (hpf _).mono ?_; rintro e w ⟨rfl, rfl⟩) | (go_at_call 45; refine (hcall _ hT).mono ?_; rintro e W1 ⟨rfl, b3⟩))
    first | go_ret2 | go_ret
    exact ⟨rfl, b3⟩
  by_cases c2 : (r : Int) = 65533
  · obtain rfl : r = 65533 := by omega
    clear hr c1 c2
    by_cases c3 : (k : Int) ≤ 1
    · rw [if_pos (.inr ⟨by omega, by omega⟩)]
      go_enter Tryd.func56, Tryd.ntmps56
      go_wp2_with (first | (go_at_call 27; refine (hpf _).mono ?_; rintro e w ⟨rfl, rfl⟩) | (go_at_call 45; refine (hcall _ hT).mono ?_; rintro e W1 ⟨rfl, b3⟩))
      first | go_ret2 | go_ret
      exact ⟨rfl, b3⟩
    · rw [if_neg (by omega)]
      go_enter Tryd.func56, Tryd.ntmps56
      go_wp2_with (first | (go_at_call 27; refine (hpf _).mono ?_; rintro e w ⟨rfl, rfl⟩) | (go_at_call 45; refine (hcall _ hT).mono ?_; rintro e W1 ⟨rfl, b3⟩))
      first | go_ret2 | go_ret
      exact ⟨rfl, b3⟩
  · rw [if_neg (by omega)]
    go_enter Tryd.func56, Tryd.ntmps56
    go_wp2_with (first | (go_at_call 27; refine (hpf _).mono ?_; rintro e w ⟨rfl, rfl⟩) | (go_at_call 45; refine (hcall _ hT).mono ?_; rintro e W1 ⟨rfl, b3⟩))
    first | go_ret2 | go_ret
    exact ⟨rfl, b3⟩
end Go.Proofs.YtppkknmgdahniabDoor.Nq

namespace Go.Proofs.YtppkknmgdahniabDoor.Nq
set_option maxRecDepth 100000
open Go.RowKit
set_option linter.unusedVariables false
set_option linter.unusedSimpArgs false

theorem hide {p : Prop} (h : p) : Hid p := h
theorem unhide {p : Prop} (h : Hid p) : p := h
/-- A text, how many bytes, and an error, as they are handed back. -/
def uV (x : List UInt8 × Nat × Nat) : Value := .tuple #[.string ⟨x.1.toArray⟩, .int .i64 (x.2.1 : Int), .int .i64 (x.2.2 : Int)]

set_option maxHeartbeats 4000000 in
set_option maxRecDepth 1000000 in
theorem unquote_any (s : ByteArray) (w : World) (hs : s.size ≤ 1099511627776) (hT : Tabs w) :
    Calls Tryd.prog 39 #[.string s] w fun e w' => e = .returned (uV (Qm.unquoteL s.data.toList)) ∧ Below w.heap.size w w' := by
  by_cases hq : s.data.toList.getD 0 0 = 34
  · have hpt := prefix_is s ⟨#[34]⟩ true (by rw [show ((⟨#[34]⟩ : ByteArray)).data.toList = [34] from rfl, pre_one _ _ (by decide)]; exact decide_eq_true hq)
    have hs1 : 1 ≤ s.size := by
      rcases Nat.lt_or_ge 0 s.size with g | g
      · exact g
      · have : s.data.toList = [] := List.eq_nil_of_length_eq_zero (by rw [← Lib.size_eq]; omega)
        rw [this] at hq
        exact absurd hq (by decide)
    obtain ⟨U, hU⟩ : ∃ U, Qm.unquoteL s.data.toList = U := ⟨_, rfl⟩
    rw [hU]
    go_enter Tryd.func39, Tryd.ntmps39
    go_wp2_with (go_at_call 27; refine (hpt _).mono ?_; rintro e w ⟨rfl, rfl⟩)
    go_loopw [6, 7, 8] (fun a _ _ wr => ∃ (p : Nat) (acc bs : List UInt8), a = .int .i64 (p : Int) ∧ Lib.IsBuilderF 43 5 w.heap.size w.heap.size (Lib.byteCells bs) wr ∧ Below w.heap.size w wr ∧ Qm.UI s.data.toList p acc bs) (fun a _ _ _ => s.size - (intOf a).toNat)
    case atStart =>
      exact ⟨1, [], [], rfl, Lib.IsBuilderF.of (Lib.fresh_isBuilder 43 5 w), (Below.refl _ w).alloc (Nat.le_refl _) _, Qm.UI.start _ (by rw [← Lib.size_eq]; exact hs1)⟩
    case round =>
      obtain ⟨p, acc, bs, rfl, hI, hbw, hu⟩ := hrel
      have hp1 := hu.1
      have hp2 := hu.2.1
      have hb2 := hu.2.2.2.1
      rw [← Lib.size_eq] at hp2
      have hpz : (p : Int) ≤ (s.size : Int) := by omega
      have hTr : Tabs wr := Utf8Tabs_below hT hbw
      have hlw : w.heap.size < wr.heap.size := by rcases hI with h | h <;> exact h.lt
      have hlen : ∀ W, Lib.IsBuilderF 43 5 w.heap.size w.heap.size (Lib.byteCells bs) W → Calls Tryd.prog 57 #[.pointer (some ⟨w.heap.size, 0, none⟩)] W fun e w' => e = .returned (.int .i64 (bs.length : Int)) ∧ w' = W := fun W h => by
        have := Tryd.Builder_Len_f w.heap.size w.heap.size _ W h
        rwa [Lib.byteCells_length] at this
      by_cases h34 : (s.data.toList.drop p).getD 0 0 = 34
      · have hpe := prefix_is (s.extract p s.size) ⟨#[34]⟩ true (by rw [show ((⟨#[34]⟩ : ByteArray)).data.toList = [34] from rfl, pre_one _ _ (by decide), ext_drop]; exact decide_eq_true h34)
        obtain ⟨l1, l2, l3⟩ := hu.last hq h34
        rw [← Lib.size_eq] at l1
        by_cases hb : bs.length ≤ 4096
        · have d1 : decide ((4096 : Int) < (bs.length : Int)) = false := decide_eq_false (by omega)
          have w1 : IntKind.i64.wrap ((p : Int) + 1) = ((p + 1 : Nat) : Int) := by rw [IntKind.wrap_i64]; omega
          have hv := hU.symm.trans (l3 hb)
          subst hv
          clear hU hb l1 l2 l3 hb2 hp1 hp2 hpt hq h34 hs1
          go_wp2_with fail
          refine (hpe _).mono ?_
          rintro e W1 ⟨rfl, rfl⟩
          go_wp2_with fail
          refine (hlen _ hI).mono ?_
          rintro e W2 ⟨rfl, rfl⟩
          go_wp2_with fail
          refine (Tryd.Builder_String_any_k w.heap.size w.heap.size _ _ hI (Nat.le_of_lt hlw)).mono ?_
          rintro e W3 ⟨rfl, i3, b3, k3⟩
          go_wp2
          go_ret3
          exact ⟨rfl, hbw.trans b3⟩
        · have d1 : decide ((4096 : Int) < (bs.length : Int)) = true := decide_eq_true (by omega)
          have hv := hU.symm.trans (l2 (by omega))
          subst hv
          clear hU hb l1 l2 l3 hb2 hp1 hp2 hpt hq h34 hs1
          go_wp2_with fail
          refine (hpe _).mono ?_
          rintro e W1 ⟨rfl, rfl⟩
          go_wp2_with fail
          refine (hlen _ hI).mono ?_
          rintro e W2 ⟨rfl, rfl⟩
          go_wp2
          go_ret3
          exact ⟨rfl, hbw⟩
      · have hpe := prefix_is (s.extract p s.size) ⟨#[34]⟩ false (by rw [show ((⟨#[34]⟩ : ByteArray)).data.toList = [34] from rfl, pre_one _ _ (by decide), ext_drop]; exact decide_eq_false h34)
        have hxs : (s.extract p s.size).size ≤ 9223372036854775807 := by rw [ByteArray.size_extract]; omega
        obtain ⟨q, hx⟩ : ∃ q, Qm.nextL (s.data.toList.drop p) = q := ⟨_, rfl⟩
        have hnx : ∀ W, Tabs W → Calls Tryd.prog 56 #[.string (s.extract p s.size)] W fun e w' => e = .returned (nV q) ∧ Below W.heap.size W w' := fun W h => by
          have := next_any (s.extract p s.size) W hxs h
          rwa [ext_drop, hx] at this
        cases q with
        | none =>
          have hv := hU.symm.trans (hu.none hq h34 hx)
          subst hv
          unfold nV at hnx
          clear hU hb2 hp1 hp2 hpt hq h34 hs1 hlen hx hxs hu hs
          go_wp2_with fail
          refine (hpe _).mono ?_
          rintro e W1 ⟨rfl, rfl⟩
          go_wp2_with fail
          refine (hnx _ hTr).mono ?_
          rintro e W2 ⟨rfl, b2⟩
          go_wp2
          go_ret3
          exact ⟨rfl, hbw.trans (b2.mono (Nat.le_of_lt hlw))⟩
        | some q =>
          obtain ⟨r, k⟩ := q
          obtain ⟨k1, k2, k3⟩ := Qm.next_ok hx
          rw [List.length_drop, ← Lib.size_eq] at k2
          have hr1 : r ≤ 1114111 := k3.1
          have d0 : ((k : Int) == 0) = false := beq_eq_false_iff_ne.2 (by omega)
          have w1 : IntKind.i64.wrap ((p : Int) + (k : Int)) = ((p + k : Nat) : Int) := by rw [IntKind.wrap_i64]; omega
          have hm : s.size - (p + k) < s.size - p := by omega
          have hr2 : -2147483648 ≤ (r : Int) := by omega
          have hr3 : (r : Int) ≤ 2147483647 := by omega
          have H3 := hide hr2
          have H4 := hide hr3
          have HM := hide hm
          unfold nV at hnx
          by_cases hb : bs.length ≤ 4096
          · have d1 : decide ((bs.length : Int) ≤ 4096) = true := decide_eq_true (by omega)
            have HB := hide hb
            have hu2 := hu.more h34 hx (bs ++ Lib.encodeRune (r : Int)) (.inl ⟨hb, rfl⟩)
            clear hU hb hb2 hp1 hp2 hpt hq h34 hs1 hx hxs hu hs k1 k2 k3 hr1 hr2 hr3 hm
            go_wp2_with fail
            refine (hpe _).mono ?_
            rintro e W1 ⟨rfl, rfl⟩
            go_wp2_with fail
            refine (hnx _ hTr).mono ?_
            rintro e W2 ⟨rfl, b2⟩
            have hI2 := stays hI b2
            have hbw2 := hbw.trans (b2.mono (Nat.le_of_lt hlw))
            have hl2 := Nat.le_of_lt (Nat.lt_of_lt_of_le hlw b2.size)
            go_wp2_with fail
            refine (hlen _ hI2).mono ?_
            rintro e W3 ⟨rfl, rfl⟩
            go_wp2_with fail
            refine (Tryd.Builder_WriteRune_k w.heap.size w.heap.size _ (r : Int) (unhide H3) (unhide H4) _ hI2 (by rw [Lib.byteCells_length]; have := unhide HB; omega) hl2).mono ?_
            rintro e W4 ⟨rfl, i4, b4, k4⟩
            rw [← Lib.byteCells_encodeRune, ← Lib.byteCells_append] at i4
            go_wp2
            go_roundw
            case rel => exact ⟨p + k, _, _, rfl, Or.inr i4, hbw2.trans b4, hu2⟩
            case measure => have := unhide HM; simp [intOf]; omega
          · have d1 : decide ((bs.length : Int) ≤ 4096) = false := decide_eq_false (by omega)
            have hu2 := hu.more h34 hx bs (.inr ⟨by omega, rfl⟩)
            clear hU hb hb2 hp1 hp2 hpt hq h34 hs1 hx hxs hu hs k1 k2 k3 hr1 hr2 hr3 hm
            go_wp2_with fail
            refine (hpe _).mono ?_
            rintro e W1 ⟨rfl, rfl⟩
            go_wp2_with fail
            refine (hnx _ hTr).mono ?_
            rintro e W2 ⟨rfl, b2⟩
            have hI2 := stays hI b2
            have hbw2 := hbw.trans (b2.mono (Nat.le_of_lt hlw))
            go_wp2_with fail
            refine (hlen _ hI2).mono ?_
            rintro e W3 ⟨rfl, rfl⟩
            go_wp2
            go_roundw
            case rel => exact ⟨p + k, _, _, rfl, hI2, hbw2, hu2⟩
            case measure => have := unhide HM; simp [intOf]; omega
  · have hpt := prefix_is s ⟨#[34]⟩ false (by rw [show ((⟨#[34]⟩ : ByteArray)).data.toList = [34] from rfl, pre_one _ _ (by decide)]; exact decide_eq_false hq)
    have e : Qm.unquoteL s.data.toList = ([], 0, 6) := by unfold Qm.unquoteL; rw [if_neg hq]
    rw [e]
    go_enter Tryd.func39, Tryd.ntmps39
    go_wp2_with (go_at_call 27; refine (hpt _).mono ?_; rintro e w ⟨rfl, rfl⟩)
    go_ret3
    exact ⟨rfl, Below.refl _ _⟩
end Go.Proofs.YtppkknmgdahniabDoor.Nq

namespace Go.Proofs.YtppkknmgdahniabDoor.Nq
set_option maxRecDepth 100000
open Go.RowKit
set_option linter.unusedVariables false
set_option linter.unusedSimpArgs false

theorem Tabs.step {w w' : World} (h : Tabs w) (hb : Below w.heap.size w w') : Tabs w' := Utf8Tabs_below h hb
theorem quote_c (t u : ByteArray) (w : World) (hs : t.size ≤ 1099511627776) (h : Qm.quoteL t.data.toList = u.data.toList) :
    Calls Tryd.prog 33 #[.string t] w fun e w' => e = .returned (.string u) ∧ Below w.heap.size w w' := by
  have := quote_any t w hs
  rwa [h, Array.toArray_toList] at this
theorem unquote_c (t u : ByteArray) (n e : Nat) (w : World) (hs : t.size ≤ 1099511627776) (h : Qm.unquoteL t.data.toList = (u.data.toList, n, e)) (hT : Tabs w) :
    Calls Tryd.prog 39 #[.string t] w fun r w' => r = .returned (.tuple #[.string u, .int .i64 (n : Int), .int .i64 (e : Int)]) ∧ Below w.heap.size w w' := by
  have := unquote_any t w hs hT
  rw [h] at this
  unfold uV at this
  dsimp only at this
  rwa [Array.toArray_toList] at this

set_option maxRecDepth 100000 in
theorem shown_u : Qm.unquoteL (⟨#[34, 92, 117, 48, 48, 101, 57, 92, 117, 100, 56, 51, 100, 92, 117, 100, 101, 48, 48, 34, 32, 114, 101, 115, 116]⟩ : ByteArray).data.toList = ((⟨#[195, 169, 240, 159, 152, 128]⟩ : ByteArray).data.toList, 20, 0) := by decide +kernel
set_option maxRecDepth 100000 in
theorem shown_q : Qm.quoteL (⟨#[10, 195, 169, 34]⟩ : ByteArray).data.toList = (⟨#[34, 92, 110, 195, 169, 92, 34, 34]⟩ : ByteArray).data.toList := by decide +kernel
set_option maxRecDepth 100000 in
theorem shown_r : (Qm.pc (⟨#[195, 169, 240, 159, 152, 128]⟩ : ByteArray).data.toList).length = 2 := by decide +kernel

/-- At most so many bytes. -/
def fewB (n : Nat) (s : ByteArray) : ByteArray := if n < s.size then s.extract 0 n else s
theorem few_size (n : Nat) (s : ByteArray) : (fewB n s).size ≤ n := by
  unfold fewB
  split
  · rw [ByteArray.size_extract]; omega
  · omega
end Go.Proofs.YtppkknmgdahniabDoor.Nq
