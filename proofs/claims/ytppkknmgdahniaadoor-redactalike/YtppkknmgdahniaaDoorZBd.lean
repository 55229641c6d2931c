/- What is proved here: what Cut and escape of package quote do, walked; conditions: as each theorem states. What is proved here: what Quote of package quote does, walked; conditions: as each theorem states. What is proved here: what worthOf, unit and numbered of package quote do, walked; conditions: as each theorem states. What is proved here: what numbered of package quote does, walked; conditions: as each theorem states. What is proved here: what escaped and next of package quote do, walked; conditions: as each theorem states. What is proved here: what Unquote of package quote does, walked; condition: the two tables of unicode/utf8 lie in the world. What is proved here: what the functions of package quote answer, said with letters; shown and few of the laws, walked; condition: the two tables of unicode/utf8 lie in the world. -/
import Derived.Test.YtppkknmgdahniaaDoorZBc
import Derived.Deep.QuietTactic
import Derived.BigQuiet
import Derived.Test.YtppkknmgdahniaaDoorZAb
import Derived.OwnWalk
import Derived.Deep.RegionHeld3
namespace Go.Proofs.YtppkknmgdahniaaDoor.Nq
set_option maxRecDepth 100000
open Go.RowKit
set_option linter.unusedVariables false
set_option linter.unusedSimpArgs false

set_option maxHeartbeats 4000000 in
set_option maxRecDepth 1000000 in
theorem escape_any (r : Nat) (w : World) (hr : r ≤ 1114111) :
    Calls Tryd.prog 73 #[.int .i32 (r : Int)] w fun e w' => e = .returned (.string ⟨(Qm.esc r).toArray⟩) ∧ Below w.heap.size w w' := by
  by_cases h34 : r = 34
  · subst h34
    go_enter Tryd.func73, Tryd.ntmps73
    go_wp2
    go_ret
    exact ⟨rfl, Below.refl _ _⟩
  by_cases h92 : r = 92
  · subst h92
    go_enter Tryd.func73, Tryd.ntmps73
    go_wp2
    go_ret
    exact ⟨rfl, Below.refl _ _⟩
  by_cases h10 : r = 10
  · subst h10
    go_enter Tryd.func73, Tryd.ntmps73
    go_wp2
    go_ret
    exact ⟨rfl, Below.refl _ _⟩
  by_cases h13 : r = 13
  · subst h13
    go_enter Tryd.func73, Tryd.ntmps73
    go_wp2
    go_ret
    exact ⟨rfl, Below.refl _ _⟩
  by_cases h9 : r = 9
  · subst h9
    go_enter Tryd.func73, Tryd.ntmps73
    go_wp2
    go_ret
    exact ⟨rfl, Below.refl _ _⟩
  by_cases hx : r < 32 ∨ r = 127
  · have hc : r = 0 ∨ r = 1 ∨ r = 2 ∨ r = 3 ∨ r = 4 ∨ r = 5 ∨ r = 6 ∨ r = 7 ∨ r = 8 ∨ r = 11 ∨ r = 12 ∨ r = 14 ∨ r = 15 ∨ r = 16 ∨ r = 17 ∨ r = 18 ∨ r = 19 ∨ r = 20 ∨ r = 21 ∨ r = 22 ∨ r = 23 ∨ r = 24 ∨ r = 25 ∨ r = 26 ∨ r = 27 ∨ r = 28 ∨ r = 29 ∨ r = 30 ∨ r = 31 ∨ r = 127 := by omega
    rcases hc with rfl | rfl | rfl | rfl | rfl | rfl | rfl | rfl | rfl | rfl | rfl | rfl | rfl | rfl | rfl | rfl | rfl | rfl | rfl | rfl | rfl | rfl | rfl | rfl | rfl | rfl | rfl | rfl | rfl | rfl
    · have kb : bits BinOp.and IntKind.i32 0 15 = 0 := by decide
      have k0 : Utf8.encode (((({ data := #[48, 49, 50, 51, 52, 53, 54, 55, 56, 57, 97, 98, 99, 100, 101, 102] } : ByteArray)[0]).toNat : Nat) : Int) = ⟨#[48]⟩ := by decide
      go_enter Tryd.func73, Tryd.ntmps73
      go_wp2
      go_quiet (fail)
      go_wp2
      go_ret
      exact ⟨rfl, Go.Proofs.below_drewNv (Below.refl _ _) _⟩
    · have kb : bits BinOp.and IntKind.i32 1 15 = 1 := by decide
      have k0 : Utf8.encode (((({ data := #[48, 49, 50, 51, 52, 53, 54, 55, 56, 57, 97, 98, 99, 100, 101, 102] } : ByteArray)[0]).toNat : Nat) : Int) = ⟨#[48]⟩ := by decide
      have k1 : Utf8.encode (((({ data := #[48, 49, 50, 51, 52, 53, 54, 55, 56, 57, 97, 98, 99, 100, 101, 102] } : ByteArray)[1]).toNat : Nat) : Int) = ⟨#[49]⟩ := by decide
      go_enter Tryd.func73, Tryd.ntmps73
      go_wp2
      go_quiet (fail)
      go_wp2
      go_ret
      exact ⟨rfl, Go.Proofs.below_drewNv (Below.refl _ _) _⟩
    · have kb : bits BinOp.and IntKind.i32 2 15 = 2 := by decide
      have k0 : Utf8.encode (((({ data := #[48, 49, 50, 51, 52, 53, 54, 55, 56, 57, 97, 98, 99, 100, 101, 102] } : ByteArray)[0]).toNat : Nat) : Int) = ⟨#[48]⟩ := by decide
      have k2 : Utf8.encode (((({ data := #[48, 49, 50, 51, 52, 53, 54, 55, 56, 57, 97, 98, 99, 100, 101, 102] } : ByteArray)[2]).toNat : Nat) : Int) = ⟨#[50]⟩ := by decide
      go_enter Tryd.func73, Tryd.ntmps73
      go_wp2
      go_quiet (fail)
      go_wp2
      go_ret
      exact ⟨rfl, Go.Proofs.below_drewNv (Below.refl _ _) _⟩
    · have kb : bits BinOp.and IntKind.i32 3 15 = 3 := by decide
      have k0 : Utf8.encode (((({ data := #[48, 49, 50, 51, 52, 53, 54, 55, 56, 57, 97, 98, 99, 100, 101, 102] } : ByteArray)[0]).toNat : Nat) : Int) = ⟨#[48]⟩ := by decide
      have k3 : Utf8.encode (((({ data := #[48, 49, 50, 51, 52, 53, 54, 55, 56, 57, 97, 98, 99, 100, 101, 102] } : ByteArray)[3]).toNat : Nat) : Int) = ⟨#[51]⟩ := by decide
      go_enter Tryd.func73, Tryd.ntmps73
      go_wp2
      go_quiet (fail)
      go_wp2
      go_ret
      exact ⟨rfl, Go.Proofs.below_drewNv (Below.refl _ _) _⟩
    · have kb : bits BinOp.and IntKind.i32 4 15 = 4 := by decide
      have k0 : Utf8.encode (((({ data := #[48, 49, 50, 51, 52, 53, 54, 55, 56, 57, 97, 98, 99, 100, 101, 102] } : ByteArray)[0]).toNat : Nat) : Int) = ⟨#[48]⟩ := by decide
      have k4 : Utf8.encode (((({ data := #[48, 49, 50, 51, 52, 53, 54, 55, 56, 57, 97, 98, 99, 100, 101, 102] } : ByteArray)[4]).toNat : Nat) : Int) = ⟨#[52]⟩ := by decide
      go_enter Tryd.func73, Tryd.ntmps73
      go_wp2
      go_quiet (fail)
      go_wp2
      go_ret
      exact ⟨rfl, Go.Proofs.below_drewNv (Below.refl _ _) _⟩
    · have kb : bits BinOp.and IntKind.i32 5 15 = 5 := by decide
      have k0 : Utf8.encode (((({ data := #[48, 49, 50, 51, 52, 53, 54, 55, 56, 57, 97, 98, 99, 100, 101, 102] } : ByteArray)[0]).toNat : Nat) : Int) = ⟨#[48]⟩ := by decide
      have k5 : Utf8.encode (((({ data := #[48, 49, 50, 51, 52, 53, 54, 55, 56, 57, 97, 98, 99, 100, 101, 102] } : ByteArray)[5]).toNat : Nat) : Int) = ⟨#[53]⟩ := by decide
      go_enter Tryd.func73, Tryd.ntmps73
      go_wp2
      go_quiet (fail)
      go_wp2
      go_ret
      exact ⟨rfl, Go.Proofs.below_drewNv (Below.refl _ _) _⟩
    · have kb : bits BinOp.and IntKind.i32 6 15 = 6 := by decide
      have k0 : Utf8.encode (((({ data := #[48, 49, 50, 51, 52, 53, 54, 55, 56, 57, 97, 98, 99, 100, 101, 102] } : ByteArray)[0]).toNat : Nat) : Int) = ⟨#[48]⟩ := by decide
      have k6 : Utf8.encode (((({ data := #[48, 49, 50, 51, 52, 53, 54, 55, 56, 57, 97, 98, 99, 100, 101, 102] } : ByteArray)[6]).toNat : Nat) : Int) = ⟨#[54]⟩ := by decide
      go_enter Tryd.func73, Tryd.ntmps73
      go_wp2
      go_quiet (fail)
      go_wp2
      go_ret
      exact ⟨rfl, Go.Proofs.below_drewNv (Below.refl _ _) _⟩
    · have kb : bits BinOp.and IntKind.i32 7 15 = 7 := by decide
      have k0 : Utf8.encode (((({ data := #[48, 49, 50, 51, 52, 53, 54, 55, 56, 57, 97, 98, 99, 100, 101, 102] } : ByteArray)[0]).toNat : Nat) : Int) = ⟨#[48]⟩ := by decide
      have k7 : Utf8.encode (((({ data := #[48, 49, 50, 51, 52, 53, 54, 55, 56, 57, 97, 98, 99, 100, 101, 102] } : ByteArray)[7]).toNat : Nat) : Int) = ⟨#[55]⟩ := by decide
      go_enter Tryd.func73, Tryd.ntmps73
      go_wp2
      go_quiet (fail)
      go_wp2
      go_ret
      exact ⟨rfl, Go.Proofs.below_drewNv (Below.refl _ _) _⟩
    · have kb : bits BinOp.and IntKind.i32 8 15 = 8 := by decide
      have k0 : Utf8.encode (((({ data := #[48, 49, 50, 51, 52, 53, 54, 55, 56, 57, 97, 98, 99, 100, 101, 102] } : ByteArray)[0]).toNat : Nat) : Int) = ⟨#[48]⟩ := by decide
      have k8 : Utf8.encode (((({ data := #[48, 49, 50, 51, 52, 53, 54, 55, 56, 57, 97, 98, 99, 100, 101, 102] } : ByteArray)[8]).toNat : Nat) : Int) = ⟨#[56]⟩ := by decide
      go_enter Tryd.func73, Tryd.ntmps73
      go_wp2
      go_quiet (fail)
      go_wp2
      go_ret
      exact ⟨rfl, Go.Proofs.below_drewNv (Below.refl _ _) _⟩
    · have kb : bits BinOp.and IntKind.i32 11 15 = 11 := by decide
      have k0 : Utf8.encode (((({ data := #[48, 49, 50, 51, 52, 53, 54, 55, 56, 57, 97, 98, 99, 100, 101, 102] } : ByteArray)[0]).toNat : Nat) : Int) = ⟨#[48]⟩ := by decide
      have k11 : Utf8.encode (((({ data := #[48, 49, 50, 51, 52, 53, 54, 55, 56, 57, 97, 98, 99, 100, 101, 102] } : ByteArray)[11]).toNat : Nat) : Int) = ⟨#[98]⟩ := by decide
      go_enter Tryd.func73, Tryd.ntmps73
      go_wp2
      go_quiet (fail)
      go_wp2
      go_ret
      exact ⟨rfl, Go.Proofs.below_drewNv (Below.refl _ _) _⟩
    · have kb : bits BinOp.and IntKind.i32 12 15 = 12 := by decide
      have k0 : Utf8.encode (((({ data := #[48, 49, 50, 51, 52, 53, 54, 55, 56, 57, 97, 98, 99, 100, 101, 102] } : ByteArray)[0]).toNat : Nat) : Int) = ⟨#[48]⟩ := by decide
      have k12 : Utf8.encode (((({ data := #[48, 49, 50, 51, 52, 53, 54, 55, 56, 57, 97, 98, 99, 100, 101, 102] } : ByteArray)[12]).toNat : Nat) : Int) = ⟨#[99]⟩ := by decide
      go_enter Tryd.func73, Tryd.ntmps73
      go_wp2
      go_quiet (fail)
      go_wp2
      go_ret
      exact ⟨rfl, Go.Proofs.below_drewNv (Below.refl _ _) _⟩
    · have kb : bits BinOp.and IntKind.i32 14 15 = 14 := by decide
      have k0 : Utf8.encode (((({ data := #[48, 49, 50, 51, 52, 53, 54, 55, 56, 57, 97, 98, 99, 100, 101, 102] } : ByteArray)[0]).toNat : Nat) : Int) = ⟨#[48]⟩ := by decide
      have k14 : Utf8.encode (((({ data := #[48, 49, 50, 51, 52, 53, 54, 55, 56, 57, 97, 98, 99, 100, 101, 102] } : ByteArray)[14]).toNat : Nat) : Int) = ⟨#[101]⟩ := by decide
      go_enter Tryd.func73, Tryd.ntmps73
      go_wp2
      go_quiet (fail)
      go_wp2
      go_ret
      exact ⟨rfl, Go.Proofs.below_drewNv (Below.refl _ _) _⟩
    · have kb : bits BinOp.and IntKind.i32 15 15 = 15 := by decide
      have k0 : Utf8.encode (((({ data := #[48, 49, 50, 51, 52, 53, 54, 55, 56, 57, 97, 98, 99, 100, 101, 102] } : ByteArray)[0]).toNat : Nat) : Int) = ⟨#[48]⟩ := by decide
      have k15 : Utf8.encode (((({ data := #[48, 49, 50, 51, 52, 53, 54, 55, 56, 57, 97, 98, 99, 100, 101, 102] } : ByteArray)[15]).toNat : Nat) : Int) = ⟨#[102]⟩ := by decide
      go_enter Tryd.func73, Tryd.ntmps73
      go_wp2
      go_quiet (fail)
      go_wp2
      go_ret
      exact ⟨rfl, Go.Proofs.below_drewNv (Below.refl _ _) _⟩
    · have kb : bits BinOp.and IntKind.i32 16 15 = 0 := by decide
      have k0 : Utf8.encode (((({ data := #[48, 49, 50, 51, 52, 53, 54, 55, 56, 57, 97, 98, 99, 100, 101, 102] } : ByteArray)[0]).toNat : Nat) : Int) = ⟨#[48]⟩ := by decide
      have k1 : Utf8.encode (((({ data := #[48, 49, 50, 51, 52, 53, 54, 55, 56, 57, 97, 98, 99, 100, 101, 102] } : ByteArray)[1]).toNat : Nat) : Int) = ⟨#[49]⟩ := by decide
      go_enter Tryd.func73, Tryd.ntmps73
      go_wp2
      go_quiet (fail)
      go_wp2
      go_ret
      exact ⟨rfl, Go.Proofs.below_drewNv (Below.refl _ _) _⟩
    · have kb : bits BinOp.and IntKind.i32 17 15 = 1 := by decide
      have k1 : Utf8.encode (((({ data := #[48, 49, 50, 51, 52, 53, 54, 55, 56, 57, 97, 98, 99, 100, 101, 102] } : ByteArray)[1]).toNat : Nat) : Int) = ⟨#[49]⟩ := by decide
      go_enter Tryd.func73, Tryd.ntmps73
      go_wp2
      go_quiet (fail)
      go_wp2
      go_ret
      exact ⟨rfl, Go.Proofs.below_drewNv (Below.refl _ _) _⟩
    · have kb : bits BinOp.and IntKind.i32 18 15 = 2 := by decide
      have k1 : Utf8.encode (((({ data := #[48, 49, 50, 51, 52, 53, 54, 55, 56, 57, 97, 98, 99, 100, 101, 102] } : ByteArray)[1]).toNat : Nat) : Int) = ⟨#[49]⟩ := by decide
      have k2 : Utf8.encode (((({ data := #[48, 49, 50, 51, 52, 53, 54, 55, 56, 57, 97, 98, 99, 100, 101, 102] } : ByteArray)[2]).toNat : Nat) : Int) = ⟨#[50]⟩ := by decide
      go_enter Tryd.func73, Tryd.ntmps73
      go_wp2
      go_quiet (fail)
      go_wp2
      go_ret
      exact ⟨rfl, Go.Proofs.below_drewNv (Below.refl _ _) _⟩
    · have kb : bits BinOp.and IntKind.i32 19 15 = 3 := by decide
      have k1 : Utf8.encode (((({ data := #[48, 49, 50, 51, 52, 53, 54, 55, 56, 57, 97, 98, 99, 100, 101, 102] } : ByteArray)[1]).toNat : Nat) : Int) = ⟨#[49]⟩ := by decide
      have k3 : Utf8.encode (((({ data := #[48, 49, 50, 51, 52, 53, 54, 55, 56, 57, 97, 98, 99, 100, 101, 102] } : ByteArray)[3]).toNat : Nat) : Int) = ⟨#[51]⟩ := by decide
      go_enter Tryd.func73, Tryd.ntmps73
      go_wp2
      go_quiet (fail)
      go_wp2
      go_ret
      exact ⟨rfl, Go.Proofs.below_drewNv (Below.refl _ _) _⟩
    · have kb : bits BinOp.and IntKind.i32 20 15 = 4 := by decide
      have k1 : Utf8.encode (((({ data := #[48, 49, 50, 51, 52, 53, 54, 55, 56, 57, 97, 98, 99, 100, 101, 102] } : ByteArray)[1]).toNat : Nat) : Int) = ⟨#[49]⟩ := by decide
      have k4 : Utf8.encode (((({ data := #[48, 49, 50, 51, 52, 53, 54, 55, 56, 57, 97, 98, 99, 100, 101, 102] } : ByteArray)[4]).toNat : Nat) : Int) = ⟨#[52]⟩ := by decide
      go_enter Tryd.func73, Tryd.ntmps73
      go_wp2
      go_quiet (fail)
      go_wp2
      go_ret
      exact ⟨rfl, Go.Proofs.below_drewNv (Below.refl _ _) _⟩
    · have kb : bits BinOp.and IntKind.i32 21 15 = 5 := by decide
      have k1 : Utf8.encode (((({ data := #[48, 49, 50, 51, 52, 53, 54, 55, 56, 57, 97, 98, 99, 100, 101, 102] } : ByteArray)[1]).toNat : Nat) : Int) = ⟨#[49]⟩ := by decide
      have k5 : Utf8.encode (((({ data := #[48, 49, 50, 51, 52, 53, 54, 55, 56, 57, 97, 98, 99, 100, 101, 102] } : ByteArray)[5]).toNat : Nat) : Int) = ⟨#[53]⟩ := by decide
      go_enter Tryd.func73, Tryd.ntmps73
      go_wp2
      go_quiet (fail)
      go_wp2
      go_ret
      exact ⟨rfl, Go.Proofs.below_drewNv (Below.refl _ _) _⟩
    · have kb : bits BinOp.and IntKind.i32 22 15 = 6 := by decide
      have k1 : Utf8.encode (((({ data := #[48, 49, 50, 51, 52, 53, 54, 55, 56, 57, 97, 98, 99, 100, 101, 102] } : ByteArray)[1]).toNat : Nat) : Int) = ⟨#[49]⟩ := by decide
      have k6 : Utf8.encode (((({ data := #[48, 49, 50, 51, 52, 53, 54, 55, 56, 57, 97, 98, 99, 100, 101, 102] } : ByteArray)[6]).toNat : Nat) : Int) = ⟨#[54]⟩ := by decide
      go_enter Tryd.func73, Tryd.ntmps73
      go_wp2
      go_quiet (fail)
      go_wp2
      go_ret
      exact ⟨rfl, Go.Proofs.below_drewNv (Below.refl _ _) _⟩
    · have kb : bits BinOp.and IntKind.i32 23 15 = 7 := by decide
      have k1 : Utf8.encode (((({ data := #[48, 49, 50, 51, 52, 53, 54, 55, 56, 57, 97, 98, 99, 100, 101, 102] } : ByteArray)[1]).toNat : Nat) : Int) = ⟨#[49]⟩ := by decide
      have k7 : Utf8.encode (((({ data := #[48, 49, 50, 51, 52, 53, 54, 55, 56, 57, 97, 98, 99, 100, 101, 102] } : ByteArray)[7]).toNat : Nat) : Int) = ⟨#[55]⟩ := by decide
      go_enter Tryd.func73, Tryd.ntmps73
      go_wp2
      go_quiet (fail)
      go_wp2
      go_ret
      exact ⟨rfl, Go.Proofs.below_drewNv (Below.refl _ _) _⟩
    · have kb : bits BinOp.and IntKind.i32 24 15 = 8 := by decide
      have k1 : Utf8.encode (((({ data := #[48, 49, 50, 51, 52, 53, 54, 55, 56, 57, 97, 98, 99, 100, 101, 102] } : ByteArray)[1]).toNat : Nat) : Int) = ⟨#[49]⟩ := by decide
      have k8 : Utf8.encode (((({ data := #[48, 49, 50, 51, 52, 53, 54, 55, 56, 57, 97, 98, 99, 100, 101, 102] } : ByteArray)[8]).toNat : Nat) : Int) = ⟨#[56]⟩ := by decide
      go_enter Tryd.func73, Tryd.ntmps73
      go_wp2
      go_quiet (fail)
      go_wp2
      go_ret
      exact ⟨rfl, Go.Proofs.below_drewNv (Below.refl _ _) _⟩
    · have kb : bits BinOp.and IntKind.i32 25 15 = 9 := by decide
      have k1 : Utf8.encode (((({ data := #[48, 49, 50, 51, 52, 53, 54, 55, 56, 57, 97, 98, 99, 100, 101, 102] } : ByteArray)[1]).toNat : Nat) : Int) = ⟨#[49]⟩ := by decide
      have k9 : Utf8.encode (((({ data := #[48, 49, 50, 51, 52, 53, 54, 55, 56, 57, 97, 98, 99, 100, 101, 102] } : ByteArray)[9]).toNat : Nat) : Int) = ⟨#[57]⟩ := by decide
      go_enter Tryd.func73, Tryd.ntmps73
      go_wp2
      go_quiet (fail)
      go_wp2
      go_ret
      exact ⟨rfl, Go.Proofs.below_drewNv (Below.refl _ _) _⟩
    · have kb : bits BinOp.and IntKind.i32 26 15 = 10 := by decide
      have k1 : Utf8.encode (((({ data := #[48, 49, 50, 51, 52, 53, 54, 55, 56, 57, 97, 98, 99, 100, 101, 102] } : ByteArray)[1]).toNat : Nat) : Int) = ⟨#[49]⟩ := by decide
      have k10 : Utf8.encode (((({ data := #[48, 49, 50, 51, 52, 53, 54, 55, 56, 57, 97, 98, 99, 100, 101, 102] } : ByteArray)[10]).toNat : Nat) : Int) = ⟨#[97]⟩ := by decide
      go_enter Tryd.func73, Tryd.ntmps73
      go_wp2
      go_quiet (fail)
      go_wp2
      go_ret
      exact ⟨rfl, Go.Proofs.below_drewNv (Below.refl _ _) _⟩
    · have kb : bits BinOp.and IntKind.i32 27 15 = 11 := by decide
      have k1 : Utf8.encode (((({ data := #[48, 49, 50, 51, 52, 53, 54, 55, 56, 57, 97, 98, 99, 100, 101, 102] } : ByteArray)[1]).toNat : Nat) : Int) = ⟨#[49]⟩ := by decide
      have k11 : Utf8.encode (((({ data := #[48, 49, 50, 51, 52, 53, 54, 55, 56, 57, 97, 98, 99, 100, 101, 102] } : ByteArray)[11]).toNat : Nat) : Int) = ⟨#[98]⟩ := by decide
      go_enter Tryd.func73, Tryd.ntmps73
      go_wp2
      go_quiet (fail)
      go_wp2
      go_ret
      exact ⟨rfl, Go.Proofs.below_drewNv (Below.refl _ _) _⟩
    · have kb : bits BinOp.and IntKind.i32 28 15 = 12 := by decide
      have k1 : Utf8.encode (((({ data := #[48, 49, 50, 51, 52, 53, 54, 55, 56, 57, 97, 98, 99, 100, 101, 102] } : ByteArray)[1]).toNat : Nat) : Int) = ⟨#[49]⟩ := by decide
      have k12 : Utf8.encode (((({ data := #[48, 49, 50, 51, 52, 53, 54, 55, 56, 57, 97, 98, 99, 100, 101, 102] } : ByteArray)[12]).toNat : Nat) : Int) = ⟨#[99]⟩ := by decide
      go_enter Tryd.func73, Tryd.ntmps73
      go_wp2
      go_quiet (fail)
      go_wp2
      go_ret
      exact ⟨rfl, Go.Proofs.below_drewNv (Below.refl _ _) _⟩
    · have kb : bits BinOp.and IntKind.i32 29 15 = 13 := by decide
      have k1 : Utf8.encode (((({ data := #[48, 49, 50, 51, 52, 53, 54, 55, 56, 57, 97, 98, 99, 100, 101, 102] } : ByteArray)[1]).toNat : Nat) : Int) = ⟨#[49]⟩ := by decide
      have k13 : Utf8.encode (((({ data := #[48, 49, 50, 51, 52, 53, 54, 55, 56, 57, 97, 98, 99, 100, 101, 102] } : ByteArray)[13]).toNat : Nat) : Int) = ⟨#[100]⟩ := by decide
      go_enter Tryd.func73, Tryd.ntmps73
      go_wp2
      go_quiet (fail)
      go_wp2
      go_ret
      exact ⟨rfl, Go.Proofs.below_drewNv (Below.refl _ _) _⟩
    · have kb : bits BinOp.and IntKind.i32 30 15 = 14 := by decide
      have k1 : Utf8.encode (((({ data := #[48, 49, 50, 51, 52, 53, 54, 55, 56, 57, 97, 98, 99, 100, 101, 102] } : ByteArray)[1]).toNat : Nat) : Int) = ⟨#[49]⟩ := by decide
      have k14 : Utf8.encode (((({ data := #[48, 49, 50, 51, 52, 53, 54, 55, 56, 57, 97, 98, 99, 100, 101, 102] } : ByteArray)[14]).toNat : Nat) : Int) = ⟨#[101]⟩ := by decide
      go_enter Tryd.func73, Tryd.ntmps73
      go_wp2
      go_quiet (fail)
      go_wp2
      go_ret
      exact ⟨rfl, Go.Proofs.below_drewNv (Below.refl _ _) _⟩
    · have kb : bits BinOp.and IntKind.i32 31 15 = 15 := by decide
      have k1 : Utf8.encode (((({ data := #[48, 49, 50, 51, 52, 53, 54, 55, 56, 57, 97, 98, 99, 100, 101, 102] } : ByteArray)[1]).toNat : Nat) : Int) = ⟨#[49]⟩ := by decide
      have k15 : Utf8.encode (((({ data := #[48, 49, 50, 51, 52, 53, 54, 55, 56, 57, 97, 98, 99, 100, 101, 102] } : ByteArray)[15]).toNat : Nat) : Int) = ⟨#[102]⟩ := by decide
      go_enter Tryd.func73, Tryd.ntmps73
      go_wp2
      go_quiet (fail)
      go_wp2
      go_ret
      exact ⟨rfl, Go.Proofs.below_drewNv (Below.refl _ _) _⟩
    · have kb : bits BinOp.and IntKind.i32 127 15 = 15 := by decide
      have k7 : Utf8.encode (((({ data := #[48, 49, 50, 51, 52, 53, 54, 55, 56, 57, 97, 98, 99, 100, 101, 102] } : ByteArray)[7]).toNat : Nat) : Int) = ⟨#[55]⟩ := by decide
      have k15 : Utf8.encode (((({ data := #[48, 49, 50, 51, 52, 53, 54, 55, 56, 57, 97, 98, 99, 100, 101, 102] } : ByteArray)[15]).toNat : Nat) : Int) = ⟨#[102]⟩ := by decide
      go_enter Tryd.func73, Tryd.ntmps73
      go_wp2
      go_quiet (fail)
      go_wp2
      go_ret
      exact ⟨rfl, Go.Proofs.below_drewNv (Below.refl _ _) _⟩
  · have he : Qm.esc r = [] := by unfold Qm.esc; simp [h34, h92, h10, h13, h9, hx]
    have n1 : ((r : Int) == 34) = false := by simp; omega
    have n2 : ((r : Int) == 92) = false := by simp; omega
    have n3 : ((r : Int) == 10) = false := by simp; omega
    have n4 : ((r : Int) == 13) = false := by simp; omega
    have n5 : ((r : Int) == 9) = false := by simp; omega
    have n6 : ¬ (r : Int) < 32 := by omega
    have n7 : ((r : Int) == 127) = false := by simp; omega
    rw [he]
    go_enter Tryd.func73, Tryd.ntmps73
    go_wp2
    go_ret
    exact ⟨rfl, Below.refl _ _⟩
end Go.Proofs.YtppkknmgdahniaaDoor.Nq

namespace Go.Proofs.YtppkknmgdahniaaDoor.Nq
set_option maxRecDepth 100000
open Go.RowKit
set_option linter.unusedVariables false
set_option linter.unusedSimpArgs false

/-- A builder stands as it stood, if nothing that lay has turned. -/
theorem stays {T e : TypeId} {B b : Nat} {bs : List Value} {W W' : World} (h : Lib.IsBuilderF T e B b bs W) (hk : Below W.heap.size W W') : Lib.IsBuilderF T e B b bs W' := by
  have one : ∀ p, Lib.BuilderAtF T e B b p bs W → Lib.BuilderAtF T e B b p bs W' := fun p g => by
    have hlt := g.lt
    obtain ⟨g1, v, g2, g3, g4⟩ := g
    refine ⟨g1, v, ?_, ?_, g4⟩
    · rw [hk.block b hlt]; exact g2
    · exact g3.kept (row := none) ⟨hk.os, hk.tape, hk.output, hk.size, fun k hl _ => hk.block k hl⟩ (Classical.em _)
  rcases h with h | h
  · exact .inl (one _ h)
  · exact .inr (one _ h)
theorem sign_le (l : List UInt8) (hne : l ≠ []) : (Qm.sign l).length ≤ 6 * (Lib.decodeL l).2 := by
  have h1 := Lib.decodeL_width l
  unfold Qm.sign
  split
  · rw [Qm.piece_len l hne]; omega
  · rename_i h
    have := Qm.esc_length _ h
    omega
theorem quo_le (l : List UInt8) : (Qm.quo l).length ≤ 6 * l.length := by
  refine Qm.runes (P := fun l => (Qm.quo l).length ≤ 6 * l.length) (by simp [Qm.quo_nil]) ?_ l
  intro l hne ih
  have h1 := sign_le l hne
  have h2 := Lib.decodeL_le l hne
  show (Qm.quo l).length ≤ 6 * l.length
  rw [List.length_drop] at ih
  rw [Qm.quo_step l hne, List.length_append]
  omega
theorem drop_take_more (l : List UInt8) (a p k : Nat) (h : a ≤ p) : (l.drop a).take (p + k - a) = (l.drop a).take (p - a) ++ (l.drop p).take k := by
  rw [show p + k - a = (p - a) + k by omega, List.take_add, List.drop_drop, show a + (p - a) = p by omega]
theorem width_one (l : List UInt8) (h : (Lib.decodeL l).1 < 128) : (Lib.decodeL l).2 = 1 := by
  rw [Lib.decodeL_N] at h ⊢
  rcases Lib.decodeN_shape l.length (l.getD 0 0).toNat (l.getD 1 0).toNat (l.getD 2 0).toNat (l.getD 3 0).toNat with ⟨c, e⟩ | ⟨c1, c2, c3, cv, e⟩ | ⟨c1, c2, c3, c4, cv, cs, e⟩ | ⟨c1, c2, c3, c4, c5, cv, cw, e⟩ | e
  all_goals first | (rw [e]; done) | (rw [e] at h; dsimp only at h; omega)

set_option maxHeartbeats 4000000 in
set_option maxRecDepth 1000000 in
theorem quote_any (s : ByteArray) (w : World) (hs : s.size ≤ 1099511627776) :
    Calls Tryd.prog 50 #[.string s] w fun e w' => e = .returned (.string ⟨(Qm.quoteL s.data.toList).toArray⟩) ∧ Below w.heap.size w w' := by
  have hql := quo_le s.data.toList
  rw [← Lib.size_eq] at hql
  go_enter Tryd.func50, Tryd.ntmps50
  go_wp2_with (go_at_call 47; refine (Tryd.Builder_WriteByte_k w.heap.size w.heap.size [] 34 _ (Lib.IsBuilderF.of (Lib.fresh_isBuilder 83 5 w)) (by simp) (by simp)).mono ?_)
  rintro e W0 ⟨rfl, i0, b0, k0⟩
  have hbw0 : Below w.heap.size w W0 := ((Below.refl _ w).alloc (Nat.le_refl _) _).trans b0
  have hI0 : Lib.IsBuilderF 83 5 w.heap.size w.heap.size (Lib.byteCells [34]) W0 := Or.inr i0
  have hlt0 : w.heap.size < W0.heap.size := i0.lt
  clear i0 b0 k0
  go_wp2
  go_loopw [4, 5, 6, 7] (fun x _ _ _ wr => ∃ (wn pos : Nat) (acc : List UInt8), x = .int .i64 (wn : Int) ∧ Lib.IsBuilderF 83 5 w.heap.size w.heap.size (Lib.byteCells acc) wr ∧ wr.heap[W0.heap.size]? = some (.stringIter s pos) ∧ Below w.heap.size w wr ∧
    wn ≤ pos ∧ pos ≤ s.size ∧ acc ++ (s.data.toList.drop wn).take (pos - wn) ++ Qm.quo (s.data.toList.drop pos) = 34 :: Qm.quo s.data.toList) (fun _ _ _ _ wr => s.size - wr.iterPos W0.heap.size)
  case atStart =>
    refine ⟨0, 0, [34], rfl, hI0.alloc _, ?_, hbw0.alloc (by omega) _, by omega, by omega, by simp⟩
    have := World.iter_heap W0 s 0
    simpa using this
  case round =>
    obtain ⟨wn, pos, acc, rfl, hI, hit, hbw, hwp, hps, hacc⟩ := hrel
    have hsz : W0.heap.size < wr.heap.size := (Array.getElem?_eq_some_iff.1 hit).1
    have hal : acc.length ≤ 1 + 6 * s.size := by
      have := congrArg List.length hacc
      simp only [List.length_append, List.length_cons] at this
      omega
    by_cases hp : pos < s.size
    · have hnx : ∀ ty, (Instr.next (.pointer (some ⟨W0.heap.size, 0, none⟩)) true ty).run Tryd.prog wr = _ := fun ty => Lib.run_next_any_at wr W0.heap.size s pos ty hit hp
      obtain ⟨hne, hd, hdd, hw1, hw2⟩ := at_step s pos hp
      have hst := Qm.quo_step _ hne
      have hsc := Qm.decode_sc (s.data.toList.drop pos)
      rw [hd] at hsc
      have hr1 : (Utf8.decode s pos).1 ≤ 1114111 := hsc.1
      rw [hd, hdd] at hst
      have hI2 := hI.iterAt hit (pos + (Utf8.decode s pos).2)
      have hit2 := Lib.iterAt_heap wr W0.heap.size s pos (pos + (Utf8.decode s pos).2) hit
      have hbw2 := Lib.below_iterAt hbw (k := W0.heap.size) (by omega) s (pos + (Utf8.decode s pos).2)
      have hz2 : (wr.iterAt W0.heap.size s (pos + (Utf8.decode s pos).2)).heap.size = wr.heap.size := Lib.iterAt_size ..
      have hsg : Qm.sign (s.data.toList.drop pos) = if Qm.esc (Utf8.decode s pos).1 = [] then (s.data.toList.drop pos).take (Utf8.decode s pos).2 else Qm.esc (Utf8.decode s pos).1 := by unfold Qm.sign; rw [hd]
      go_wp2_with (go_at_call 73; refine (escape_any (Utf8.decode s pos).1 _ hr1).mono ?_)
      rintro e W1 ⟨rfl, b1⟩
      have hI3 := stays hI2 b1
      have hit3 : W1.heap[W0.heap.size]? = _ := (b1.block W0.heap.size (by rw [hz2]; omega)).trans hit2
      have hbw3 : Below w.heap.size w W1 := hbw2.trans (b1.mono (by rw [hz2]; omega))
      have hz3 : W0.heap.size < W1.heap.size := (Array.getElem?_eq_some_iff.1 hit3).1
      by_cases he : Qm.esc (Utf8.decode s pos).1 = []
      · rw [he]
        rw [if_pos he] at hsg
        go_wp2
        go_roundw
        case rel =>
          refine ⟨wn, pos + (Utf8.decode s pos).2, acc, rfl, hI3, hit3, hbw3, by omega, hw2, ?_⟩
          rw [← hacc, hst, hsg, drop_take_more _ _ _ _ hwp]
          simp [List.append_assoc]
        case measure =>
          simp only [World.iterPos, hit3, hit]
          omega
      · rw [if_neg he] at hsg
        have hone := width_one (s.data.toList.drop pos) (by rw [hd]; exact Qm.esc_small he)
        rw [hd] at hone
        have hel := (Qm.esc_length _ he).2
        obtain ⟨E, hE⟩ : ∃ E, Qm.esc (Utf8.decode s pos).1 = E := ⟨_, rfl⟩
        rw [hE] at he hel hsg ⊢
        have hEn : E.isEmpty = false := by
          cases E with
          | nil => exact absurd rfl he
          | cons c t => rfl
        have hz4 : w.heap.size ≤ W1.heap.size := by omega
        have hwpz : (wn : Int) ≤ (pos : Int) := by omega
        have hpsz : (pos : Int) ≤ (s.size : Int) := by omega
        have hxs : (s.extract wn pos).size ≤ s.size := by rw [ByteArray.size_extract]; omega
        go_wp2_with (go_at_call 49; refine (Tryd.Builder_WriteString_k w.heap.size w.heap.size _ (s.extract wn pos) _ hI3 (by rw [Lib.byteCells_length]; omega) hz4).mono ?_)
        rintro e W2 ⟨rfl, i2, b2, k2⟩
        rw [Lib.strCells_eq, ← Lib.byteCells_append, Lib.extract_data] at i2
        have hit4 := k2.iter hit3 (by omega)
        have hz5 : W0.heap.size < W2.heap.size := (Array.getElem?_eq_some_iff.1 hit4).1
        go_wp2_with (go_at_call 49; refine (Tryd.Builder_WriteString_k w.heap.size w.heap.size _ ⟨E.toArray⟩ _ (Or.inr i2) (by rw [Lib.byteCells_length, List.length_append, ← Lib.extract_data, ← Lib.size_eq, show ((⟨E.toArray⟩ : ByteArray)).size = E.length from by simp [ByteArray.size]]; omega) (by omega)).mono ?_)
        rintro e W3 ⟨rfl, i3, b3, k3⟩
        rw [Lib.strCells_eq, ← Lib.byteCells_append] at i3
        have hit5 := k3.iter hit4 (by omega)
        go_wp2
        go_roundw
        case rel =>
          refine ⟨pos + 1, pos + (Utf8.decode s pos).2, acc ++ (s.data.toList.drop wn).take (pos - wn) ++ E, rfl, Or.inr i3, hit5, (hbw3.trans b2).trans b3, by omega, hw2, ?_⟩
          rw [← hacc, hst, hsg, hone, Nat.sub_self, List.take_zero, List.append_nil]
          simp [List.append_assoc]
        case measure =>
          simp only [World.iterPos, hit5, hit]
          omega
    · have hnx : ∀ ty, (Instr.next (.pointer (some ⟨W0.heap.size, 0, none⟩)) true ty).run Tryd.prog wr = _ := fun ty => Lib.run_next_end_at wr W0.heap.size s pos ty hit hp
      have hpe : pos = s.size := by omega
      have hwz : (wn : Int) ≤ (s.size : Int) := by omega
      have hxs : (s.extract wn s.size).size ≤ s.size := by rw [ByteArray.size_extract]; omega
      go_wp2_with (go_at_call 49; refine (Tryd.Builder_WriteString_k w.heap.size w.heap.size _ (s.extract wn s.size) _ hI (by rw [Lib.byteCells_length]; omega) (by omega)).mono ?_)
      rintro e W2 ⟨rfl, i2, b2, k2⟩
      rw [Lib.strCells_eq, ← Lib.byteCells_append, Lib.extract_data] at i2
      have hz5 : w.heap.size ≤ W2.heap.size := Nat.le_trans (by omega) b2.size
      go_wp2_with (go_at_call 47; refine (Tryd.Builder_WriteByte_k w.heap.size w.heap.size _ 34 _ (Or.inr i2) (by rw [Lib.byteCells_length, List.length_append, ← Lib.extract_data, ← Lib.size_eq]; omega) hz5).mono ?_)
      rintro e W3 ⟨rfl, i3, b3, k3⟩
      have hz6 : w.heap.size ≤ W3.heap.size := Nat.le_trans hz5 b3.size
      have i4 : Lib.IsBuilderF 83 5 w.heap.size w.heap.size (Lib.byteCells (Qm.quoteL s.data.toList)) W3 := by
        rw [at_end s pos hp, Qm.quo_nil, List.append_nil, hpe] at hacc
        have e1 : Qm.quoteL s.data.toList = (acc ++ (s.data.toList.drop wn).take (s.size - wn)) ++ [34] := by rw [hacc]; rfl
        rw [e1, Lib.byteCells_append]
        exact Or.inr i3
      go_wp2_with (go_at_call 53; refine (Tryd.Builder_String_any_k w.heap.size w.heap.size _ _ i4 hz6).mono ?_)
      rintro e W4 ⟨rfl, i5, b5, k5⟩
      go_wp2
      go_ret
      exact ⟨rfl, ((hbw.trans b2).trans b3).trans b5⟩
end Go.Proofs.YtppkknmgdahniaaDoor.Nq

namespace Go.Proofs.YtppkknmgdahniaaDoor.Nq
set_option maxRecDepth 100000
open Go.RowKit
set_option linter.unusedVariables false
set_option linter.unusedSimpArgs false

end Go.Proofs.YtppkknmgdahniaaDoor.Nq

namespace Go.Proofs.YtppkknmgdahniaaDoor.Nq
set_option maxRecDepth 100000
open Go.RowKit
set_option linter.unusedVariables false
set_option linter.unusedSimpArgs false

end Go.Proofs.YtppkknmgdahniaaDoor.Nq

namespace Go.Proofs.YtppkknmgdahniaaDoor.Nq
set_option maxRecDepth 100000
open Go.RowKit
set_option linter.unusedVariables false
set_option linter.unusedSimpArgs false

end Go.Proofs.YtppkknmgdahniaaDoor.Nq

namespace Go.Proofs.YtppkknmgdahniaaDoor.Nq
set_option maxRecDepth 100000
open Go.RowKit
set_option linter.unusedVariables false
set_option linter.unusedSimpArgs false

theorem hide {p : Prop} (h : p) : Hid p := h
theorem unhide {p : Prop} (h : Hid p) : p := h
end Go.Proofs.YtppkknmgdahniaaDoor.Nq

namespace Go.Proofs.YtppkknmgdahniaaDoor.Nq
set_option maxRecDepth 100000
open Go.RowKit
set_option linter.unusedVariables false
set_option linter.unusedSimpArgs false

theorem quote_c (t u : ByteArray) (w : World) (hs : t.size ≤ 1099511627776) (h : Qm.quoteL t.data.toList = u.data.toList) :
    Calls Tryd.prog 50 #[.string t] w fun e w' => e = .returned (.string u) ∧ Below w.heap.size w w' := by
  have := quote_any t w hs
  rwa [h, Array.toArray_toList] at this
end Go.Proofs.YtppkknmgdahniaaDoor.Nq
