/- What is proved here: what Cut and escape of package quote do, walked; conditions: as each theorem states. -/
import Derived.Test.YtomhgafpjpnmdaaGreatDoorQa
import Derived.Deep.QuietTactic
import Derived.BigQuiet
namespace Go.Proofs.YtomhgafpjpnmdaaGreatDoor
open Go.RowKit
set_option linter.unusedVariables false
set_option linter.unusedSimpArgs false

theorem ext_list (s : ByteArray) (a b : Nat) : s.extract a b = ⟨((s.data.toList.drop a).take (b - a)).toArray⟩ := by
  have h := Lib.extract_data s a b
  cases hx : s.extract a b with
  | mk d =>
    rw [hx] at h
    have : d = ((s.data.toList.drop a).take (b - a)).toArray := by rw [← h]
    rw [this]

set_option maxHeartbeats 4000000 in
set_option maxRecDepth 1000000 in
theorem escape_any (r : Nat) (w : World) (hr : r ≤ 1114111) :
    Calls Tryz.prog 53 #[.int .i32 (r : Int)] w fun e w' => e = .returned (.string ⟨(Qm.esc r).toArray⟩) ∧ Below w.heap.size w w' := by
  by_cases h34 : r = 34
  · subst h34
    go_enter Tryz.func53, Tryz.ntmps53
    go_wp2
    go_ret
    exact ⟨rfl, Below.refl _ _⟩
  by_cases h92 : r = 92
  · subst h92
    go_enter Tryz.func53, Tryz.ntmps53
    go_wp2
    go_ret
    exact ⟨rfl, Below.refl _ _⟩
  by_cases h10 : r = 10
  · subst h10
    go_enter Tryz.func53, Tryz.ntmps53
    go_wp2
    go_ret
    exact ⟨rfl, Below.refl _ _⟩
  by_cases h13 : r = 13
  · subst h13
    go_enter Tryz.func53, Tryz.ntmps53
    go_wp2
    go_ret
    exact ⟨rfl, Below.refl _ _⟩
  by_cases h9 : r = 9
  · subst h9
    go_enter Tryz.func53, Tryz.ntmps53
    go_wp2
    go_ret
    exact ⟨rfl, Below.refl _ _⟩
  by_cases hx : r < 32 ∨ r = 127
  · have hc : r = 0 ∨ r = 1 ∨ r = 2 ∨ r = 3 ∨ r = 4 ∨ r = 5 ∨ r = 6 ∨ r = 7 ∨ r = 8 ∨ r = 11 ∨ r = 12 ∨ r = 14 ∨ r = 15 ∨ r = 16 ∨ r = 17 ∨ r = 18 ∨ r = 19 ∨ r = 20 ∨ r = 21 ∨ r = 22 ∨ r = 23 ∨ r = 24 ∨ r = 25 ∨ r = 26 ∨ r = 27 ∨ r = 28 ∨ r = 29 ∨ r = 30 ∨ r = 31 ∨ r = 127 := by omega
    rcases hc with rfl | rfl | rfl | rfl | rfl | rfl | rfl | rfl | rfl | rfl | rfl | rfl | rfl | rfl | rfl | rfl | rfl | rfl | rfl | rfl | rfl | rfl | rfl | rfl | rfl | rfl | rfl | rfl | rfl | rfl
    · have kb : bits BinOp.and IntKind.i32 0 15 = 0 := by decide
      have k0 : Utf8.encode (((({ data := #[48, 49, 50, 51, 52, 53, 54, 55, 56, 57, 97, 98, 99, 100, 101, 102] } : ByteArray)[0]).toNat : Nat) : Int) = ⟨#[48]⟩ := by decide
      go_enter Tryz.func53, Tryz.ntmps53
      go_wp2
      go_quiet (fail)
      go_wp2
      go_ret
      exact ⟨rfl, Go.Proofs.below_drewNv (Below.refl _ _) _⟩
    · have kb : bits BinOp.and IntKind.i32 1 15 = 1 := by decide
      have k0 : Utf8.encode (((({ data := #[48, 49, 50, 51, 52, 53, 54, 55, 56, 57, 97, 98, 99, 100, 101, 102] } : ByteArray)[0]).toNat : Nat) : Int) = ⟨#[48]⟩ := by decide
      have k1 : Utf8.encode (((({ data := #[48, 49, 50, 51, 52, 53, 54, 55, 56, 57, 97, 98, 99, 100, 101, 102] } : ByteArray)[1]).toNat : Nat) : Int) = ⟨#[49]⟩ := by decide
      go_enter Tryz.func53, Tryz.ntmps53
      go_wp2
      go_quiet (fail)
      go_wp2
      go_ret
      exact ⟨rfl, Go.Proofs.below_drewNv (Below.refl _ _) _⟩
    · have kb : bits BinOp.and IntKind.i32 2 15 = 2 := by decide
      have k0 : Utf8.encode (((({ data := #[48, 49, 50, 51, 52, 53, 54, 55, 56, 57, 97, 98, 99, 100, 101, 102] } : ByteArray)[0]).toNat : Nat) : Int) = ⟨#[48]⟩ := by decide
      have k2 : Utf8.encode (((({ data := #[48, 49, 50, 51, 52, 53, 54, 55, 56, 57, 97, 98, 99, 100, 101, 102] } : ByteArray)[2]).toNat : Nat) : Int) = ⟨#[50]⟩ := by decide
      go_enter Tryz.func53, Tryz.ntmps53
      go_wp2
      go_quiet (fail)
      go_wp2
      go_ret
      exact ⟨rfl, Go.Proofs.below_drewNv (Below.refl _ _) _⟩
    · have kb : bits BinOp.and IntKind.i32 3 15 = 3 := by decide
      have k0 : Utf8.encode (((({ data := #[48, 49, 50, 51, 52, 53, 54, 55, 56, 57, 97, 98, 99, 100, 101, 102] } : ByteArray)[0]).toNat : Nat) : Int) = ⟨#[48]⟩ := by decide
      have k3 : Utf8.encode (((({ data := #[48, 49, 50, 51, 52, 53, 54, 55, 56, 57, 97, 98, 99, 100, 101, 102] } : ByteArray)[3]).toNat : Nat) : Int) = ⟨#[51]⟩ := by decide
      go_enter Tryz.func53, Tryz.ntmps53
      go_wp2
      go_quiet (fail)
      go_wp2
      go_ret
      exact ⟨rfl, Go.Proofs.below_drewNv (Below.refl _ _) _⟩
    · have kb : bits BinOp.and IntKind.i32 4 15 = 4 := by decide
      have k0 : Utf8.encode (((({ data := #[48, 49, 50, 51, 52, 53, 54, 55, 56, 57, 97, 98, 99, 100, 101, 102] } : ByteArray)[0]).toNat : Nat) : Int) = ⟨#[48]⟩ := by decide
      have k4 : Utf8.encode (((({ data := #[48, 49, 50, 51, 52, 53, 54, 55, 56, 57, 97, 98, 99, 100, 101, 102] } : ByteArray)[4]).toNat : Nat) : Int) = ⟨#[52]⟩ := by decide
      go_enter Tryz.func53, Tryz.ntmps53
      go_wp2
      go_quiet (fail)
      go_wp2
      go_ret
      exact ⟨rfl, Go.Proofs.below_drewNv (Below.refl _ _) _⟩
    · have kb : bits BinOp.and IntKind.i32 5 15 = 5 := by decide
      have k0 : Utf8.encode (((({ data := #[48, 49, 50, 51, 52, 53, 54, 55, 56, 57, 97, 98, 99, 100, 101, 102] } : ByteArray)[0]).toNat : Nat) : Int) = ⟨#[48]⟩ := by decide
      have k5 : Utf8.encode (((({ data := #[48, 49, 50, 51, 52, 53, 54, 55, 56, 57, 97, 98, 99, 100, 101, 102] } : ByteArray)[5]).toNat : Nat) : Int) = ⟨#[53]⟩ := by decide
      go_enter Tryz.func53, Tryz.ntmps53
      go_wp2
      go_quiet (fail)
      go_wp2
      go_ret
      exact ⟨rfl, Go.Proofs.below_drewNv (Below.refl _ _) _⟩
    · have kb : bits BinOp.and IntKind.i32 6 15 = 6 := by decide
      have k0 : Utf8.encode (((({ data := #[48, 49, 50, 51, 52, 53, 54, 55, 56, 57, 97, 98, 99, 100, 101, 102] } : ByteArray)[0]).toNat : Nat) : Int) = ⟨#[48]⟩ := by decide
      have k6 : Utf8.encode (((({ data := #[48, 49, 50, 51, 52, 53, 54, 55, 56, 57, 97, 98, 99, 100, 101, 102] } : ByteArray)[6]).toNat : Nat) : Int) = ⟨#[54]⟩ := by decide
      go_enter Tryz.func53, Tryz.ntmps53
      go_wp2
      go_quiet (fail)
      go_wp2
      go_ret
      exact ⟨rfl, Go.Proofs.below_drewNv (Below.refl _ _) _⟩
    · have kb : bits BinOp.and IntKind.i32 7 15 = 7 := by decide
      have k0 : Utf8.encode (((({ data := #[48, 49, 50, 51, 52, 53, 54, 55, 56, 57, 97, 98, 99, 100, 101, 102] } : ByteArray)[0]).toNat : Nat) : Int) = ⟨#[48]⟩ := by decide
      have k7 : Utf8.encode (((({ data := #[48, 49, 50, 51, 52, 53, 54, 55, 56, 57, 97, 98, 99, 100, 101, 102] } : ByteArray)[7]).toNat : Nat) : Int) = ⟨#[55]⟩ := by decide
      go_enter Tryz.func53, Tryz.ntmps53
      go_wp2
      go_quiet (fail)
      go_wp2
      go_ret
      exact ⟨rfl, Go.Proofs.below_drewNv (Below.refl _ _) _⟩
    · have kb : bits BinOp.and IntKind.i32 8 15 = 8 := by decide
      have k0 : Utf8.encode (((({ data := #[48, 49, 50, 51, 52, 53, 54, 55, 56, 57, 97, 98, 99, 100, 101, 102] } : ByteArray)[0]).toNat : Nat) : Int) = ⟨#[48]⟩ := by decide
      have k8 : Utf8.encode (((({ data := #[48, 49, 50, 51, 52, 53, 54, 55, 56, 57, 97, 98, 99, 100, 101, 102] } : ByteArray)[8]).toNat : Nat) : Int) = ⟨#[56]⟩ := by decide
      go_enter Tryz.func53, Tryz.ntmps53
      go_wp2
      go_quiet (fail)
      go_wp2
      go_ret
      exact ⟨rfl, Go.Proofs.below_drewNv (Below.refl _ _) _⟩
    · have kb : bits BinOp.and IntKind.i32 11 15 = 11 := by decide
      have k0 : Utf8.encode (((({ data := #[48, 49, 50, 51, 52, 53, 54, 55, 56, 57, 97, 98, 99, 100, 101, 102] } : ByteArray)[0]).toNat : Nat) : Int) = ⟨#[48]⟩ := by decide
      have k11 : Utf8.encode (((({ data := #[48, 49, 50, 51, 52, 53, 54, 55, 56, 57, 97, 98, 99, 100, 101, 102] } : ByteArray)[11]).toNat : Nat) : Int) = ⟨#[98]⟩ := by decide
      go_enter Tryz.func53, Tryz.ntmps53
      go_wp2
      go_quiet (fail)
      go_wp2
      go_ret
      exact ⟨rfl, Go.Proofs.below_drewNv (Below.refl _ _) _⟩
    · have kb : bits BinOp.and IntKind.i32 12 15 = 12 := by decide
      have k0 : Utf8.encode (((({ data := #[48, 49, 50, 51, 52, 53, 54, 55, 56, 57, 97, 98, 99, 100, 101, 102] } : ByteArray)[0]).toNat : Nat) : Int) = ⟨#[48]⟩ := by decide
      have k12 : Utf8.encode (((({ data := #[48, 49, 50, 51, 52, 53, 54, 55, 56, 57, 97, 98, 99, 100, 101, 102] } : ByteArray)[12]).toNat : Nat) : Int) = ⟨#[99]⟩ := by decide
      go_enter Tryz.func53, Tryz.ntmps53
      go_wp2
      go_quiet (fail)
      go_wp2
      go_ret
      exact ⟨rfl, Go.Proofs.below_drewNv (Below.refl _ _) _⟩
    · have kb : bits BinOp.and IntKind.i32 14 15 = 14 := by decide
      have k0 : Utf8.encode (((({ data := #[48, 49, 50, 51, 52, 53, 54, 55, 56, 57, 97, 98, 99, 100, 101, 102] } : ByteArray)[0]).toNat : Nat) : Int) = ⟨#[48]⟩ := by decide
      have k14 : Utf8.encode (((({ data := #[48, 49, 50, 51, 52, 53, 54, 55, 56, 57, 97, 98, 99, 100, 101, 102] } : ByteArray)[14]).toNat : Nat) : Int) = ⟨#[101]⟩ := by decide
      go_enter Tryz.func53, Tryz.ntmps53
      go_wp2
      go_quiet (fail)
      go_wp2
      go_ret
      exact ⟨rfl, Go.Proofs.below_drewNv (Below.refl _ _) _⟩
    · have kb : bits BinOp.and IntKind.i32 15 15 = 15 := by decide
      have k0 : Utf8.encode (((({ data := #[48, 49, 50, 51, 52, 53, 54, 55, 56, 57, 97, 98, 99, 100, 101, 102] } : ByteArray)[0]).toNat : Nat) : Int) = ⟨#[48]⟩ := by decide
      have k15 : Utf8.encode (((({ data := #[48, 49, 50, 51, 52, 53, 54, 55, 56, 57, 97, 98, 99, 100, 101, 102] } : ByteArray)[15]).toNat : Nat) : Int) = ⟨#[102]⟩ := by decide
      go_enter Tryz.func53, Tryz.ntmps53
      go_wp2
      go_quiet (fail)
      go_wp2
      go_ret
      exact ⟨rfl, Go.Proofs.below_drewNv (Below.refl _ _) _⟩
    · have kb : bits BinOp.and IntKind.i32 16 15 = 0 := by decide
      have k0 : Utf8.encode (((({ data := #[48, 49, 50, 51, 52, 53, 54, 55, 56, 57, 97, 98, 99, 100, 101, 102] } : ByteArray)[0]).toNat : Nat) : Int) = ⟨#[48]⟩ := by decide
      have k1 : Utf8.encode (((({ data := #[48, 49, 50, 51, 52, 53, 54, 55, 56, 57, 97, 98, 99, 100, 101, 102] } : ByteArray)[1]).toNat : Nat) : Int) = ⟨#[49]⟩ := by decide
      go_enter Tryz.func53, Tryz.ntmps53
      go_wp2
      go_quiet (fail)
      go_wp2
      go_ret
      exact ⟨rfl, Go.Proofs.below_drewNv (Below.refl _ _) _⟩
    · have kb : bits BinOp.and IntKind.i32 17 15 = 1 := by decide
      have k1 : Utf8.encode (((({ data := #[48, 49, 50, 51, 52, 53, 54, 55, 56, 57, 97, 98, 99, 100, 101, 102] } : ByteArray)[1]).toNat : Nat) : Int) = ⟨#[49]⟩ := by decide
      go_enter Tryz.func53, Tryz.ntmps53
      go_wp2
      go_quiet (fail)
      go_wp2
      go_ret
      exact ⟨rfl, Go.Proofs.below_drewNv (Below.refl _ _) _⟩
    · have kb : bits BinOp.and IntKind.i32 18 15 = 2 := by decide
      have k1 : Utf8.encode (((({ data := #[48, 49, 50, 51, 52, 53, 54, 55, 56, 57, 97, 98, 99, 100, 101, 102] } : ByteArray)[1]).toNat : Nat) : Int) = ⟨#[49]⟩ := by decide
      have k2 : Utf8.encode (((({ data := #[48, 49, 50, 51, 52, 53, 54, 55, 56, 57, 97, 98, 99, 100, 101, 102] } : ByteArray)[2]).toNat : Nat) : Int) = ⟨#[50]⟩ := by decide
      go_enter Tryz.func53, Tryz.ntmps53
      go_wp2
      go_quiet (fail)
      go_wp2
      go_ret
      exact ⟨rfl, Go.Proofs.below_drewNv (Below.refl _ _) _⟩
    · have kb : bits BinOp.and IntKind.i32 19 15 = 3 := by decide
      have k1 : Utf8.encode (((({ data := #[48, 49, 50, 51, 52, 53, 54, 55, 56, 57, 97, 98, 99, 100, 101, 102] } : ByteArray)[1]).toNat : Nat) : Int) = ⟨#[49]⟩ := by decide
      have k3 : Utf8.encode (((({ data := #[48, 49, 50, 51, 52, 53, 54, 55, 56, 57, 97, 98, 99, 100, 101, 102] } : ByteArray)[3]).toNat : Nat) : Int) = ⟨#[51]⟩ := by decide
      go_enter Tryz.func53, Tryz.ntmps53
      go_wp2
      go_quiet (fail)
      go_wp2
      go_ret
      exact ⟨rfl, Go.Proofs.below_drewNv (Below.refl _ _) _⟩
    · have kb : bits BinOp.and IntKind.i32 20 15 = 4 := by decide
      have k1 : Utf8.encode (((({ data := #[48, 49, 50, 51, 52, 53, 54, 55, 56, 57, 97, 98, 99, 100, 101, 102] } : ByteArray)[1]).toNat : Nat) : Int) = ⟨#[49]⟩ := by decide
      have k4 : Utf8.encode (((({ data := #[48, 49, 50, 51, 52, 53, 54, 55, 56, 57, 97, 98, 99, 100, 101, 102] } : ByteArray)[4]).toNat : Nat) : Int) = ⟨#[52]⟩ := by decide
      go_enter Tryz.func53, Tryz.ntmps53
      go_wp2
      go_quiet (fail)
      go_wp2
      go_ret
      exact ⟨rfl, Go.Proofs.below_drewNv (Below.refl _ _) _⟩
    · have kb : bits BinOp.and IntKind.i32 21 15 = 5 := by decide
      have k1 : Utf8.encode (((({ data := #[48, 49, 50, 51, 52, 53, 54, 55, 56, 57, 97, 98, 99, 100, 101, 102] } : ByteArray)[1]).toNat : Nat) : Int) = ⟨#[49]⟩ := by decide
      have k5 : Utf8.encode (((({ data := #[48, 49, 50, 51, 52, 53, 54, 55, 56, 57, 97, 98, 99, 100, 101, 102] } : ByteArray)[5]).toNat : Nat) : Int) = ⟨#[53]⟩ := by decide
      go_enter Tryz.func53, Tryz.ntmps53
      go_wp2
      go_quiet (fail)
      go_wp2
      go_ret
      exact ⟨rfl, Go.Proofs.below_drewNv (Below.refl _ _) _⟩
    · have kb : bits BinOp.and IntKind.i32 22 15 = 6 := by decide
      have k1 : Utf8.encode (((({ data := #[48, 49, 50, 51, 52, 53, 54, 55, 56, 57, 97, 98, 99, 100, 101, 102] } : ByteArray)[1]).toNat : Nat) : Int) = ⟨#[49]⟩ := by decide
      have k6 : Utf8.encode (((({ data := #[48, 49, 50, 51, 52, 53, 54, 55, 56, 57, 97, 98, 99, 100, 101, 102] } : ByteArray)[6]).toNat : Nat) : Int) = ⟨#[54]⟩ := by decide
      go_enter Tryz.func53, Tryz.ntmps53
      go_wp2
      go_quiet (fail)
      go_wp2
      go_ret
      exact ⟨rfl, Go.Proofs.below_drewNv (Below.refl _ _) _⟩
    · have kb : bits BinOp.and IntKind.i32 23 15 = 7 := by decide
      have k1 : Utf8.encode (((({ data := #[48, 49, 50, 51, 52, 53, 54, 55, 56, 57, 97, 98, 99, 100, 101, 102] } : ByteArray)[1]).toNat : Nat) : Int) = ⟨#[49]⟩ := by decide
      have k7 : Utf8.encode (((({ data := #[48, 49, 50, 51, 52, 53, 54, 55, 56, 57, 97, 98, 99, 100, 101, 102] } : ByteArray)[7]).toNat : Nat) : Int) = ⟨#[55]⟩ := by decide
      go_enter Tryz.func53, Tryz.ntmps53
      go_wp2
      go_quiet (fail)
      go_wp2
      go_ret
      exact ⟨rfl, Go.Proofs.below_drewNv (Below.refl _ _) _⟩
    · have kb : bits BinOp.and IntKind.i32 24 15 = 8 := by decide
      have k1 : Utf8.encode (((({ data := #[48, 49, 50, 51, 52, 53, 54, 55, 56, 57, 97, 98, 99, 100, 101, 102] } : ByteArray)[1]).toNat : Nat) : Int) = ⟨#[49]⟩ := by decide
      have k8 : Utf8.encode (((({ data := #[48, 49, 50, 51, 52, 53, 54, 55, 56, 57, 97, 98, 99, 100, 101, 102] } : ByteArray)[8]).toNat : Nat) : Int) = ⟨#[56]⟩ := by decide
      go_enter Tryz.func53, Tryz.ntmps53
      go_wp2
      go_quiet (fail)
      go_wp2
      go_ret
      exact ⟨rfl, Go.Proofs.below_drewNv (Below.refl _ _) _⟩
    · have kb : bits BinOp.and IntKind.i32 25 15 = 9 := by decide
      have k1 : Utf8.encode (((({ data := #[48, 49, 50, 51, 52, 53, 54, 55, 56, 57, 97, 98, 99, 100, 101, 102] } : ByteArray)[1]).toNat : Nat) : Int) = ⟨#[49]⟩ := by decide
      have k9 : Utf8.encode (((({ data := #[48, 49, 50, 51, 52, 53, 54, 55, 56, 57, 97, 98, 99, 100, 101, 102] } : ByteArray)[9]).toNat : Nat) : Int) = ⟨#[57]⟩ := by decide
      go_enter Tryz.func53, Tryz.ntmps53
      go_wp2
      go_quiet (fail)
      go_wp2
      go_ret
      exact ⟨rfl, Go.Proofs.below_drewNv (Below.refl _ _) _⟩
    · have kb : bits BinOp.and IntKind.i32 26 15 = 10 := by decide
      have k1 : Utf8.encode (((({ data := #[48, 49, 50, 51, 52, 53, 54, 55, 56, 57, 97, 98, 99, 100, 101, 102] } : ByteArray)[1]).toNat : Nat) : Int) = ⟨#[49]⟩ := by decide
      have k10 : Utf8.encode (((({ data := #[48, 49, 50, 51, 52, 53, 54, 55, 56, 57, 97, 98, 99, 100, 101, 102] } : ByteArray)[10]).toNat : Nat) : Int) = ⟨#[97]⟩ := by decide
      go_enter Tryz.func53, Tryz.ntmps53
      go_wp2
      go_quiet (fail)
      go_wp2
      go_ret
      exact ⟨rfl, Go.Proofs.below_drewNv (Below.refl _ _) _⟩
    · have kb : bits BinOp.and IntKind.i32 27 15 = 11 := by decide
      have k1 : Utf8.encode (((({ data := #[48, 49, 50, 51, 52, 53, 54, 55, 56, 57, 97, 98, 99, 100, 101, 102] } : ByteArray)[1]).toNat : Nat) : Int) = ⟨#[49]⟩ := by decide
      have k11 : Utf8.encode (((({ data := #[48, 49, 50, 51, 52, 53, 54, 55, 56, 57, 97, 98, 99, 100, 101, 102] } : ByteArray)[11]).toNat : Nat) : Int) = ⟨#[98]⟩ := by decide
      go_enter Tryz.func53, Tryz.ntmps53
      go_wp2
      go_quiet (fail)
      go_wp2
      go_ret
      exact ⟨rfl, Go.Proofs.below_drewNv (Below.refl _ _) _⟩
    · have kb : bits BinOp.and IntKind.i32 28 15 = 12 := by decide
      have k1 : Utf8.encode (((({ data := #[48, 49, 50, 51, 52, 53, 54, 55, 56, 57, 97, 98, 99, 100, 101, 102] } : ByteArray)[1]).toNat : Nat) : Int) = ⟨#[49]⟩ := by decide
      have k12 : Utf8.encode (((({ data := #[48, 49, 50, 51, 52, 53, 54, 55, 56, 57, 97, 98, 99, 100, 101, 102] } : ByteArray)[12]).toNat : Nat) : Int) = ⟨#[99]⟩ := by decide
      go_enter Tryz.func53, Tryz.ntmps53
      go_wp2
      go_quiet (fail)
      go_wp2
      go_ret
      exact ⟨rfl, Go.Proofs.below_drewNv (Below.refl _ _) _⟩
    · have kb : bits BinOp.and IntKind.i32 29 15 = 13 := by decide
      have k1 : Utf8.encode (((({ data := #[48, 49, 50, 51, 52, 53, 54, 55, 56, 57, 97, 98, 99, 100, 101, 102] } : ByteArray)[1]).toNat : Nat) : Int) = ⟨#[49]⟩ := by decide
      have k13 : Utf8.encode (((({ data := #[48, 49, 50, 51, 52, 53, 54, 55, 56, 57, 97, 98, 99, 100, 101, 102] } : ByteArray)[13]).toNat : Nat) : Int) = ⟨#[100]⟩ := by decide
      go_enter Tryz.func53, Tryz.ntmps53
      go_wp2
      go_quiet (fail)
      go_wp2
      go_ret
      exact ⟨rfl, Go.Proofs.below_drewNv (Below.refl _ _) _⟩
    · have kb : bits BinOp.and IntKind.i32 30 15 = 14 := by decide
      have k1 : Utf8.encode (((({ data := #[48, 49, 50, 51, 52, 53, 54, 55, 56, 57, 97, 98, 99, 100, 101, 102] } : ByteArray)[1]).toNat : Nat) : Int) = ⟨#[49]⟩ := by decide
      have k14 : Utf8.encode (((({ data := #[48, 49, 50, 51, 52, 53, 54, 55, 56, 57, 97, 98, 99, 100, 101, 102] } : ByteArray)[14]).toNat : Nat) : Int) = ⟨#[101]⟩ := by decide
      go_enter Tryz.func53, Tryz.ntmps53
      go_wp2
      go_quiet (fail)
      go_wp2
      go_ret
      exact ⟨rfl, Go.Proofs.below_drewNv (Below.refl _ _) _⟩
    · have kb : bits BinOp.and IntKind.i32 31 15 = 15 := by decide
      have k1 : Utf8.encode (((({ data := #[48, 49, 50, 51, 52, 53, 54, 55, 56, 57, 97, 98, 99, 100, 101, 102] } : ByteArray)[1]).toNat : Nat) : Int) = ⟨#[49]⟩ := by decide
      have k15 : Utf8.encode (((({ data := #[48, 49, 50, 51, 52, 53, 54, 55, 56, 57, 97, 98, 99, 100, 101, 102] } : ByteArray)[15]).toNat : Nat) : Int) = ⟨#[102]⟩ := by decide
      go_enter Tryz.func53, Tryz.ntmps53
      go_wp2
      go_quiet (fail)
      go_wp2
      go_ret
      exact ⟨rfl, Go.Proofs.below_drewNv (Below.refl _ _) _⟩
    · have kb : bits BinOp.and IntKind.i32 127 15 = 15 := by decide
      have k7 : Utf8.encode (((({ data := #[48, 49, 50, 51, 52, 53, 54, 55, 56, 57, 97, 98, 99, 100, 101, 102] } : ByteArray)[7]).toNat : Nat) : Int) = ⟨#[55]⟩ := by decide
      have k15 : Utf8.encode (((({ data := #[48, 49, 50, 51, 52, 53, 54, 55, 56, 57, 97, 98, 99, 100, 101, 102] } : ByteArray)[15]).toNat : Nat) : Int) = ⟨#[102]⟩ := by decide
      go_enter Tryz.func53, Tryz.ntmps53
      go_wp2
      go_quiet (fail)
      go_wp2
      go_ret
      exact ⟨rfl, Go.Proofs.below_drewNv (Below.refl _ _) _⟩
  · have he : Qm.esc r = [] := by unfold Qm.esc; simp [h34, h92, h10, h13, h9, hx]
    have n1 : ((r : Int) == 34) = false := by simp; omega
    have n2 : ((r : Int) == 92) = false := by simp; omega
    have n3 : ((r : Int) == 10) = false := by simp; omega
    have n4 : ((r : Int) == 13) = false := by simp; omega
    have n5 : ((r : Int) == 9) = false := by simp; omega
    have n6 : ¬ (r : Int) < 32 := by omega
    have n7 : ((r : Int) == 127) = false := by simp; omega
    rw [he]
    go_enter Tryz.func53, Tryz.ntmps53
    go_wp2
    go_ret
    exact ⟨rfl, Below.refl _ _⟩
end Go.Proofs.YtomhgafpjpnmdaaGreatDoor
