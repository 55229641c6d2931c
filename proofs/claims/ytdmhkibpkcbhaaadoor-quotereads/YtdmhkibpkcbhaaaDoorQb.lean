/- What is proved here: what Cut and escape of package quote do, walked; conditions: as each theorem states. -/
import Derived.Test.YtdmhkibpkcbhaaaDoorQa
import Derived.Deep.QuietTactic
import Derived.BigQuiet
namespace Go.Proofs.YtdmhkibpkcbhaaaDoor
open Go.RowKit
set_option linter.unusedVariables false
set_option linter.unusedSimpArgs false

theorem ext_list (s : ByteArray) (a b : Nat) : s.extract a b = ⟨((s.data.toList.drop a).take (b - a)).toArray⟩ := by
  have h := Lib.extract_data s a b
  cases hx : s.extract a b with
  | mk d =>
    rw [hx] at h
    have : d = ((s.data.toList.drop a).take (b - a)).toArray := by rw [← h]
    rw [this]

theorem cut_any (s : ByteArray) (a b : Int) (w : World) (hs : s.size ≤ 281474976710656) (ha : -9223372036854775808 ≤ a ∧ a ≤ 9223372036854775807) (hb : -9223372036854775808 ≤ b ∧ b ≤ 9223372036854775807) :
    Calls Tryd.prog 13 #[.string s, .int .i64 a, .int .i64 b] w fun e w' => e = .returned (.string ⟨(Qm.cut s.data.toList a.toNat (max b.toNat a.toNat)).toArray⟩) ∧ Below w.heap.size w w' := by
  obtain ⟨A, hA⟩ : ∃ A, a.toNat = A := ⟨_, rfl⟩
  obtain ⟨C, hC⟩ : ∃ C, max b.toNat A = C := ⟨_, rfl⟩
  have e1 : max a 0 = (A : Int) := by omega
  have e2 : max b (A : Int) = (C : Int) := by omega
  rw [hA, hC]
  have hm := Qm.posn_mono s.data.toList (show A ≤ C by omega)
  have hl := Qm.posn_le s.data.toList C
  rw [← Lib.size_eq] at hl
  obtain ⟨p, hp⟩ : ∃ p, Qm.posn s.data.toList A = p := ⟨_, rfl⟩
  obtain ⟨q, hq⟩ : ∃ q, Qm.posn s.data.toList C = q := ⟨_, rfl⟩
  have hsz : (s.extract p q).size ≤ 281474976710656 := by rw [ByteArray.size_extract]; omega
  unfold Qm.cut
  rw [hp, hq, ← ext_list]
  rw [hp, hq] at hm
  rw [hq] at hl
  have hA1 : A ≤ 9223372036854775807 := by omega
  have hC1 : C ≤ 9223372036854775807 := by omega
  clear hA hC
  go_enter Tryd.func13, Tryd.ntmps13
  go_wp2_with (go_at_call 26; refine (byteAt_any s A _ (by omega) hA1).mono ?_)
  rintro e W1 ⟨rfl, b1⟩
  rw [hp]
  go_wp2_with (go_at_call 26; refine (byteAt_any s C _ (by omega) hC1).mono ?_)
  rintro e W2 ⟨rfl, b2⟩
  rw [hq]
  go_wp2_with (first | (go_at_call 38; refine (Tryd.stringslite_Clone _ _ hsz).mono ?_; rintro e W3 ⟨rfl, b3⟩) | go_in)
  go_ret
  exact ⟨rfl, (b1.trans (b2.mono b1.size)).trans (b3.mono (Nat.le_trans b1.size b2.size))⟩

set_option maxHeartbeats 4000000 in
set_option maxRecDepth 1000000 in
theorem escape_any (r : Nat) (w : World) (hr : r ≤ 1114111) :
    Calls Tryd.prog 28 #[.int .i32 (r : Int)] w fun e w' => e = .returned (.string ⟨(Qm.esc r).toArray⟩) ∧ Below w.heap.size w w' := by
  by_cases h34 : r = 34
  · subst h34
    go_enter Tryd.func28, Tryd.ntmps28
    go_wp2
    go_ret
    exact ⟨rfl, Below.refl _ _⟩
  by_cases h92 : r = 92
  · subst h92
    go_enter Tryd.func28, Tryd.ntmps28
    go_wp2
    go_ret
    exact ⟨rfl, Below.refl _ _⟩
  by_cases h10 : r = 10
  · subst h10
    go_enter Tryd.func28, Tryd.ntmps28
    go_wp2
    go_ret
    exact ⟨rfl, Below.refl _ _⟩
  by_cases h13 : r = 13
  · subst h13
    go_enter Tryd.func28, Tryd.ntmps28
    go_wp2
    go_ret
    exact ⟨rfl, Below.refl _ _⟩
  by_cases h9 : r = 9
  · subst h9
    go_enter Tryd.func28, Tryd.ntmps28
    go_wp2
    go_ret
    exact ⟨rfl, Below.refl _ _⟩
  by_cases hx : r < 32 ∨ r = 127
  · have hc : r = 0 ∨ r = 1 ∨ r = 2 ∨ r = 3 ∨ r = 4 ∨ r = 5 ∨ r = 6 ∨ r = 7 ∨ r = 8 ∨ r = 11 ∨ r = 12 ∨ r = 14 ∨ r = 15 ∨ r = 16 ∨ r = 17 ∨ r = 18 ∨ r = 19 ∨ r = 20 ∨ r = 21 ∨ r = 22 ∨ r = 23 ∨ r = 24 ∨ r = 25 ∨ r = 26 ∨ r = 27 ∨ r = 28 ∨ r = 29 ∨ r = 30 ∨ r = 31 ∨ r = 127 := by omega
    rcases hc with rfl | rfl | rfl | rfl | rfl | rfl | rfl | rfl | rfl | rfl | rfl | rfl | rfl | rfl | rfl | rfl | rfl | rfl | rfl | rfl | rfl | rfl | rfl | rfl | rfl | rfl | rfl | rfl | rfl | rfl
    · have kb : bits BinOp.and IntKind.i32 0 15 = 0 := by decide
      have k0 : Utf8.encode (((({ data := #[48, 49, 50, 51, 52, 53, 54, 55, 56, 57, 97, 98, 99, 100, 101, 102] } : ByteArray)[0]).toNat : Nat) : Int) = ⟨#[48]⟩ := by decide
      go_enter Tryd.func28, Tryd.ntmps28
      go_wp2
      go_quiet (fail)
      go_wp2
      go_ret
      exact ⟨rfl, Go.Proofs.below_drewNv (Below.refl _ _) _⟩
    · have kb : bits BinOp.and IntKind.i32 1 15 = 1 := by decide
      have k0 : Utf8.encode (((({ data := #[48, 49, 50, 51, 52, 53, 54, 55, 56, 57, 97, 98, 99, 100, 101, 102] } : ByteArray)[0]).toNat : Nat) : Int) = ⟨#[48]⟩ := by decide
      have k1 : Utf8.encode (((({ data := #[48, 49, 50, 51, 52, 53, 54, 55, 56, 57, 97, 98, 99, 100, 101, 102] } : ByteArray)[1]).toNat : Nat) : Int) = ⟨#[49]⟩ := by decide
      go_enter Tryd.func28, Tryd.ntmps28
      go_wp2
      go_quiet (fail)
      go_wp2
      go_ret
      exact ⟨rfl, Go.Proofs.below_drewNv (Below.refl _ _) _⟩
    · have kb : bits BinOp.and IntKind.i32 2 15 = 2 := by decide
      have k0 : Utf8.encode (((({ data := #[48, 49, 50, 51, 52, 53, 54, 55, 56, 57, 97, 98, 99, 100, 101, 102] } : ByteArray)[0]).toNat : Nat) : Int) = ⟨#[48]⟩ := by decide
      have k2 : Utf8.encode (((({ data := #[48, 49, 50, 51, 52, 53, 54, 55, 56, 57, 97, 98, 99, 100, 101, 102] } : ByteArray)[2]).toNat : Nat) : Int) = ⟨#[50]⟩ := by decide
      go_enter Tryd.func28, Tryd.ntmps28
      go_wp2
      go_quiet (fail)
      go_wp2
      go_ret
      exact ⟨rfl, Go.Proofs.below_drewNv (Below.refl _ _) _⟩
    · have kb : bits BinOp.and IntKind.i32 3 15 = 3 := by decide
      have k0 : Utf8.encode (((({ data := #[48, 49, 50, 51, 52, 53, 54, 55, 56, 57, 97, 98, 99, 100, 101, 102] } : ByteArray)[0]).toNat : Nat) : Int) = ⟨#[48]⟩ := by decide
      have k3 : Utf8.encode (((({ data := #[48, 49, 50, 51, 52, 53, 54, 55, 56, 57, 97, 98, 99, 100, 101, 102] } : ByteArray)[3]).toNat : Nat) : Int) = ⟨#[51]⟩ := by decide
      go_enter Tryd.func28, Tryd.ntmps28
      go_wp2
      go_quiet (fail)
      go_wp2
      go_ret
      exact ⟨rfl, Go.Proofs.below_drewNv (Below.refl _ _) _⟩
    · have kb : bits BinOp.and IntKind.i32 4 15 = 4 := by decide
      have k0 : Utf8.encode (((({ data := #[48, 49, 50, 51, 52, 53, 54, 55, 56, 57, 97, 98, 99, 100, 101, 102] } : ByteArray)[0]).toNat : Nat) : Int) = ⟨#[48]⟩ := by decide
      have k4 : Utf8.encode (((({ data := #[48, 49, 50, 51, 52, 53, 54, 55, 56, 57, 97, 98, 99, 100, 101, 102] } : ByteArray)[4]).toNat : Nat) : Int) = ⟨#[52]⟩ := by decide
      go_enter Tryd.func28, Tryd.ntmps28
      go_wp2
      go_quiet (fail)
      go_wp2
      go_ret
      exact ⟨rfl, Go.Proofs.below_drewNv (Below.refl _ _) _⟩
    · have kb : bits BinOp.and IntKind.i32 5 15 = 5 := by decide
      have k0 : Utf8.encode (((({ data := #[48, 49, 50, 51, 52, 53, 54, 55, 56, 57, 97, 98, 99, 100, 101, 102] } : ByteArray)[0]).toNat : Nat) : Int) = ⟨#[48]⟩ := by decide
      have k5 : Utf8.encode (((({ data := #[48, 49, 50, 51, 52, 53, 54, 55, 56, 57, 97, 98, 99, 100, 101, 102] } : ByteArray)[5]).toNat : Nat) : Int) = ⟨#[53]⟩ := by decide
      go_enter Tryd.func28, Tryd.ntmps28
      go_wp2
      go_quiet (fail)
      go_wp2
      go_ret
      exact ⟨rfl, Go.Proofs.below_drewNv (Below.refl _ _) _⟩
    · have kb : bits BinOp.and IntKind.i32 6 15 = 6 := by decide
      have k0 : Utf8.encode (((({ data := #[48, 49, 50, 51, 52, 53, 54, 55, 56, 57, 97, 98, 99, 100, 101, 102] } : ByteArray)[0]).toNat : Nat) : Int) = ⟨#[48]⟩ := by decide
      have k6 : Utf8.encode (((({ data := #[48, 49, 50, 51, 52, 53, 54, 55, 56, 57, 97, 98, 99, 100, 101, 102] } : ByteArray)[6]).toNat : Nat) : Int) = ⟨#[54]⟩ := by decide
      go_enter Tryd.func28, Tryd.ntmps28
      go_wp2
      go_quiet (fail)
      go_wp2
      go_ret
      exact ⟨rfl, Go.Proofs.below_drewNv (Below.refl _ _) _⟩
    · have kb : bits BinOp.and IntKind.i32 7 15 = 7 := by decide
      have k0 : Utf8.encode (((({ data := #[48, 49, 50, 51, 52, 53, 54, 55, 56, 57, 97, 98, 99, 100, 101, 102] } : ByteArray)[0]).toNat : Nat) : Int) = ⟨#[48]⟩ := by decide
      have k7 : Utf8.encode (((({ data := #[48, 49, 50, 51, 52, 53, 54, 55, 56, 57, 97, 98, 99, 100, 101, 102] } : ByteArray)[7]).toNat : Nat) : Int) = ⟨#[55]⟩ := by decide
      go_enter Tryd.func28, Tryd.ntmps28
      go_wp2
      go_quiet (fail)
      go_wp2
      go_ret
      exact ⟨rfl, Go.Proofs.below_drewNv (Below.refl _ _) _⟩
    · have kb : bits BinOp.and IntKind.i32 8 15 = 8 := by decide
      have k0 : Utf8.encode (((({ data := #[48, 49, 50, 51, 52, 53, 54, 55, 56, 57, 97, 98, 99, 100, 101, 102] } : ByteArray)[0]).toNat : Nat) : Int) = ⟨#[48]⟩ := by decide
      have k8 : Utf8.encode (((({ data := #[48, 49, 50, 51, 52, 53, 54, 55, 56, 57, 97, 98, 99, 100, 101, 102] } : ByteArray)[8]).toNat : Nat) : Int) = ⟨#[56]⟩ := by decide
      go_enter Tryd.func28, Tryd.ntmps28
      go_wp2
      go_quiet (fail)
      go_wp2
      go_ret
      exact ⟨rfl, Go.Proofs.below_drewNv (Below.refl _ _) _⟩
    · have kb : bits BinOp.and IntKind.i32 11 15 = 11 := by decide
      have k0 : Utf8.encode (((({ data := #[48, 49, 50, 51, 52, 53, 54, 55, 56, 57, 97, 98, 99, 100, 101, 102] } : ByteArray)[0]).toNat : Nat) : Int) = ⟨#[48]⟩ := by decide
      have k11 : Utf8.encode (((({ data := #[48, 49, 50, 51, 52, 53, 54, 55, 56, 57, 97, 98, 99, 100, 101, 102] } : ByteArray)[11]).toNat : Nat) : Int) = ⟨#[98]⟩ := by decide
      go_enter Tryd.func28, Tryd.ntmps28
      go_wp2
      go_quiet (fail)
      go_wp2
      go_ret
      exact ⟨rfl, Go.Proofs.below_drewNv (Below.refl _ _) _⟩
    · have kb : bits BinOp.and IntKind.i32 12 15 = 12 := by decide
      have k0 : Utf8.encode (((({ data := #[48, 49, 50, 51, 52, 53, 54, 55, 56, 57, 97, 98, 99, 100, 101, 102] } : ByteArray)[0]).toNat : Nat) : Int) = ⟨#[48]⟩ := by decide
      have k12 : Utf8.encode (((({ data := #[48, 49, 50, 51, 52, 53, 54, 55, 56, 57, 97, 98, 99, 100, 101, 102] } : ByteArray)[12]).toNat : Nat) : Int) = ⟨#[99]⟩ := by decide
      go_enter Tryd.func28, Tryd.ntmps28
      go_wp2
      go_quiet (fail)
      go_wp2
      go_ret
      exact ⟨rfl, Go.Proofs.below_drewNv (Below.refl _ _) _⟩
    · have kb : bits BinOp.and IntKind.i32 14 15 = 14 := by decide
      have k0 : Utf8.encode (((({ data := #[48, 49, 50, 51, 52, 53, 54, 55, 56, 57, 97, 98, 99, 100, 101, 102] } : ByteArray)[0]).toNat : Nat) : Int) = ⟨#[48]⟩ := by decide
      have k14 : Utf8.encode (((({ data := #[48, 49, 50, 51, 52, 53, 54, 55, 56, 57, 97, 98, 99, 100, 101, 102] } : ByteArray)[14]).toNat : Nat) : Int) = ⟨#[101]⟩ := by decide
      go_enter Tryd.func28, Tryd.ntmps28
      go_wp2
      go_quiet (fail)
      go_wp2
      go_ret
      exact ⟨rfl, Go.Proofs.below_drewNv (Below.refl _ _) _⟩
    · have kb : bits BinOp.and IntKind.i32 15 15 = 15 := by decide
      have k0 : Utf8.encode (((({ data := #[48, 49, 50, 51, 52, 53, 54, 55, 56, 57, 97, 98, 99, 100, 101, 102] } : ByteArray)[0]).toNat : Nat) : Int) = ⟨#[48]⟩ := by decide
      have k15 : Utf8.encode (((({ data := #[48, 49, 50, 51, 52, 53, 54, 55, 56, 57, 97, 98, 99, 100, 101, 102] } : ByteArray)[15]).toNat : Nat) : Int) = ⟨#[102]⟩ := by decide
      go_enter Tryd.func28, Tryd.ntmps28
      go_wp2
      go_quiet (fail)
      go_wp2
      go_ret
      exact ⟨rfl, Go.Proofs.below_drewNv (Below.refl _ _) _⟩
    · have kb : bits BinOp.and IntKind.i32 16 15 = 0 := by decide
      have k0 : Utf8.encode (((({ data := #[48, 49, 50, 51, 52, 53, 54, 55, 56, 57, 97, 98, 99, 100, 101, 102] } : ByteArray)[0]).toNat : Nat) : Int) = ⟨#[48]⟩ := by decide
      have k1 : Utf8.encode (((({ data := #[48, 49, 50, 51, 52, 53, 54, 55, 56, 57, 97, 98, 99, 100, 101, 102] } : ByteArray)[1]).toNat : Nat) : Int) = ⟨#[49]⟩ := by decide
      go_enter Tryd.func28, Tryd.ntmps28
      go_wp2
      go_quiet (fail)
      go_wp2
      go_ret
      exact ⟨rfl, Go.Proofs.below_drewNv (Below.refl _ _) _⟩
    · have kb : bits BinOp.and IntKind.i32 17 15 = 1 := by decide
      have k1 : Utf8.encode (((({ data := #[48, 49, 50, 51, 52, 53, 54, 55, 56, 57, 97, 98, 99, 100, 101, 102] } : ByteArray)[1]).toNat : Nat) : Int) = ⟨#[49]⟩ := by decide
      go_enter Tryd.func28, Tryd.ntmps28
      go_wp2
      go_quiet (fail)
      go_wp2
      go_ret
      exact ⟨rfl, Go.Proofs.below_drewNv (Below.refl _ _) _⟩
    · have kb : bits BinOp.and IntKind.i32 18 15 = 2 := by decide
      have k1 : Utf8.encode (((({ data := #[48, 49, 50, 51, 52, 53, 54, 55, 56, 57, 97, 98, 99, 100, 101, 102] } : ByteArray)[1]).toNat : Nat) : Int) = ⟨#[49]⟩ := by decide
      have k2 : Utf8.encode (((({ data := #[48, 49, 50, 51, 52, 53, 54, 55, 56, 57, 97, 98, 99, 100, 101, 102] } : ByteArray)[2]).toNat : Nat) : Int) = ⟨#[50]⟩ := by decide
      go_enter Tryd.func28, Tryd.ntmps28
      go_wp2
      go_quiet (fail)
      go_wp2
      go_ret
      exact ⟨rfl, Go.Proofs.below_drewNv (Below.refl _ _) _⟩
    · have kb : bits BinOp.and IntKind.i32 19 15 = 3 := by decide
      have k1 : Utf8.encode (((({ data := #[48, 49, 50, 51, 52, 53, 54, 55, 56, 57, 97, 98, 99, 100, 101, 102] } : ByteArray)[1]).toNat : Nat) : Int) = ⟨#[49]⟩ := by decide
      have k3 : Utf8.encode (((({ data := #[48, 49, 50, 51, 52, 53, 54, 55, 56, 57, 97, 98, 99, 100, 101, 102] } : ByteArray)[3]).toNat : Nat) : Int) = ⟨#[51]⟩ := by decide
      go_enter Tryd.func28, Tryd.ntmps28
      go_wp2
      go_quiet (fail)
      go_wp2
      go_ret
      exact ⟨rfl, Go.Proofs.below_drewNv (Below.refl _ _) _⟩
    · have kb : bits BinOp.and IntKind.i32 20 15 = 4 := by decide
      have k1 : Utf8.encode (((({ data := #[48, 49, 50, 51, 52, 53, 54, 55, 56, 57, 97, 98, 99, 100, 101, 102] } : ByteArray)[1]).toNat : Nat) : Int) = ⟨#[49]⟩ := by decide
      have k4 : Utf8.encode (((({ data := #[48, 49, 50, 51, 52, 53, 54, 55, 56, 57, 97, 98, 99, 100, 101, 102] } : ByteArray)[4]).toNat : Nat) : Int) = ⟨#[52]⟩ := by decide
      go_enter Tryd.func28, Tryd.ntmps28
      go_wp2
      go_quiet (fail)
      go_wp2
      go_ret
      exact ⟨rfl, Go.Proofs.below_drewNv (Below.refl _ _) _⟩
    · have kb : bits BinOp.and IntKind.i32 21 15 = 5 := by decide
      have k1 : Utf8.encode (((({ data := #[48, 49, 50, 51, 52, 53, 54, 55, 56, 57, 97, 98, 99, 100, 101, 102] } : ByteArray)[1]).toNat : Nat) : Int) = ⟨#[49]⟩ := by decide
      have k5 : Utf8.encode (((({ data := #[48, 49, 50, 51, 52, 53, 54, 55, 56, 57, 97, 98, 99, 100, 101, 102] } : ByteArray)[5]).toNat : Nat) : Int) = ⟨#[53]⟩ := by decide
      go_enter Tryd.func28, Tryd.ntmps28
      go_wp2
      go_quiet (fail)
      go_wp2
      go_ret
      exact ⟨rfl, Go.Proofs.below_drewNv (Below.refl _ _) _⟩
    · have kb : bits BinOp.and IntKind.i32 22 15 = 6 := by decide
      have k1 : Utf8.encode (((({ data := #[48, 49, 50, 51, 52, 53, 54, 55, 56, 57, 97, 98, 99, 100, 101, 102] } : ByteArray)[1]).toNat : Nat) : Int) = ⟨#[49]⟩ := by decide
      have k6 : Utf8.encode (((({ data := #[48, 49, 50, 51, 52, 53, 54, 55, 56, 57, 97, 98, 99, 100, 101, 102] } : ByteArray)[6]).toNat : Nat) : Int) = ⟨#[54]⟩ := by decide
      go_enter Tryd.func28, Tryd.ntmps28
      go_wp2
      go_quiet (fail)
      go_wp2
      go_ret
      exact ⟨rfl, Go.Proofs.below_drewNv (Below.refl _ _) _⟩
    · have kb : bits BinOp.and IntKind.i32 23 15 = 7 := by decide
      have k1 : Utf8.encode (((({ data := #[48, 49, 50, 51, 52, 53, 54, 55, 56, 57, 97, 98, 99, 100, 101, 102] } : ByteArray)[1]).toNat : Nat) : Int) = ⟨#[49]⟩ := by decide
      have k7 : Utf8.encode (((({ data := #[48, 49, 50, 51, 52, 53, 54, 55, 56, 57, 97, 98, 99, 100, 101, 102] } : ByteArray)[7]).toNat : Nat) : Int) = ⟨#[55]⟩ := by decide
      go_enter Tryd.func28, Tryd.ntmps28
      go_wp2
      go_quiet (fail)
      go_wp2
      go_ret
      exact ⟨rfl, Go.Proofs.below_drewNv (Below.refl _ _) _⟩
    · have kb : bits BinOp.and IntKind.i32 24 15 = 8 := by decide
      have k1 : Utf8.encode (((({ data := #[48, 49, 50, 51, 52, 53, 54, 55, 56, 57, 97, 98, 99, 100, 101, 102] } : ByteArray)[1]).toNat : Nat) : Int) = ⟨#[49]⟩ := by decide
      have k8 : Utf8.encode (((({ data := #[48, 49, 50, 51, 52, 53, 54, 55, 56, 57, 97, 98, 99, 100, 101, 102] } : ByteArray)[8]).toNat : Nat) : Int) = ⟨#[56]⟩ := by decide
      go_enter Tryd.func28, Tryd.ntmps28
      go_wp2
      go_quiet (fail)
      go_wp2
      go_ret
      exact ⟨rfl, Go.Proofs.below_drewNv (Below.refl _ _) _⟩
    · have kb : bits BinOp.and IntKind.i32 25 15 = 9 := by decide
      have k1 : Utf8.encode (((({ data := #[48, 49, 50, 51, 52, 53, 54, 55, 56, 57, 97, 98, 99, 100, 101, 102] } : ByteArray)[1]).toNat : Nat) : Int) = ⟨#[49]⟩ := by decide
      have k9 : Utf8.encode (((({ data := #[48, 49, 50, 51, 52, 53, 54, 55, 56, 57, 97, 98, 99, 100, 101, 102] } : ByteArray)[9]).toNat : Nat) : Int) = ⟨#[57]⟩ := by decide
      go_enter Tryd.func28, Tryd.ntmps28
      go_wp2
      go_quiet (fail)
      go_wp2
      go_ret
      exact ⟨rfl, Go.Proofs.below_drewNv (Below.refl _ _) _⟩
    · have kb : bits BinOp.and IntKind.i32 26 15 = 10 := by decide
      have k1 : Utf8.encode (((({ data := #[48, 49, 50, 51, 52, 53, 54, 55, 56, 57, 97, 98, 99, 100, 101, 102] } : ByteArray)[1]).toNat : Nat) : Int) = ⟨#[49]⟩ := by decide
      have k10 : Utf8.encode (((({ data := #[48, 49, 50, 51, 52, 53, 54, 55, 56, 57, 97, 98, 99, 100, 101, 102] } : ByteArray)[10]).toNat : Nat) : Int) = ⟨#[97]⟩ := by decide
      go_enter Tryd.func28, Tryd.ntmps28
      go_wp2
      go_quiet (fail)
      go_wp2
      go_ret
      exact ⟨rfl, Go.Proofs.below_drewNv (Below.refl _ _) _⟩
    · have kb : bits BinOp.and IntKind.i32 27 15 = 11 := by decide
      have k1 : Utf8.encode (((({ data := #[48, 49, 50, 51, 52, 53, 54, 55, 56, 57, 97, 98, 99, 100, 101, 102] } : ByteArray)[1]).toNat : Nat) : Int) = ⟨#[49]⟩ := by decide
      have k11 : Utf8.encode (((({ data := #[48, 49, 50, 51, 52, 53, 54, 55, 56, 57, 97, 98, 99, 100, 101, 102] } : ByteArray)[11]).toNat : Nat) : Int) = ⟨#[98]⟩ := by decide
      go_enter Tryd.func28, Tryd.ntmps28
      go_wp2
      go_quiet (fail)
      go_wp2
      go_ret
      exact ⟨rfl, Go.Proofs.below_drewNv (Below.refl _ _) _⟩
    · have kb : bits BinOp.and IntKind.i32 28 15 = 12 := by decide
      have k1 : Utf8.encode (((({ data := #[48, 49, 50, 51, 52, 53, 54, 55, 56, 57, 97, 98, 99, 100, 101, 102] } : ByteArray)[1]).toNat : Nat) : Int) = ⟨#[49]⟩ := by decide
      have k12 : Utf8.encode (((({ data := #[48, 49, 50, 51, 52, 53, 54, 55, 56, 57, 97, 98, 99, 100, 101, 102] } : ByteArray)[12]).toNat : Nat) : Int) = ⟨#[99]⟩ := by decide
      go_enter Tryd.func28, Tryd.ntmps28
      go_wp2
      go_quiet (fail)
      go_wp2
      go_ret
      exact ⟨rfl, Go.Proofs.below_drewNv (Below.refl _ _) _⟩
    · have kb : bits BinOp.and IntKind.i32 29 15 = 13 := by decide
      have k1 : Utf8.encode (((({ data := #[48, 49, 50, 51, 52, 53, 54, 55, 56, 57, 97, 98, 99, 100, 101, 102] } : ByteArray)[1]).toNat : Nat) : Int) = ⟨#[49]⟩ := by decide
      have k13 : Utf8.encode (((({ data := #[48, 49, 50, 51, 52, 53, 54, 55, 56, 57, 97, 98, 99, 100, 101, 102] } : ByteArray)[13]).toNat : Nat) : Int) = ⟨#[100]⟩ := by decide
      go_enter Tryd.func28, Tryd.ntmps28
      go_wp2
      go_quiet (fail)
      go_wp2
      go_ret
      exact ⟨rfl, Go.Proofs.below_drewNv (Below.refl _ _) _⟩
    · have kb : bits BinOp.and IntKind.i32 30 15 = 14 := by decide
      have k1 : Utf8.encode (((({ data := #[48, 49, 50, 51, 52, 53, 54, 55, 56, 57, 97, 98, 99, 100, 101, 102] } : ByteArray)[1]).toNat : Nat) : Int) = ⟨#[49]⟩ := by decide
      have k14 : Utf8.encode (((({ data := #[48, 49, 50, 51, 52, 53, 54, 55, 56, 57, 97, 98, 99, 100, 101, 102] } : ByteArray)[14]).toNat : Nat) : Int) = ⟨#[101]⟩ := by decide
      go_enter Tryd.func28, Tryd.ntmps28
      go_wp2
      go_quiet (fail)
      go_wp2
      go_ret
      exact ⟨rfl, Go.Proofs.below_drewNv (Below.refl _ _) _⟩
    · have kb : bits BinOp.and IntKind.i32 31 15 = 15 := by decide
      have k1 : Utf8.encode (((({ data := #[48, 49, 50, 51, 52, 53, 54, 55, 56, 57, 97, 98, 99, 100, 101, 102] } : ByteArray)[1]).toNat : Nat) : Int) = ⟨#[49]⟩ := by decide
      have k15 : Utf8.encode (((({ data := #[48, 49, 50, 51, 52, 53, 54, 55, 56, 57, 97, 98, 99, 100, 101, 102] } : ByteArray)[15]).toNat : Nat) : Int) = ⟨#[102]⟩ := by decide
      go_enter Tryd.func28, Tryd.ntmps28
      go_wp2
      go_quiet (fail)
      go_wp2
      go_ret
      exact ⟨rfl, Go.Proofs.below_drewNv (Below.refl _ _) _⟩
    · have kb : bits BinOp.and IntKind.i32 127 15 = 15 := by decide
      have k7 : Utf8.encode (((({ data := #[48, 49, 50, 51, 52, 53, 54, 55, 56, 57, 97, 98, 99, 100, 101, 102] } : ByteArray)[7]).toNat : Nat) : Int) = ⟨#[55]⟩ := by decide
      have k15 : Utf8.encode (((({ data := #[48, 49, 50, 51, 52, 53, 54, 55, 56, 57, 97, 98, 99, 100, 101, 102] } : ByteArray)[15]).toNat : Nat) : Int) = ⟨#[102]⟩ := by decide
      go_enter Tryd.func28, Tryd.ntmps28
      go_wp2
      go_quiet (fail)
      go_wp2
      go_ret
      exact ⟨rfl, Go.Proofs.below_drewNv (Below.refl _ _) _⟩
  · have he : Qm.esc r = [] := by unfold Qm.esc; simp [h34, h92, h10, h13, h9, hx]
    have n1 : ((r : Int) == 34) = false := by simp; omega
    have n2 : ((r : Int) == 92) = false := by simp; omega
    have n3 : ((r : Int) == 10) = false := by simp; omega
    have n4 : ((r : Int) == 13) = false := by simp; omega
    have n5 : ((r : Int) == 9) = false := by simp; omega
    have n6 : ¬ (r : Int) < 32 := by omega
    have n7 : ((r : Int) == 127) = false := by simp; omega
    rw [he]
    go_enter Tryd.func28, Tryd.ntmps28
    go_wp2
    go_ret
    exact ⟨rfl, Below.refl _ _⟩
end Go.Proofs.YtdmhkibpkcbhaaaDoor
