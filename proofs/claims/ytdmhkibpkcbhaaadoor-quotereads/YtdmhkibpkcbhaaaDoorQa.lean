/- What is proved here: what Valid, Runes, byteAt, Cut and escape of package quote do, walked; conditions: as each theorem states. -/
import Derived.Test.YtdmhkibpkcbhaaaDoorRows
import Derived.Test.YtdmhkibpkcbhaaaDoorQo
import Derived.Test.YtdmhkibpkcbhaaaDoorQs
import Derived.WalkKit
import Derived.WalkSpells
import Derived.WalkLawsBesides
import Derived.BigCall
namespace Go.Proofs.YtdmhkibpkcbhaaaDoor
open Go.RowKit
set_option linter.unusedVariables false
set_option linter.unusedSimpArgs false

/-- The two tables of unicode/utf8, as they were laid. -/
abbrev Tabs (w : World) : Prop := Lib.Utf8Tabs 0 1 w
theorem at_step (s : ByteArray) (pos : Nat) (hp : pos < s.size) : s.data.toList.drop pos ≠ [] ∧ Lib.decodeL (s.data.toList.drop pos) = Utf8.decode s pos ∧
    (s.data.toList.drop pos).drop (Utf8.decode s pos).2 = s.data.toList.drop (pos + (Utf8.decode s pos).2) ∧ 1 ≤ (Utf8.decode s pos).2 ∧ pos + (Utf8.decode s pos).2 ≤ s.size := by
  have hne : s.data.toList.drop pos ≠ [] := by
    intro h0
    have := congrArg List.length h0
    rw [List.length_drop, ← Lib.size_eq] at this
    simp at this
    omega
  have hd := Lib.decodeL_drop s pos
  have h1 := Lib.decodeL_width (s.data.toList.drop pos)
  have h2 := Lib.decodeL_le (s.data.toList.drop pos) hne
  rw [hd, List.length_drop, ← Lib.size_eq] at h2
  rw [hd] at h1
  exact ⟨hne, hd, by rw [List.drop_drop], h1, by omega⟩
theorem at_end (s : ByteArray) (pos : Nat) (hp : ¬ pos < s.size) : s.data.toList.drop pos = [] := List.drop_eq_nil_of_le (by rw [← Lib.size_eq]; omega)

theorem valid_any (s : ByteArray) (w : World) (hs : s.size ≤ 9223372036854775807) (hT : Tabs w) :
    Calls Tryd.prog 10 #[.string s] w fun e w' => e = .returned (.bool (Lib.validD s.data.toList)) ∧ Below w.heap.size w w' := by
  go_enter Tryd.func10, Tryd.ntmps10
  go_wp2_with (go_at_call 24; refine (Tryd.utf8_ValidString _ _ hs hT).mono ?_)
  rintro e W1 ⟨rfl, b1⟩
  go_wp2
  go_ret
  exact ⟨rfl, b1⟩

set_option maxHeartbeats 4000000 in
set_option maxRecDepth 1000000 in
theorem runes_any (s : ByteArray) (w : World) (hs : s.size ≤ 9223372036854775807) :
    Calls Tryd.prog 11 #[.string s] w fun e w' => e = .returned (.int .i64 ((Qm.pc s.data.toList).length : Int)) ∧ Below w.heap.size w w' := by
  go_enter Tryd.func11, Tryd.ntmps11
  go_wp2
  go_loopw [3] (fun c wr => ∃ (pos k : Nat), c = .int .i64 (k : Int) ∧ wr.heap[w.heap.size]? = some (.stringIter s pos) ∧ Below w.heap.size w wr ∧ k + (Qm.pc (s.data.toList.drop pos)).length = (Qm.pc s.data.toList).length) (fun _ wr => s.size - wr.iterPos w.heap.size)
  case atStart =>
    refine ⟨0, 0, rfl, ?_, (Below.refl _ w).alloc (Nat.le_refl _) _, by simp⟩
    have := World.iter_heap w s 0
    simpa using this
  case round =>
    obtain ⟨pos, k, rfl, hit, hbw, hk⟩ := hrel
    have hsz : w.heap.size < wr.heap.size := (Array.getElem?_eq_some_iff.1 hit).1
    have hle := (Qm.pc_le s.data.toList).1
    rw [← Lib.size_eq] at hle
    by_cases hp : pos < s.size
    · have hnx : ∀ ty, (Instr.next (.pointer (some ⟨w.heap.size, 0, none⟩)) true ty).run Tryd.prog wr = _ := fun ty => Lib.run_next_any_at wr w.heap.size s pos ty hit hp
      obtain ⟨hne, hd, hdd, hw1, hw2⟩ := at_step s pos hp
      have hst := Qm.pc_step _ hne
      rw [hd, hdd] at hst
      rw [hst, List.length_cons] at hk
      have hit2 := Lib.iterAt_heap wr w.heap.size s pos (pos + (Utf8.decode s pos).2) hit
      have hbw2 := Lib.below_iterAt hbw (k := w.heap.size) (by omega) s (pos + (Utf8.decode s pos).2)
      go_wp2
      go_roundw
      case rel => exact ⟨pos + (Utf8.decode s pos).2, k + 1, rfl, hit2, hbw2, by omega⟩
      case measure =>
        simp only [World.iterPos, hit2, hit]
        omega
    · have hnx : ∀ ty, (Instr.next (.pointer (some ⟨w.heap.size, 0, none⟩)) true ty).run Tryd.prog wr = _ := fun ty => Lib.run_next_end_at wr w.heap.size s pos ty hit hp
      rw [at_end s pos hp, Qm.pc_nil] at hk
      simp only [List.length_nil, Nat.add_zero] at hk
      go_wp2
      go_ret
      exact ⟨by rw [hk]; rfl, hbw⟩

set_option maxHeartbeats 4000000 in
set_option maxRecDepth 1000000 in
theorem byteAt_any (s : ByteArray) (n : Nat) (w : World) (hs : s.size ≤ 9223372036854775807) (hn : n ≤ 9223372036854775807) :
    Calls Tryd.prog 26 #[.string s, .int .i64 (n : Int)] w fun e w' => e = .returned (.int .i64 (Qm.posn s.data.toList n : Int)) ∧ Below w.heap.size w w' := by
  go_enter Tryd.func26, Tryd.ntmps26
  go_wp2
  go_loopw [1, 5] (fun c _ wr => ∃ (pos k : Nat), c = .int .i64 (k : Int) ∧ k ≤ 9223372036854775807 ∧ wr.heap[w.heap.size]? = some (.stringIter s pos) ∧ Below w.heap.size w wr ∧ pos + Qm.posn (s.data.toList.drop pos) k = Qm.posn s.data.toList n ∧ pos ≤ s.size) (fun _ _ wr => s.size - wr.iterPos w.heap.size)
  case atStart =>
    refine ⟨0, n, rfl, hn, ?_, (Below.refl _ w).alloc (Nat.le_refl _) _, by simp, by omega⟩
    have := World.iter_heap w s 0
    simpa using this
  case round =>
    obtain ⟨pos, k, rfl, hk1, hit, hbw, hk, hps⟩ := hrel
    have hsz : w.heap.size < wr.heap.size := (Array.getElem?_eq_some_iff.1 hit).1
    by_cases hp : pos < s.size
    · have hnx : ∀ ty, (Instr.next (.pointer (some ⟨w.heap.size, 0, none⟩)) true ty).run Tryd.prog wr = _ := fun ty => Lib.run_next_any_at wr w.heap.size s pos ty hit hp
      obtain ⟨hne, hd, hdd, hw1, hw2⟩ := at_step s pos hp
      have hit2 := Lib.iterAt_heap wr w.heap.size s pos (pos + (Utf8.decode s pos).2) hit
      have hbw2 := Lib.below_iterAt hbw (k := w.heap.size) (by omega) s (pos + (Utf8.decode s pos).2)
      by_cases h0 : k = 0
      · subst h0
        rw [Qm.posn_zero, Nat.add_zero] at hk
        subst hk
        go_wp2
        go_ret
        exact ⟨rfl, hbw2⟩
      · obtain ⟨j, rfl⟩ : ∃ j, k = j + 1 := ⟨k - 1, by omega⟩
        have hst := Qm.posn_step _ hne j
        rw [hd, hdd] at hst
        have hnz : (((j + 1 : Nat) : Int) == 0) = false := by simp; omega
        go_wp2
        go_roundw
        case rel => exact ⟨pos + (Utf8.decode s pos).2, j, by first | rfl | (congr 1; done) | (congr 1; omega), by omega, hit2, hbw2, by omega, by omega⟩
        case measure =>
          simp only [World.iterPos, hit2, hit]
          omega
    · have hnx : ∀ ty, (Instr.next (.pointer (some ⟨w.heap.size, 0, none⟩)) true ty).run Tryd.prog wr = _ := fun ty => Lib.run_next_end_at wr w.heap.size s pos ty hit hp
      rw [at_end s pos hp, Qm.posn_nil] at hk
      have hps2 : pos = s.size := by omega
      go_wp2
      go_ret
      exact ⟨by rw [← hk, hps2]; rfl, hbw⟩
end Go.Proofs.YtdmhkibpkcbhaaaDoor
