/- What is proved here: what strings.IndexAny finds in any text for the three bytes that begin a step, walked; conditions: as each theorem states. -/
import Derived.Test.YtomhgafpjpnmdaaGreatDoorPp
import Derived.Lib.OthersKept
namespace Go.Proofs.YtomhgafpjpnmdaaGreatDoor
open Go.RowKit
set_option linter.unusedVariables false
set_option linter.unusedSimpArgs false
set_option maxRecDepth 100000

theorem enc_high {r : Nat} (hr : Qm.Sc r) (h : 128 ≤ r) : ∀ b ∈ Lib.encodeRune (r : Int), 128 ≤ b.toNat := by
  obtain ⟨h1, h2⟩ := hr
  have key : ∀ z : Int, 128 ≤ z → z < 256 → 128 ≤ (z.toNat.toUInt8).toNat := fun z a b => by rw [Qm.byteN z (by omega) b]; omega
  intro b hb
  unfold Lib.encodeRune at hb
  obtain ⟨z, hz, rfl⟩ := List.mem_map.1 hb
  have hz2 : 128 ≤ z ∧ z < 256 := by
    by_cases a : r ≤ 2047
    · rw [Lib.encodeRuneZ_two (by omega) (by omega)] at hz
      simp only [List.mem_cons, List.mem_nil_iff, or_false] at hz
      rcases hz with rfl | rfl <;> omega
    · by_cases c : r ≤ 65535
      · rw [Lib.encodeRuneZ_three (by omega)] at hz
        simp only [List.mem_cons, List.mem_nil_iff, or_false] at hz
        rcases hz with rfl | rfl | rfl <;> omega
      · rw [Lib.encodeRuneZ_four (by omega) (by omega)] at hz
        simp only [List.mem_cons, List.mem_nil_iff, or_false] at hz
        rcases hz with rfl | rfl | rfl | rfl <;> omega
  exact key z hz2.1 hz2.2
theorem wide_high (l : List UInt8) (hne : l ≠ []) (h : 128 ≤ (l.getD 0 0).toNat) : ∀ b ∈ l.take (Lib.decodeL l).2, 128 ≤ b.toNat := by
  by_cases hg : Qm.good l
  · rw [← Qm.piece l hne hg]
    exact enc_high (Qm.decode_sc l) (dec_high l h)
  · unfold Qm.good at hg
    rw [Classical.not_not] at hg
    rw [hg.2]
    cases l with
    | nil => exact absurd rfl hne
    | cons c t =>
      intro b hb
      simp at hb
      rw [hb]; exact h
theorem noAny_more {s : List UInt8} {p d : Nat} (h : Lib.NoAny s [46, 91, 42] p) (hd : ∀ b ∈ (s.drop p).take d, 128 ≤ b.toNat) : Lib.NoAny s [46, 91, 42] (p + d) := by
  intro j b hj hb
  by_cases hp : j < p
  · exact h j b hp hb
  · have h1 : b ∈ (s.drop p).take d := by
      rw [List.mem_iff_getElem?]
      refine ⟨j - p, ?_⟩
      rw [List.getElem?_take, if_pos (by omega), List.getElem?_drop, show p + (j - p) = j by omega]
      exact hb
    have h2 := hd b h1
    rw [← Bool.not_eq_true]
    intro hc
    have h3 := List.contains_iff_mem.1 hc
    simp at h3
    rcases h3 with rfl | rfl | rfl <;> exact absurd h2 (by decide)

set_option maxHeartbeats 8000000 in
theorem idx_any8 (s : ByteArray) (h8 : s.size ≤ 8) (i : Int) (hi : Lib.indexAny s.data.toList [46, 91, 42] = i) (w : World) :
    Calls Tryz.prog 57 #[.string s, .string ⟨#[46, 91, 42]⟩] w fun e w' => e = .returned (.int .i64 i) ∧ Below w.heap.size w w' := by
  have HI := phide hi
  have CU : ∀ W, Calls Tryz.prog 64 #[.int .i64 (s.size : Int)] W fun e w' => e = .returned (.bool false) ∧ w' = W := fun W => by
    refine (Any.strings_shouldUseASCIISet (show Go.Proofs.Lays.n226 Tryz.prog Tryz.laysI_ren from { Tryz.laysI_Lays_153 with }) (s.size : Int) W).mono ?_
    rintro e w' ⟨rfl, rfl⟩
    exact ⟨by rw [decide_eq_false (by omega)], rfl⟩
  clear hi
  go_enter Tryz.func57, Tryz.ntmps57
  go_wp2_with (go_at_call 64; refine (CU _).mono ?_; rintro e w ⟨rfl, rfl⟩)
  go_loopw [9, 10] (fun _ _ wr => ∃ pos : Nat, wr.heap[w.heap.size]? = some (.stringIter s pos) ∧ Below w.heap.size w wr ∧ Hid (Lib.NoAny s.data.toList [46, 91, 42] pos) ∧ pos ≤ s.size) (fun _ _ wr => s.size - wr.iterPos w.heap.size)
  case atStart =>
    refine ⟨0, ?_, (Below.refl _ w).alloc (Nat.le_refl _) _, phide (Lib.NoAny.zero _ _), by omega⟩
    have := World.iter_heap w s 0
    simpa using this
  case round =>
    obtain ⟨pos, hit, hbw, HN, hps⟩ := hrel
    have hsz : w.heap.size < wr.heap.size := (Array.getElem?_eq_some_iff.1 hit).1
    by_cases hp : pos < s.size
    · obtain ⟨hne, hd, hdd, hw1, hw2⟩ := at_step s pos hp
      have hg : (s.data.toList.drop pos).getD 0 0 = s[pos]'hp := by
        rw [List.getD, List.getElem?_drop, Nat.add_zero, List.getElem?_eq_getElem (by rw [Array.length_toList]; exact hp)]; rfl
      have hxl : s.data.toList[pos]? = some (s[pos]'hp) := by rw [List.getElem?_eq_getElem (by rw [Array.length_toList]; exact hp)]; rfl
      by_cases ha : (s[pos]'hp).toNat < 128
      · obtain ⟨x, hx⟩ : ∃ x, s[pos]'hp = x := ⟨_, rfl⟩
        have hnx : ∀ ty, (Instr.next (.pointer (some ⟨w.heap.size, 0, none⟩)) true ty).run Tryz.prog wr = _ := fun ty => Lib.run_next_ascii_at wr w.heap.size s pos ty hit hp ha
        rw [hx] at hnx ha hxl
        have hit2 := Lib.iterAt_heap wr w.heap.size s pos (pos + 1) hit
        have hbw2 := Lib.below_iterAt hbw (k := w.heap.size) (by omega) s (pos + 1)
        have hcon := Lib.contains_iff_indexByte [46, 91, 42] x
        have hback : ((x.toNat : Int)).toNat.toUInt8 = x := by simp
        obtain ⟨z, hz⟩ : ∃ z, Lib.indexByte [46, 91, 42] x = z := ⟨_, rfl⟩
        rw [hz] at hcon
        have CR : ∀ W, Calls Tryz.prog 63 #[.string ⟨#[46, 91, 42]⟩, .int .i32 (x.toNat : Int)] W fun e w' => e = .returned (.int .i64 z) ∧ w' = W := fun W => by
          refine (Any.strings_IndexRune_ascii (show Go.Proofs.Lays.n152 Tryz.prog Tryz.laysI_ren from { Tryz.laysI_Lays_153 with }) ⟨#[46, 91, 42]⟩ (x.toNat : Int) W (by omega) (by omega)).mono ?_
          rintro e w' ⟨rfl, rfl⟩
          exact ⟨by rw [hback, ← hz], rfl⟩
        cases hin : List.contains ([46, 91, 42] : List UInt8) x
        · rw [hin] at hcon
          have d1 : decide (0 ≤ z) = false := hcon.symm
          have HN2 := phide ((punhide HN).succ hxl hin)
          clear hne hd hdd hw1 hw2 hg hxl hx ha hcon hback hz hin HN
          go_wp2_with (go_at_call 63; refine (CR _).mono ?_; rintro e w9 ⟨rfl, rfl⟩)
          go_roundw
          case rel => exact ⟨pos + 1, hit2, hbw2, HN2, by omega⟩
          case measure =>
            simp only [World.iterPos, hit2, hit]
            omega
        · rw [hin] at hcon
          have d1 : decide (0 ≤ z) = true := hcon.symm
          have HF : Hid (i = (pos : Int)) := phide (by rw [← punhide HI]; exact Lib.indexAny_hit (punhide HN) hxl hin)
          clear hne hd hdd hw1 hw2 hg hxl hx ha hcon hback hz hin HN
          go_wp2_with (go_at_call 63; refine (CR _).mono ?_; rintro e w9 ⟨rfl, rfl⟩)
          go_ret
          exact ⟨by rw [punhide HF]; rfl, hbw2⟩
      · have hnx : ∀ ty, (Instr.next (.pointer (some ⟨w.heap.size, 0, none⟩)) true ty).run Tryz.prog wr = _ := fun ty => Lib.run_next_any_at wr w.heap.size s pos ty hit hp
        have hh : 128 ≤ ((s.data.toList.drop pos).getD 0 0).toNat := by rw [hg]; omega
        have hsc := Qm.decode_sc (s.data.toList.drop pos)
        have hhi := dec_high (s.data.toList.drop pos) hh
        have hwd := wide_high (s.data.toList.drop pos) hne hh
        rw [hd] at hsc hhi hwd
        obtain ⟨r, hr⟩ : ∃ r, (Utf8.decode s pos).1 = r := ⟨_, rfl⟩
        obtain ⟨d, hdd2⟩ : ∃ d, (Utf8.decode s pos).2 = d := ⟨_, rfl⟩
        rw [hr, hdd2] at hnx
        rw [hr] at hsc hhi
        rw [hdd2] at hwd hw2 hw1
        have hit2 := Lib.iterAt_heap wr w.heap.size s pos (pos + d) hit
        have hbw2 := Lib.below_iterAt hbw (k := w.heap.size) (by omega) s (pos + d)
        have CR := fun W => rune_high r hhi hsc W
        have HN2 := phide (noAny_more (punhide HN) hwd)
        clear hne hd hdd hg hxl ha hh hsc hhi hwd hr hdd2 HN
        go_wp2_with (go_at_call 63; refine (CR _).mono ?_; rintro e w9 ⟨rfl, b9⟩)
        go_roundw
        case rel => exact ⟨pos + d, (b9.block _ (by have := (Array.getElem?_eq_some_iff.1 hit2).1; exact this)).trans hit2, hbw2.trans (b9.mono hbw2.size), HN2, hw2⟩
        case measure =>
          have hit3 := (b9.block _ ((Array.getElem?_eq_some_iff.1 hit2).1)).trans hit2
          simp only [World.iterPos, hit3, hit]
          omega
    · have hnx : ∀ ty, (Instr.next (.pointer (some ⟨w.heap.size, 0, none⟩)) true ty).run Tryz.prog wr = _ := fun ty => Lib.run_next_end_at wr w.heap.size s pos ty hit hp
      have HF : Hid (i = -1) := phide (by
        rw [← punhide HI]
        refine Lib.indexAny_none ?_
        rw [← Lib.size_eq, show s.size = pos by omega]
        exact punhide HN)
      clear HN
      go_wp2
      go_ret
      exact ⟨by rw [punhide HF]; rfl, hbw⟩
theorem idx_any (s : ByteArray) (hs : s.size ≤ 100000) (i : Int) (hi : Lib.indexAny s.data.toList [46, 91, 42] = i) (w : World) :
    Calls Tryz.prog 57 #[.string s, .string ⟨#[46, 91, 42]⟩] w fun e w' => e = .returned (.int .i64 i) ∧ Below w.heap.size w w' := by
  by_cases h8 : s.size ≤ 8
  · exact idx_any8 s h8 i hi w
  · refine (Tryz.strings_IndexAny_long s ⟨#[46, 91, 42]⟩ w (by decide) (by omega) (by omega) (by decide) ?_).mono ?_
    · intro j b hj
      have := List.mem_of_getElem? hj
      simp at this
      rcases this with rfl | rfl | rfl <;> decide
    · rintro e w' ⟨rfl, hb⟩
      exact ⟨by rw [← hi], hb⟩
end Go.Proofs.YtomhgafpjpnmdaaGreatDoor
