/- What is proved here: what escaped and next of package quote do, walked; conditions: as each theorem states. -/
import Derived.Test.YtomhgafpjpnmdaaGreatDoorQe
namespace Go.Proofs.YtomhgafpjpnmdaaGreatDoor
open Go.RowKit
set_option linter.unusedVariables false
set_option linter.unusedSimpArgs false

theorem at_getD (s : ByteArray) (k : Nat) (h : k < s.size) : s[k]'h = s.data.toList.getD k 0 := by
  show s.data[k]'h = _
  have h2 : k < s.data.toList.length := by rw [← Lib.size_eq]; exact h
  simp only [List.getD, List.getElem?_eq_getElem h2, Option.getD_some, Array.getElem_toList]
/-- What is read behind a backslash. -/
def escd (l : List UInt8) : Option (Nat × Nat) := if l.length < 2 then none else match Qm.escL (l.getD 1 0).toNat with | some r => some (r, 2) | none => Qm.numL l

set_option maxHeartbeats 4000000 in
set_option maxRecDepth 1000000 in
theorem escaped_any (s : ByteArray) (w : World) (hs : s.size ≤ 9223372036854775807) :
    Calls Tryz.prog 82 #[.string s] w fun e w' => e = .returned (nV (escd s.data.toList)) ∧ Below w.heap.size w w' := by
  by_cases h2 : (s.size : Int) < 2
  · have e : escd s.data.toList = none := by unfold escd; rw [if_pos (by rw [← Lib.size_eq]; omega)]
    rw [e]
    go_enter Tryz.func82, Tryz.ntmps82
    go_wp2
    go_ret2
    exact ⟨rfl, Below.refl _ _⟩
  have b1 : 1 < s.size := by omega
  have b2 : (1 : Int) < (s.size : Int) := by omega
  have he : escd s.data.toList = match Qm.escL (s[1]'b1).toNat with | some r => some (r, 2) | none => Qm.numL s.data.toList := by
    unfold escd
    rw [if_neg (by rw [← Lib.size_eq]; omega), at_getD s 1 b1]
  rw [he]
  clear he
  by_cases h34 : (s[1]'b1).toNat = 34
  · have e1 : ((s[1]'b1).toNat : Int) = 34 := by rw [h34]; rfl
    rw [h34, show Qm.escL 34 = some 34 from by decide]
    clear h34
    dsimp only
    go_enter Tryz.func82, Tryz.ntmps82
    go_wp2
    go_ret2
    exact ⟨rfl, Below.refl _ _⟩
  by_cases h92 : (s[1]'b1).toNat = 92
  · have e1 : ((s[1]'b1).toNat : Int) = 92 := by rw [h92]; rfl
    rw [h92, show Qm.escL 92 = some 92 from by decide]
    clear h92
    dsimp only
    go_enter Tryz.func82, Tryz.ntmps82
    go_wp2
    go_ret2
    exact ⟨rfl, Below.refl _ _⟩
  by_cases h47 : (s[1]'b1).toNat = 47
  · have e1 : ((s[1]'b1).toNat : Int) = 47 := by rw [h47]; rfl
    rw [h47, show Qm.escL 47 = some 47 from by decide]
    clear h47
    dsimp only
    go_enter Tryz.func82, Tryz.ntmps82
    go_wp2
    go_ret2
    exact ⟨rfl, Below.refl _ _⟩
  by_cases h98 : (s[1]'b1).toNat = 98
  · have e1 : ((s[1]'b1).toNat : Int) = 98 := by rw [h98]; rfl
    rw [h98, show Qm.escL 98 = some 8 from by decide]
    clear h98
    dsimp only
    go_enter Tryz.func82, Tryz.ntmps82
    go_wp2
    go_ret2
    exact ⟨rfl, Below.refl _ _⟩
  by_cases h102 : (s[1]'b1).toNat = 102
  · have e1 : ((s[1]'b1).toNat : Int) = 102 := by rw [h102]; rfl
    rw [h102, show Qm.escL 102 = some 12 from by decide]
    clear h102
    dsimp only
    go_enter Tryz.func82, Tryz.ntmps82
    go_wp2
    go_ret2
    exact ⟨rfl, Below.refl _ _⟩
  by_cases h110 : (s[1]'b1).toNat = 110
  · have e1 : ((s[1]'b1).toNat : Int) = 110 := by rw [h110]; rfl
    rw [h110, show Qm.escL 110 = some 10 from by decide]
    clear h110
    dsimp only
    go_enter Tryz.func82, Tryz.ntmps82
    go_wp2
    go_ret2
    exact ⟨rfl, Below.refl _ _⟩
  by_cases h114 : (s[1]'b1).toNat = 114
  · have e1 : ((s[1]'b1).toNat : Int) = 114 := by rw [h114]; rfl
    rw [h114, show Qm.escL 114 = some 13 from by decide]
    clear h114
    dsimp only
    go_enter Tryz.func82, Tryz.ntmps82
    go_wp2
    go_ret2
    exact ⟨rfl, Below.refl _ _⟩
  by_cases h116 : (s[1]'b1).toNat = 116
  · have e1 : ((s[1]'b1).toNat : Int) = 116 := by rw [h116]; rfl
    rw [h116, show Qm.escL 116 = some 9 from by decide]
    clear h116
    dsimp only
    go_enter Tryz.func82, Tryz.ntmps82
    go_wp2
    go_ret2
    exact ⟨rfl, Below.refl _ _⟩
  have hn : Qm.escL (s[1]'b1).toNat = none := by
    unfold Qm.escL
    simp only [h34, h92, h47, h98, h102, h110, h114, h116, or_self, if_false]
  have n34 : ¬ ((s[1]'b1).toNat : Int) = 34 := by omega
  have n92 : ¬ ((s[1]'b1).toNat : Int) = 92 := by omega
  have n47 : ¬ ((s[1]'b1).toNat : Int) = 47 := by omega
  have n98 : ¬ ((s[1]'b1).toNat : Int) = 98 := by omega
  have n102 : ¬ ((s[1]'b1).toNat : Int) = 102 := by omega
  have n110 : ¬ ((s[1]'b1).toNat : Int) = 110 := by omega
  have n114 : ¬ ((s[1]'b1).toNat : Int) = 114 := by omega
  have n116 : ¬ ((s[1]'b1).toNat : Int) = 116 := by omega
  rw [hn]
  clear hn h34 h92 h47 h98 h102 h110 h114 h116
  obtain ⟨x, y, hR⟩ : ∃ x y, nV (Qm.numL s.data.toList) = .tuple #[.int .i32 x, .int .i64 y] := ⟨_, _, rfl⟩
  dsimp only
  rw [hR]
  have hc : ∀ W, Calls Tryz.prog 97 #[.string s] W fun e w' => e = .returned (.tuple #[.int .i32 x, .int .i64 y]) ∧ Below W.heap.size W w' := fun W => by
    rw [← hR]; exact numbered_any s W hs
  clear hR
  go_enter Tryz.func82, Tryz.ntmps82
  go_wp2_with (go_at_call 97; refine (hc _).mono ?_; rintro e W1 ⟨rfl, b3⟩)
  first | go_ret2 | go_ret
  exact ⟨rfl, b3⟩

theorem decodeGo_L (s : ByteArray) (h : 0 < s.size) : Lib.decodeGo s = Lib.decodeL s.data.toList := by
  have := Lib.decodeL_drop s 0
  rw [List.drop_zero] at this
  rw [this]
  unfold Lib.decodeGo
  rw [if_neg (by omega)]

set_option maxHeartbeats 4000000 in
set_option maxRecDepth 1000000 in
theorem next_any (s : ByteArray) (w : World) (hs : s.size ≤ 9223372036854775807) (hT : Tabs w) :
    Calls Tryz.prog 68 #[.string s] w fun e w' => e = .returned (nV (Qm.nextL s.data.toList)) ∧ Below w.heap.size w w' := by
  by_cases hb : s.data.toList.getD 0 0 = 92
  · have hpt := prefix_is s ⟨#[92]⟩ true (by rw [show ((⟨#[92]⟩ : ByteArray)).data.toList = [92] from rfl, pre_one _ _ (by decide)]; exact decide_eq_true hb)
    have he : Qm.nextL s.data.toList = escd s.data.toList := by
      have hne : s.data.toList ≠ [] := by intro g; rw [g] at hb; revert hb; decide
      unfold Qm.nextL escd
      rw [if_neg hne, if_pos hb]
      rfl
    obtain ⟨x, y, hR⟩ : ∃ x y, nV (Qm.nextL s.data.toList) = .tuple #[.int .i32 x, .int .i64 y] := ⟨_, _, rfl⟩
    rw [hR]
    have hc : ∀ W, Calls Tryz.prog 82 #[.string s] W fun e w' => e = .returned (.tuple #[.int .i32 x, .int .i64 y]) ∧ Below W.heap.size W w' := fun W => by
      rw [← hR, he]; exact escaped_any s W hs
    clear hR he hb
    go_enter Tryz.func68, Tryz.ntmps68
    go_wp2_with (first | (go_at_call 45; refine (hpt _).mono ?_; rintro e w ⟨rfl, rfl⟩) | (go_at_call 82; refine (hc _).mono ?_; rintro e W1 ⟨rfl, b3⟩))
    first | go_ret2 | go_ret
    exact ⟨rfl, b3⟩
  have hpf := prefix_is s ⟨#[92]⟩ false (by rw [show ((⟨#[92]⟩ : ByteArray)).data.toList = [92] from rfl, pre_one _ _ (by decide)]; exact decide_eq_false hb)
  have hsc : (Lib.decodeGo s).1 ≤ 1114111 ∧ (Lib.decodeGo s).2 ≤ 4 := by
    unfold Lib.decodeGo
    split
    · decide
    · rename_i g
      have h1 := (Qm.decode_sc s.data.toList).1
      have h2 := Qm.width_le4 s.data.toList
      have := Lib.decodeL_drop s 0
      rw [List.drop_zero] at this
      rw [this] at h1 h2
      exact ⟨h1, h2⟩
  have he : Qm.nextL s.data.toList = if (Lib.decodeGo s).1 < 32 ∨ ((Lib.decodeGo s).1 = 65533 ∧ (Lib.decodeGo s).2 ≤ 1) then none else some (Lib.decodeGo s) := by
    unfold Qm.nextL
    by_cases hz : s.size = 0
    · have hnil : s.data.toList = [] := List.eq_nil_of_length_eq_zero (by rw [← Lib.size_eq]; exact hz)
      rw [if_pos hnil]
      unfold Lib.decodeGo
      rw [if_pos hz, if_pos (by decide)]
    · have hne : s.data.toList ≠ [] := by intro g; have := congrArg List.length g; rw [← Lib.size_eq] at this; exact hz this
      rw [if_neg hne, if_neg hb, ← decodeGo_L s (by omega)]
  rw [he]
  have hcall : ∀ W, Tabs W → Calls Tryz.prog 83 #[.string s] W fun e w' => e = .returned (.tuple #[.int .i32 (Lib.decodeGo s).1, .int .i64 (Lib.decodeGo s).2]) ∧ Below W.heap.size W w' := fun W h => Tryz.utf8_DecodeRuneInString s W h
  clear he hb
  generalize Lib.decodeGo s = q at hsc hcall ⊢
  obtain ⟨r, k⟩ := q
  dsimp only at hsc hcall ⊢
  obtain ⟨hr, hk⟩ := hsc
  have arm : True := trivial
  by_cases c1 : (r : Int) < 32
  · rw [if_pos (.inl (by omega))]
    go_enter Tryz.func68, Tryz.ntmps68
    go_wp2_with (first | (go_at_call 45; refine (hpf _).mono ?_; rintro e w ⟨rfl, rfl⟩) | (go_at_call 83; refine (hcall _ hT).mono ?_; rintro e W1 ⟨rfl, b3⟩))
    first | go_ret2 | go_ret
    exact ⟨rfl, b3⟩
  by_cases c2 : (r : Int) = 65533
  · obtain rfl : r = 65533 := by omega
    clear hr c1 c2
    by_cases c3 : (k : Int) ≤ 1
    · rw [if_pos (.inr ⟨by omega, by omega⟩)]
      go_enter Tryz.func68, Tryz.ntmps68
      go_wp2_with (first | (go_at_call 45; refine (hpf _).mono ?_; rintro e w ⟨rfl, rfl⟩) | (go_at_call 83; refine (hcall _ hT).mono ?_; rintro e W1 ⟨rfl, b3⟩))
      first | go_ret2 | go_ret
      exact ⟨rfl, b3⟩
    · rw [if_neg (by omega)]
      go_enter Tryz.func68, Tryz.ntmps68
      go_wp2_with (first | (go_at_call 45; refine (hpf _).mono ?_; rintro e w ⟨rfl, rfl⟩) | (go_at_call 83; refine (hcall _ hT).mono ?_; rintro e W1 ⟨rfl, b3⟩))
      first | go_ret2 | go_ret
      exact ⟨rfl, b3⟩
  · rw [if_neg (by omega)]
    go_enter Tryz.func68, Tryz.ntmps68
    go_wp2_with (first | (go_at_call 45; refine (hpf _).mono ?_; rintro e w ⟨rfl, rfl⟩) | (go_at_call 83; refine (hcall _ hT).mono ?_; rintro e W1 ⟨rfl, b3⟩))
    first | go_ret2 | go_ret
    exact ⟨rfl, b3⟩
end Go.Proofs.YtomhgafpjpnmdaaGreatDoor
