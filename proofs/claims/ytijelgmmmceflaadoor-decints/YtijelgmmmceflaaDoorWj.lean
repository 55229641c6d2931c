/- What is proved here: what Print of package dec does at every decimal that may be; conditions: the decimal may be. -/
import Derived.Test.YtijelgmmmceflaaDoorWi
namespace Go.Proofs.YtijelgmmmceflaaDoor
open Go.RowKit
set_option linter.unusedVariables false
set_option linter.unusedSimpArgs false

set_option maxRecDepth 100000 in
set_option maxHeartbeats 1000000 in
theorem print_high (ng : Bool) (s : ByteArray) (n : Nat) (w : World) (h : Dm.mayB ng s.data.toList n = true) (hs2 : s.size ≤ 60) (hp : n < s.size) :
    Calls Tryd.prog 16 #[.agg #[.bool ng, .string s, .int .i64 n]] w fun e w' => e = .returned (.string ⟨((if ng then [45] else []) ++ (s.data.toList.take (s.size - n) ++ (if 0 < n then 46 :: s.data.toList.drop (s.size - n) else []))).toArray⟩) ∧ Below w.heap.size w w' := by
  have hx := Box3.start w (.bool ng) (.string s) (.int .i64 (n : Int)) 23
  have H := hide h
  have hsm : s.size ≤ maxLen := by unfold maxLen; omega
  have hge : ¬ (s.size : Int) - (n : Int) ≤ 0 := by omega
  have hT1 : (s.extract 0 (s.size - n)).data.toList = s.data.toList.take (s.size - n) := by
    rw [Go.Lib.extract_data, List.drop_zero, Nat.sub_zero]
  have hT2 : ((⟨#[46]⟩ : ByteArray) ++ s.extract (s.size - n) s.size).data.toList = 46 :: s.data.toList.drop (s.size - n) := by
    rw [ByteArray.data_append, Array.toList_append, Go.Lib.extract_to_end]; rfl
  have hZ1 : (s.extract 0 (s.size - n)).size ≤ 60 := by rw [size_len, hT1, List.length_take]; omega
  have hZ2 : ((⟨#[46]⟩ : ByteArray) ++ s.extract (s.size - n) s.size).size ≤ 61 := by
    rw [size_len, hT2, List.length_cons, List.length_drop, ← size_len]; omega
  have hT3 : List.take (s.size - (s.size - n)) (List.drop (s.size - n) s.data.toList) = List.drop (s.size - n) s.data.toList := List.take_of_length_le (by rw [List.length_drop, ← size_len]; omega)
  have HT1 := hide hT1
  have HT3 := hide hT3
  have HT2 := hide hT2
  have HZ1 := hide hZ1
  have HZ2 := hide hZ2
  clear h
  clear hT1 hT2 hT3 hZ1 hZ2
  cases ng with
  | false =>
    by_cases hn0 : (0 : Int) < (n : Int)
    · go_enter Tryd.func16, Tryd.ntmps16
      go_wp2_with (go_at_call 18; refine (may_b false s n true _ hsm (unhide H)).mono ?_; rintro e w2 ⟨rfl, hbw⟩; have hx2 := hx.next hbw; clear hx hbw; obtain ⟨hx0, hxs, c0, c1, c2⟩ := id hx2)
      have hx3 := hx2.alloc (.cells #[.pointer none, .slice none 0 0] 56)
      have hz : w2.heap.size ≤ (w2.alloc (.cells #[.pointer none, .slice none 0 0] 56)).heap.size := by simp
      clear c0 c1 c2
      refine (writeS w2.heap.size [] (s.extract 0 (s.size - n)) (w2.alloc (.cells #[.pointer none, .slice none 0 0] 56)) (Lib.fresh_isBuilder 56 5 w2) (by have := unhide HZ1; simp only [List.length_nil]; omega) hz).mono ?_
      rintro e w4 ⟨rfl, hI4, hb4⟩
      have hx4 := hx3.step hxs hb4
      have hz4 := Nat.le_trans hz hb4.size
      obtain ⟨_, _, e0, e1, e2⟩ := id hx4
      go_wp2_with fail
      refine (writeS w2.heap.size _ _ w4 hI4 (by have := unhide HZ2; rw [List.length_append, unhide HT1, List.length_take]; simp only [List.length_cons, List.length_nil]; omega) hz4).mono ?_
      rintro e w5 ⟨rfl, hI5, hb5⟩
      have hx5 := hx4.step hxs hb5
      have hz5 := Nat.le_trans hz4 hb5.size
      go_wp2_with fail
      refine (Tryd.Builder_String_any w2.heap.size w2.heap.size _ w5 hI5 hz5).mono ?_
      rintro e w6 ⟨rfl, hb6⟩
      go_wp2_with fail
      go_ret
      refine ⟨?_, (hx5.step hxs hb6).1⟩
      exact ret_str (by rw [unhide HT3])
    · go_enter Tryd.func16, Tryd.ntmps16
      go_wp2_with (go_at_call 18; refine (may_b false s n true _ hsm (unhide H)).mono ?_; rintro e w2 ⟨rfl, hbw⟩; have hx2 := hx.next hbw; clear hx hbw; obtain ⟨hx0, hxs, c0, c1, c2⟩ := id hx2)
      have hx3 := hx2.alloc (.cells #[.pointer none, .slice none 0 0] 56)
      have hz : w2.heap.size ≤ (w2.alloc (.cells #[.pointer none, .slice none 0 0] 56)).heap.size := by simp
      clear c0 c1 c2
      refine (writeS w2.heap.size [] (s.extract 0 (s.size - n)) (w2.alloc (.cells #[.pointer none, .slice none 0 0] 56)) (Lib.fresh_isBuilder 56 5 w2) (by have := unhide HZ1; simp only [List.length_nil]; omega) hz).mono ?_
      rintro e w4 ⟨rfl, hI4, hb4⟩
      have hx4 := hx3.step hxs hb4
      have hz4 := Nat.le_trans hz hb4.size
      obtain ⟨_, _, e0, e1, e2⟩ := id hx4
      go_wp2_with fail
      refine (Tryd.Builder_String_any w2.heap.size w2.heap.size _ w4 hI4 hz4).mono ?_
      rintro e w6 ⟨rfl, hb6⟩
      go_wp2_with fail
      go_ret
      refine ⟨?_, (hx4.step hxs hb6).1⟩
      exact ret_str (by first | rfl | simp)
  | true =>
    by_cases hn0 : (0 : Int) < (n : Int)
    · go_enter Tryd.func16, Tryd.ntmps16
      go_wp2_with (go_at_call 18; refine (may_b true s n true _ hsm (unhide H)).mono ?_; rintro e w2 ⟨rfl, hbw⟩; have hx2 := hx.next hbw; clear hx hbw; obtain ⟨hx0, hxs, c0, c1, c2⟩ := id hx2)
      refine (writeB w2.heap.size [] 45 (w2.alloc (.cells #[.pointer none, .slice none 0 0] 56)) (Lib.fresh_isBuilder 56 5 w2) (by simp) (by simp)).mono ?_
      rintro e w3 ⟨rfl, hI3, hb3⟩
      have hx3 := (hx2.alloc (.cells #[.pointer none, .slice none 0 0] 56)).step hxs hb3
      have hz : w2.heap.size ≤ w3.heap.size := Nat.le_trans (by simp) hb3.size
      obtain ⟨_, _, d0, d1, d2⟩ := id hx3
      clear c0 c1 c2
      go_wp2_with fail
      refine (writeS w2.heap.size [45] (s.extract 0 (s.size - n)) w3 hI3 (by have := unhide HZ1; simp only [List.length_cons, List.length_nil]; omega) hz).mono ?_
      rintro e w4 ⟨rfl, hI4, hb4⟩
      have hx4 := hx3.step hxs hb4
      have hz4 := Nat.le_trans hz hb4.size
      obtain ⟨_, _, e0, e1, e2⟩ := id hx4
      go_wp2_with fail
      refine (writeS w2.heap.size _ _ w4 hI4 (by have := unhide HZ2; rw [List.length_append, unhide HT1, List.length_take]; simp only [List.length_cons, List.length_nil]; omega) hz4).mono ?_
      rintro e w5 ⟨rfl, hI5, hb5⟩
      have hx5 := hx4.step hxs hb5
      have hz5 := Nat.le_trans hz4 hb5.size
      go_wp2_with fail
      refine (Tryd.Builder_String_any w2.heap.size w2.heap.size _ w5 hI5 hz5).mono ?_
      rintro e w6 ⟨rfl, hb6⟩
      go_wp2_with fail
      go_ret
      refine ⟨?_, (hx5.step hxs hb6).1⟩
      exact ret_str (by rw [unhide HT3])
    · go_enter Tryd.func16, Tryd.ntmps16
      go_wp2_with (go_at_call 18; refine (may_b true s n true _ hsm (unhide H)).mono ?_; rintro e w2 ⟨rfl, hbw⟩; have hx2 := hx.next hbw; clear hx hbw; obtain ⟨hx0, hxs, c0, c1, c2⟩ := id hx2)
      refine (writeB w2.heap.size [] 45 (w2.alloc (.cells #[.pointer none, .slice none 0 0] 56)) (Lib.fresh_isBuilder 56 5 w2) (by simp) (by simp)).mono ?_
      rintro e w3 ⟨rfl, hI3, hb3⟩
      have hx3 := (hx2.alloc (.cells #[.pointer none, .slice none 0 0] 56)).step hxs hb3
      have hz : w2.heap.size ≤ w3.heap.size := Nat.le_trans (by simp) hb3.size
      obtain ⟨_, _, d0, d1, d2⟩ := id hx3
      clear c0 c1 c2
      go_wp2_with fail
      refine (writeS w2.heap.size [45] (s.extract 0 (s.size - n)) w3 hI3 (by have := unhide HZ1; simp only [List.length_cons, List.length_nil]; omega) hz).mono ?_
      rintro e w4 ⟨rfl, hI4, hb4⟩
      have hx4 := hx3.step hxs hb4
      have hz4 := Nat.le_trans hz hb4.size
      obtain ⟨_, _, e0, e1, e2⟩ := id hx4
      go_wp2_with fail
      refine (Tryd.Builder_String_any w2.heap.size w2.heap.size _ w4 hI4 hz4).mono ?_
      rintro e w6 ⟨rfl, hb6⟩
      go_wp2_with fail
      go_ret
      refine ⟨?_, (hx4.step hxs hb6).1⟩
      exact ret_str (by first | rfl | simp)

theorem print_any (d : Dm.D) (w : World) (h : Dm.May d) :
    Calls Tryd.prog 16 #[dV d] w fun e w' => e = .returned (.string ⟨(Dm.printL d).toArray⟩) ∧ Below w.heap.size w w' := by
  have hm := dV_may h
  obtain ⟨l1, l2, l3⟩ := may_len h
  have hsz := mk_size d.ds
  unfold Dm.printL
  by_cases g : d.ds.length ≤ d.sc
  · rw [if_pos g]
    have := print_low d.ng ⟨d.ds.toArray⟩ d.sc w hm (by omega) (by omega) l3 (by omega)
    rw [hsz] at this
    exact this
  · rw [if_neg g]
    have := print_high d.ng ⟨d.ds.toArray⟩ d.sc w hm (by omega) (by omega)
    rw [hsz] at this
    exact this
end Go.Proofs.YtijelgmmmceflaaDoor
