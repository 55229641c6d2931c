/- What is proved here: what Print of package path does with a row of steps that may be, walked; conditions: as each theorem states. -/
import Derived.Test.YtomhgafpjpnmdaaGreatDoorPn
namespace Go.Proofs.YtomhgafpjpnmdaaGreatDoor
open Go.RowKit
set_option linter.unusedVariables false
set_option linter.unusedSimpArgs false

def ptL (L : List Pm.St) : List UInt8 := 36 :: L.flatMap prL
theorem prL_len {t : Pm.St} (h : mayB t = true) : (prL t).length ≤ 400 := by
  by_cases h1 : t.k = 1
  · obtain ⟨h24, _, _⟩ := mayB_key h h1
    have h8 : t.s.data.toList.length = t.s.size := Array.length_toList
    unfold prL
    rw [if_pos h1]
    split
    · rw [List.length_cons]; omega
    · have h6 := quo_le t.s.data.toList
      unfold Qm.quoteL
      simp only [List.length_cons, List.length_append, List.length_nil]
      omega
  · by_cases h2 : t.k = 2
    · obtain ⟨n0, n1, _⟩ := mayB_at h h2
      have := Lib.itoa_length_le t.n (by omega) (by omega)
      unfold prL
      rw [if_neg h1, if_pos h2]
      simp only [List.length_cons, List.length_append, List.length_nil]
      omega
    · unfold prL
      rw [if_neg h1, if_neg h2]
      split
      · simp
      · split <;> simp
theorem ptL_len (L : List Pm.St) (h : ∀ t ∈ L, mayB t = true) (k : Nat) : (ptL (L.take k)).length ≤ 1 + k * 400 := by
  unfold ptL
  rw [List.length_cons]
  have : ∀ (M : List Pm.St), (∀ t ∈ M, mayB t = true) → (M.flatMap prL).length ≤ M.length * 400 := by
    intro M
    induction M with
    | nil => simp
    | cons t r ih =>
      intro hM
      rw [List.flatMap_cons, List.length_append, List.length_cons]
      have h1 := prL_len (hM t (by simp))
      have h2 := ih (fun x hx => hM x (by simp [hx]))
      omega
  have h1 := this (L.take k) (fun t ht => h t (List.mem_of_mem_take ht))
  have h2 : (L.take k).length ≤ k := List.length_take_le _ _
  have := Nat.mul_le_mul_right 400 h2
  omega
theorem bstays {T e : TypeId} {B b : Nat} {bs : List Value} {W W' : World} (h : Lib.IsBuilderF T e B b bs W) (hk : Below W.heap.size W W') : Lib.IsBuilderF T e B b bs W' := stays h hk
theorem pstr_cells (s : ByteArray) : Lib.strCells s = Lib.byteCells s.data.toList := rfl

set_option maxRecDepth 100000 in
set_option maxHeartbeats 2000000 in
theorem print_any (a : Option Addr) (n c : Nat) (L : List Pm.St) (hm : ∀ t ∈ L, mayB t = true) (hn2 : n ≤ 1000) (u : ByteArray) (hu : ptL L = u.data.toList) (w : World) (hs : StepsIn w a n L) (hP : Pow w) :
    Calls Tryz.prog 16 #[.slice a n c] w fun e w' => e = .returned (.string u) ∧ Below w.heap.size w w' := by
  have HU := phide hu
  have HM := phide hm
  have HS := phide hs
  have hL := hs.1
  clear hu hm hs
  have hF := Lib.IsBuilderF.of (Lib.fresh_isBuilder 46 5 w)
  have hB0 : Below w.heap.size w (w.alloc (.cells #[.pointer none, .slice none 0 0] 46)) := (Below.refl _ w).alloc (Nat.le_refl _) _
  go_enter Tryz.func16, Tryz.ntmps16
  go_wp2_with fail
  refine (Tryz.Builder_WriteString_k w.heap.size w.heap.size _ _ _ hF (by show 0 + 1 ≤ _; omega) (by simp)).mono ?_
  rintro e w1 ⟨rfl, i1, b1, k1⟩
  have hB1 := hB0.trans b1
  have hI1 : Lib.IsBuilderF 46 5 w.heap.size w.heap.size (Lib.byteCells (ptL (L.take 0))) w1 := .inr i1
  clear hB0 b1 hF i1 k1
  go_wp2
  go_loopw [9] (fun i wr => ∃ k : Nat, i = .int .i64 (k : Int) ∧ k ≤ n ∧ Lib.IsBuilderF 46 5 w.heap.size w.heap.size (Lib.byteCells (ptL (L.take k))) wr ∧ Below w.heap.size w wr) (fun i _ => n - (intOf i).toNat)
  case atStart => exact ⟨0, rfl, by omega, hI1, hB1⟩
  case round =>
    clear hI1 hB1
    obtain ⟨k, rfl, hk, hI, hB⟩ := hrel
    have hlw : w.heap.size < wr.heap.size := by rcases hI with h | h <;> exact h.lt
    by_cases hlt : k < n
    · obtain ⟨b, o, rfl, hrow⟩ := (punhide HS).2.resolve_left (by omega)
      obtain ⟨c0, c1, c2⟩ := (hrow.step hB).2 k (by omega)
      obtain ⟨t, ht⟩ : ∃ t, L[k]'(by omega) = t := ⟨_, rfl⟩
      have hmt : mayB t = true := by rw [← ht]; exact punhide HM _ (List.getElem_mem _)
      have hlen := prL_len hmt
      have hpl := ptL_len L (punhide HM) k
      obtain ⟨x, hx⟩ : ∃ x : ByteArray, prL t = x.data.toList := ⟨⟨(prL t).toArray⟩, by simp⟩
      have CP := fun W hP => printStep_any t hmt x hx W hP
      have hsn : Lib.byteCells (ptL (L.take k)) ++ Lib.strCells x = Lib.byteCells (ptL (L.take (k + 1))) := by
        rw [pstr_cells, ← Lib.byteCells_append, ← hx]
        congr 1
        unfold ptL
        rw [List.take_succ_eq_append_getElem (by omega), ht, List.flatMap_append]
        simp
      have HSN := phide hsn
      have hb1 : (Lib.byteCells (ptL (L.take k))).length + x.size ≤ 140737488355328 := by
        have h8 : x.data.toList.length = x.size := Array.length_toList
        have := congrArg List.length hx
        have := Nat.mul_le_mul_right 400 hk
        rw [Lib.byteCells_length]; omega
      have HB1 := phide hb1
      rw [ht] at c0 c1 c2
      have hI2 := bstays hI ((Below.refl _ _).alloc (Nat.le_refl _) (.cells #[.int .i64 t.k, .string t.s, .int .i64 t.n] 33))
      have hB2 := hB.alloc hB.size (.cells #[.int .i64 t.k, .string t.s, .int .i64 t.n] 33)
      have hP2 : Pow (wr.alloc (.cells #[.int .i64 t.k, .string t.s, .int .i64 t.n] 33)) := hP.next hB2
      have hl2 : w.heap.size ≤ (wr.alloc (.cells #[.int .i64 t.k, .string t.s, .int .i64 t.n] 33)).heap.size := hB2.size
      obtain ⟨tk, ts, tn⟩ := t
      unfold valS at CP
      simp only [] at *
      clear ht hmt hlen hpl hx hsn hb1 hrow HU HM HS hI hlw
      go_wp2_with (go_at_call 27; refine (CP _ hP2).mono ?_; rintro e w3 ⟨rfl, b3⟩; have hI3 := bstays hI2 b3; have hB3 := hB2.trans (b3.mono hl2); clear b3)
      refine (Tryz.Builder_WriteString_k w.heap.size w.heap.size _ _ _ hI3 (punhide HB1) hB3.size).mono ?_
      rintro e w4 ⟨rfl, i4, b4, k4⟩
      have hB4 := hB3.trans b4
      rw [punhide HSN] at i4
      go_wp2
      go_roundw
      case rel => exact ⟨k + 1, by go_num, by omega, .inr i4, hB4⟩
      case measure => simp [intOf]; omega
    · have hu := punhide HU
      rw [List.take_of_length_le (by omega), hu] at hI
      have d1 : decide ((k : Int) < (n : Int)) = false := decide_eq_false (by omega)
      clear HU HM HS hu
      go_wp2_with fail
      refine (Tryz.Builder_String_any_k w.heap.size w.heap.size _ _ hI (Nat.le_of_lt hlw)).mono ?_
      rintro e w3 ⟨rfl, i3, b3, k3⟩
      go_wp2
      go_ret
      exact ⟨rfl, hB.trans b3⟩
end Go.Proofs.YtomhgafpjpnmdaaGreatDoor
