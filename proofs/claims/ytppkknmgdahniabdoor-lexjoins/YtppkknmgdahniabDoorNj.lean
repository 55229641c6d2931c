/- What is proved here: the example at the head of the laws of layer 10, few, and how a token of a row is found, walked; conditions: the tables of unicode/utf8 and of signs lie. -/
import Derived.Test.YtppkknmgdahniabDoorNh
import Derived.Test.YtppkknmgdahniabDoorNi
import Derived.Handy
namespace Go.Proofs.YtppkknmgdahniabDoor.Lex
set_option maxRecDepth 100000
open Go.RowKit Go.Proofs.YtppkknmgdahniabDoor.Nc Go.Proofs.YtppkknmgdahniabDoor.Nq
set_option maxRecDepth 100000
set_option linter.unusedVariables false
set_option linter.unusedSimpArgs false

theorem TokIn.below {w w' : World} {V : Value} {N : Nat} {T : List (Lx.Tk × Nat)} (h : TokIn w V N T) (hB : Below w.heap.size w w') : TokIn w' V N T := own_below h hB
theorem TokIn.shape {w : World} {V : Value} {N : Nat} {T : List (Lx.Tk × Nat)} (h : TokIn w V N T) : ∃ a c, V = .slice a T.length c := own_shape h
theorem rowC_at (N : Nat) : ∀ (T : List (Lx.Tk × Nat)) (i j : Nat) (h : i < T.length), j < 6 → (rowC N T)[i * 6 + j]? = (tkC N (T[i]'h))[j]?
  | [], i, j, h, _ => absurd h (Nat.not_lt_zero _)
  | x :: r, 0, j, h, hj => by
    show (tkC N x ++ rowC N r)[0 * 6 + j]? = _
    rw [Nat.zero_mul, Nat.zero_add, List.getElem?_append_left (by simp [tkC]; omega)]
    rfl
  | x :: r, i + 1, j, h, hj => by
    show (tkC N x ++ rowC N r)[(i + 1) * 6 + j]? = _
    rw [List.getElem?_append_right (by simp [tkC]; omega)]
    have : (i + 1) * 6 + j - (tkC N x).length = i * 6 + j := by simp [tkC]; omega
    rw [this, rowC_at N r i j (by simpa using h) hj]
    rfl
/-- A token of a row lies at six cells. -/
theorem tok_at {w : World} {a : Option Addr} {n c N : Nat} {T : List (Lx.Tk × Nat)} (h : TokIn w (.slice a n c) N T) (i : Nat) (hi : i < T.length) : ∃ g, a = some ⟨g, 0, none⟩ ∧ n = T.length ∧ g < w.heap.size ∧
    w.cell? ⟨g, i * 6, none⟩ = some (.int .i64 (((T[i]'hi).1.k : Nat) : Int)) ∧ w.cell? ⟨g, i * 6 + 1, none⟩ = some (.int .i64 ((N : Int) - ((T[i]'hi).2 : Int))) ∧ w.cell? ⟨g, i * 6 + 2, none⟩ = some (.string ⟨(T[i]'hi).1.tx.toArray⟩) ∧
    w.cell? ⟨g, i * 6 + 3, none⟩ = some (.bool (T[i]'hi).1.ng) ∧ w.cell? ⟨g, i * 6 + 4, none⟩ = some (.string ⟨(T[i]'hi).1.dg.toArray⟩) ∧ w.cell? ⟨g, i * 6 + 5, none⟩ = some (.int .i64 (((T[i]'hi).1.sc : Nat) : Int)) := by
  rcases h.2 with ⟨h0, h1⟩ | ⟨g, cap, cur, hv, hb, hg, hn, hcap, hsz, htk⟩
  · omega
  · obtain ⟨rfl, rfl, rfl⟩ := Value.slice.inj hv
    have key : ∀ j, j < 6 → w.cell? ⟨g, i * 6 + j, none⟩ = (tkC N (T[i]'hi))[j]? := fun j hj => by
      rw [← rowC_at N T i j hi hj, ← htk, List.getElem?_take_of_lt (by omega)]
      rw [cell_of_row w g (i * 6 + j) cur _ _ hg]
      simp
    exact ⟨g, rfl, rfl, (Array.getElem?_eq_some_iff.1 hg).1, by have := key 0 (by omega); rw [Nat.add_zero] at this; exact this, key 1 (by omega), key 2 (by omega), key 3 (by omega), key 4 (by omega), key 5 (by omega)⟩

def headT : List (Lx.Tk × Nat) := [(⟨3, [97], false, [], 0⟩, 10), (⟨6, [44], false, [], 0⟩, 8), (⟨2, [120], false, [], 0⟩, 7), (⟨6, [62, 61], false, [], 0⟩, 5), (⟨4, [], false, [49, 53], 1⟩, 3)]
theorem head_all : Lx.allL (⟨#[46, 97, 44, 36, 120, 62, 61, 49, 46, 53]⟩ : ByteArray).data.toList = headT := by kernel_rfl
theorem head_err : Lx.errL (⟨#[46, 97, 44, 36, 120, 62, 61, 49, 46, 53]⟩ : ByteArray).data.toList = 0 := by kernel_rfl
theorem sbeq (u : ByteArray) : (u.toList == u.toList) = true := beq_self_eq_true _
set_option maxHeartbeats 4000000 in
theorem shown10_any (w : World) (hT : Tabs w) (hS : Sg w) : Calls Tryd.prog 7 #[] w fun e w' => e = .returned (.bool true) ∧ Below w.heap.size w w' := by
  have C := all_any ⟨#[46, 97, 44, 36, 120, 62, 61, 49, 46, 53]⟩ (by decide) w hT hS
  rw [head_all, head_err] at C
  have HC := lhide C
  have e1 := sbeq ⟨#[97]⟩
  have e2 := sbeq ⟨#[62, 61]⟩
  have e3 := sbeq ⟨#[49, 53]⟩
  clear C hT hS
  go_enter Tryd.func7, Tryd.ntmps7
  go_wp2_with fail
  refine (lunhide HC).mono ?_
  rintro e w1 ⟨V, rfl, hV, hB⟩
  obtain ⟨a, c, rfl⟩ := hV.shape
  obtain ⟨g, rfl, -, hg, a0, a1, a2, -, -, -⟩ := tok_at hV 0 (by decide)
  obtain ⟨g2, e9, -, -, b0, -, b2, -, -, -⟩ := tok_at hV 2 (by decide)
  obtain rfl : g = g2 := (Addr.mk.inj (Option.some.inj e9)).1
  obtain ⟨g2, e9, -, -, -, -, d2, -, -, -⟩ := tok_at hV 3 (by decide)
  obtain rfl : g = g2 := (Addr.mk.inj (Option.some.inj e9)).1
  obtain ⟨g2, e9, -, -, -, -, -, k3, k4, k5⟩ := tok_at hV 4 (by decide)
  obtain rfl : g = g2 := (Addr.mk.inj (Option.some.inj e9)).1
  have HB := lhide hB
  simp only [headT, List.getElem_cons_succ, List.getElem_cons_zero, List.length_cons, List.length_nil, Nat.zero_mul, Nat.zero_add] at a0 a1 a2 b0 b2 d2 k3 k4 k5 ⊢
  clear hV hB e9 hg
  go_wp2_with fail
  go_ret
  exact ⟨rfl, lunhide HB⟩
theorem few10_size (n : Nat) (s : ByteArray) : (fewB n s).size ≤ n := few_size n s
theorem few10_any (s : ByteArray) (w : World) : Calls Tryd.prog 11 #[.string s] w fun e w' => e = .returned (.string (fewB 2100 s)) ∧ w' = w := by
  by_cases h : 2100 < s.size
  · have hi : (2100 : Int) < (s.size : Int) := by omega
    have e : fewB 2100 s = s.extract 0 2100 := if_pos h
    have hle : (2100 : Int) ≤ (s.size : Int) := by omega
    rw [e]
    clear e h
    go_enter Tryd.func11, Tryd.ntmps11
    go_wp2_with fail
    go_ret
    exact ⟨rfl, rfl⟩
  · have hi : ¬ (2100 : Int) < (s.size : Int) := by omega
    have e : fewB 2100 s = s := if_neg h
    rw [e]
    clear e h
    go_enter Tryd.func11, Tryd.ntmps11
    go_wp2_with fail
    go_ret
    exact ⟨rfl, rfl⟩
end Go.Proofs.YtppkknmgdahniabDoor.Lex
