/- What is proved here: what numbered of package quote does, walked; conditions: as each theorem states. -/
import Derived.Test.YtomhgafpjpnmdaaGreatDoorQd
namespace Go.Proofs.YtomhgafpjpnmdaaGreatDoor
open Go.RowKit
set_option linter.unusedVariables false
set_option linter.unusedSimpArgs false

/-- A rune and how many bytes it has, or none, as it is handed back. -/
def nV (o : Option (Nat × Nat)) : Value := .tuple #[.int .i32 (((o.getD (0, 0)).1 : Nat) : Int), .int .i64 (((o.getD (0, 0)).2 : Nat) : Int)]
theorem ext_drop (s : ByteArray) (k : Nat) : (s.extract k s.size).data.toList = s.data.toList.drop k := by
  rw [Lib.extract_data, List.take_of_length_le]
  rw [List.length_drop, ← Lib.size_eq]
  exact Nat.le_refl _

theorem wrap_i32 (x : Int) (h0 : -2147483648 ≤ x) (h1 : x ≤ 2147483647) : IntKind.i32.wrap x = x := by rw [IntKind.wrap_i32]; omega
set_option maxHeartbeats 4000000 in
set_option maxRecDepth 1000000 in
theorem num_no1 (s : ByteArray) (a b : Nat) (w : World) (h6 : (6 : Int) ≤ (s.size : Int)) (ha : ¬ (a : Int) < 55296) (ha2 : ¬ (57344 : Int) ≤ (a : Int)) (g1 : (56320 : Int) ≤ (a : Int))
    (c1 : ∀ W, Calls Tryz.prog 106 #[.string s] W fun e w' => e = .returned (wV (some a)) ∧ Below W.heap.size W w')
    (c2 : ∀ W, Calls Tryz.prog 106 #[.string (s.extract 6 s.size)] W fun e w' => e = .returned (wV (some b)) ∧ Below W.heap.size W w') :
    Calls Tryz.prog 97 #[.string s] w fun e w' => e = .returned (nV none) ∧ Below w.heap.size w w' := by
  have e1 : decide ((a : Int) < 55296) = false := decide_eq_false ha
  have e2 : decide ((57344 : Int) ≤ (a : Int)) = false := decide_eq_false ha2
  have d1 : decide ((56320 : Int) ≤ (a : Int)) = true := decide_eq_true g1
  clear ha ha2 g1
  unfold wV at c1 c2
  unfold nV
  go_enter Tryz.func97, Tryz.ntmps97
  go_wp2_with fail
  refine (c1 _).mono ?_
  rintro e W1 ⟨rfl, b1⟩
  go_wp2_with fail
  refine (c2 _).mono ?_
  rintro e W2 ⟨rfl, b2⟩
  go_wp2
  go_ret2
  exact ⟨rfl, b1.trans (b2.mono b1.size)⟩

set_option maxHeartbeats 4000000 in
set_option maxRecDepth 1000000 in
theorem num_no2 (s : ByteArray) (a b : Nat) (w : World) (h6 : (6 : Int) ≤ (s.size : Int)) (ha : ¬ (a : Int) < 55296) (ha2 : ¬ (57344 : Int) ≤ (a : Int)) (g1 : ¬ (56320 : Int) ≤ (a : Int)) (g2 : (b : Int) < 56320)
    (c1 : ∀ W, Calls Tryz.prog 106 #[.string s] W fun e w' => e = .returned (wV (some a)) ∧ Below W.heap.size W w')
    (c2 : ∀ W, Calls Tryz.prog 106 #[.string (s.extract 6 s.size)] W fun e w' => e = .returned (wV (some b)) ∧ Below W.heap.size W w') :
    Calls Tryz.prog 97 #[.string s] w fun e w' => e = .returned (nV none) ∧ Below w.heap.size w w' := by
  have e1 : decide ((a : Int) < 55296) = false := decide_eq_false ha
  have e2 : decide ((57344 : Int) ≤ (a : Int)) = false := decide_eq_false ha2
  have d1 : decide ((56320 : Int) ≤ (a : Int)) = false := decide_eq_false g1
  have d2 : decide ((b : Int) < 56320) = true := decide_eq_true g2
  clear ha ha2 g1 g2
  unfold wV at c1 c2
  unfold nV
  go_enter Tryz.func97, Tryz.ntmps97
  go_wp2_with fail
  refine (c1 _).mono ?_
  rintro e W1 ⟨rfl, b1⟩
  go_wp2_with fail
  refine (c2 _).mono ?_
  rintro e W2 ⟨rfl, b2⟩
  go_wp2
  go_ret2
  exact ⟨rfl, b1.trans (b2.mono b1.size)⟩

set_option maxHeartbeats 4000000 in
set_option maxRecDepth 1000000 in
theorem num_no3 (s : ByteArray) (a b : Nat) (w : World) (h6 : (6 : Int) ≤ (s.size : Int)) (ha : ¬ (a : Int) < 55296) (ha2 : ¬ (57344 : Int) ≤ (a : Int)) (g1 : ¬ (56320 : Int) ≤ (a : Int)) (g2 : ¬ (b : Int) < 56320) (g3 : (57344 : Int) ≤ (b : Int))
    (c1 : ∀ W, Calls Tryz.prog 106 #[.string s] W fun e w' => e = .returned (wV (some a)) ∧ Below W.heap.size W w')
    (c2 : ∀ W, Calls Tryz.prog 106 #[.string (s.extract 6 s.size)] W fun e w' => e = .returned (wV (some b)) ∧ Below W.heap.size W w') :
    Calls Tryz.prog 97 #[.string s] w fun e w' => e = .returned (nV none) ∧ Below w.heap.size w w' := by
  have e1 : decide ((a : Int) < 55296) = false := decide_eq_false ha
  have e2 : decide ((57344 : Int) ≤ (a : Int)) = false := decide_eq_false ha2
  have d1 : decide ((56320 : Int) ≤ (a : Int)) = false := decide_eq_false g1
  have d2 : decide ((b : Int) < 56320) = false := decide_eq_false g2
  have d3 : decide ((57344 : Int) ≤ (b : Int)) = true := decide_eq_true g3
  clear ha ha2 g1 g2 g3
  unfold wV at c1 c2
  unfold nV
  go_enter Tryz.func97, Tryz.ntmps97
  go_wp2_with fail
  refine (c1 _).mono ?_
  rintro e W1 ⟨rfl, b1⟩
  go_wp2_with fail
  refine (c2 _).mono ?_
  rintro e W2 ⟨rfl, b2⟩
  go_wp2
  go_ret2
  exact ⟨rfl, b1.trans (b2.mono b1.size)⟩

set_option maxHeartbeats 4000000 in
set_option maxRecDepth 1000000 in
theorem num_yes (s : ByteArray) (a b : Nat) (w : World) (h6 : (6 : Int) ≤ (s.size : Int)) (u1 : a < 65536) (v1 : b < 65536) (ha : ¬ (a : Int) < 55296) (ha2 : ¬ (57344 : Int) ≤ (a : Int)) (g1 : ¬ (56320 : Int) ≤ (a : Int)) (g2 : ¬ (b : Int) < 56320) (g3 : ¬ (57344 : Int) ≤ (b : Int)) (r : Nat) (hr : r = 65536 + (a - 55296) * 1024 + (b - 56320))
    (c1 : ∀ W, Calls Tryz.prog 106 #[.string s] W fun e w' => e = .returned (wV (some a)) ∧ Below W.heap.size W w')
    (c2 : ∀ W, Calls Tryz.prog 106 #[.string (s.extract 6 s.size)] W fun e w' => e = .returned (wV (some b)) ∧ Below W.heap.size W w') :
    Calls Tryz.prog 97 #[.string s] w fun e w' => e = .returned (nV (some (r, 12))) ∧ Below w.heap.size w w' := by
  obtain ⟨A, hA⟩ : ∃ A : Nat, (a : Int) - 55296 = (A : Int) := ⟨a - 55296, by omega⟩
  have z0 : ¬ (A : Int) < 0 := by omega
  have w1 : IntKind.i32.wrap ((a : Int) - 55296) = (A : Int) := by rw [hA]; exact wrap_i32 _ (by omega) (by omega)
  have w2 : IntKind.i32.wrap ((A : Int) * 1024) = (A : Int) * 1024 := wrap_i32 _ (by omega) (by omega)
  have w3 : IntKind.i32.wrap (65536 + (A : Int) * 1024) = 65536 + (A : Int) * 1024 := wrap_i32 _ (by omega) (by omega)
  have w4 : IntKind.i32.wrap (65536 + (A : Int) * 1024 + (b : Int)) = 65536 + (A : Int) * 1024 + (b : Int) := wrap_i32 _ (by omega) (by omega)
  have w5 : IntKind.i32.wrap (65536 + (A : Int) * 1024 + (b : Int) - 56320) = (r : Int) := by rw [wrap_i32 _ (by omega) (by omega)]; omega
  clear hA hr
  have e1 : decide ((a : Int) < 55296) = false := decide_eq_false ha
  have e2 : decide ((57344 : Int) ≤ (a : Int)) = false := decide_eq_false ha2
  have d1 : decide ((56320 : Int) ≤ (a : Int)) = false := decide_eq_false g1
  have d2 : decide ((b : Int) < 56320) = false := decide_eq_false g2
  have d3 : decide ((57344 : Int) ≤ (b : Int)) = false := decide_eq_false g3
  clear g1 g2 g3 ha ha2 u1 v1 z0
  unfold wV at c1 c2
  unfold nV
  go_enter Tryz.func97, Tryz.ntmps97
  go_wp2_with fail
  refine (c1 _).mono ?_
  rintro e W1 ⟨rfl, b1⟩
  go_wp2_with fail
  refine (c2 _).mono ?_
  rintro e W2 ⟨rfl, b2⟩
  go_wp2
  go_ret2
  exact ⟨rfl, b1.trans (b2.mono b1.size)⟩

set_option maxHeartbeats 4000000 in
set_option maxRecDepth 1000000 in
theorem numbered_any (s : ByteArray) (w : World) (hs : s.size ≤ 9223372036854775807) :
    Calls Tryz.prog 97 #[.string s] w fun e w' => e = .returned (nV (Qm.numL s.data.toList)) ∧ Below w.heap.size w w' := by
  obtain ⟨o1, h1⟩ : ∃ o, Qm.unitL s.data.toList = o := ⟨_, rfl⟩
  have c1 : ∀ W, Calls Tryz.prog 106 #[.string s] W fun e w' => e = .returned (wV o1) ∧ Below W.heap.size W w' := fun W => by rw [← h1]; exact unit_any s W hs
  unfold Qm.numL
  rw [h1]
  cases o1 with
  | none =>
    clear h1
    unfold wV at c1
    go_enter Tryz.func97, Tryz.ntmps97
    go_wp2_with (go_at_call 106; refine (c1 _).mono ?_; rintro e W1 ⟨rfl, b1⟩)
    go_ret2
    exact ⟨rfl, b1⟩
  | some a =>
    obtain ⟨u1, u2⟩ := Qm.unit_lt h1
    rw [← Lib.size_eq] at u2
    dsimp only
    by_cases ha : a < 55296 ∨ 57344 ≤ a
    · rw [if_pos ha]
      unfold wV at c1
      by_cases h2 : (a : Int) < 55296
      · have e1 : decide ((a : Int) < 55296) = true := decide_eq_true h2
        clear ha h2 u1 u2
        go_enter Tryz.func97, Tryz.ntmps97
        go_wp2_with (go_at_call 106; refine (c1 _).mono ?_; rintro e W1 ⟨rfl, b1⟩)
        go_ret2
        exact ⟨rfl, b1⟩
      · have h3 : (57344 : Int) ≤ (a : Int) := by omega
        have e1 : decide ((a : Int) < 55296) = false := decide_eq_false h2
        have e2 : decide ((57344 : Int) ≤ (a : Int)) = true := decide_eq_true h3
        clear ha h2 h3 u1 u2
        go_enter Tryz.func97, Tryz.ntmps97
        go_wp2_with (go_at_call 106; refine (c1 _).mono ?_; rintro e W1 ⟨rfl, b1⟩)
        go_ret2
        exact ⟨rfl, b1⟩
    · rw [if_neg ha]
      have h2 : ¬ (a : Int) < 55296 := by omega
      have h3 : ¬ (57344 : Int) ≤ (a : Int) := by omega
      have h6 : (6 : Int) ≤ (s.size : Int) := by omega
      obtain ⟨o2, h4⟩ : ∃ o, Qm.unitL (s.data.toList.drop 6) = o := ⟨_, rfl⟩
      have hx6 : (s.extract 6 s.size).size ≤ 9223372036854775807 := by rw [ByteArray.size_extract]; omega
      have c2 : ∀ W, Calls Tryz.prog 106 #[.string (s.extract 6 s.size)] W fun e w' => e = .returned (wV o2) ∧ Below W.heap.size W w' := fun W => by
        have := unit_any (s.extract 6 s.size) W hx6
        rwa [ext_drop, h4] at this
      rw [h4]
      cases o2 with
      | none =>
        have e1 : decide ((a : Int) < 55296) = false := decide_eq_false h2
        have e2 : decide ((57344 : Int) ≤ (a : Int)) = false := decide_eq_false h3
        clear ha h2 h3 u1 u2
        unfold wV at c1 c2
        go_enter Tryz.func97, Tryz.ntmps97
        go_wp2_with fail
        refine (c1 _).mono ?_
        rintro e W1 ⟨rfl, b1⟩
        go_wp2_with fail
        refine (c2 _).mono ?_
        rintro e W2 ⟨rfl, b2⟩
        go_wp2
        go_ret2
        exact ⟨rfl, b1.trans (b2.mono b1.size)⟩
      | some b =>
        obtain ⟨v1, v2⟩ := Qm.unit_lt h4
        dsimp only
        by_cases g1 : (56320 : Int) ≤ (a : Int)
        · rw [if_neg (by omega)]
          exact num_no1 s a b w h6 h2 h3 g1 c1 c2
        by_cases g2 : (b : Int) < 56320
        · rw [if_neg (by omega)]
          exact num_no2 s a b w h6 h2 h3 g1 g2 c1 c2
        by_cases g3 : (57344 : Int) ≤ (b : Int)
        · rw [if_neg (by omega)]
          exact num_no3 s a b w h6 h2 h3 g1 g2 g3 c1 c2
        rw [if_pos (by omega)]
        exact num_yes s a b w h6 u1 v1 h2 h3 g1 g2 g3 _ rfl c1 c2

end Go.Proofs.YtomhgafpjpnmdaaGreatDoor
