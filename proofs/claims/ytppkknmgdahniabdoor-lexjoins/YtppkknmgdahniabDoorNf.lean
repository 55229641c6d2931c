/- What is proved here: what readNum, readSign of package lex do, walked; conditions: texts of at most 4000 bytes, the table of signs lies. Written by lexn_gen.py. -/
import Derived.Test.YtppkknmgdahniabDoorNe
import Derived.Test.YtppkknmgdahniabDoorDd
namespace Go.Proofs.YtppkknmgdahniabDoor.Lex
set_option maxRecDepth 100000
open Go.RowKit Go.Proofs.YtppkknmgdahniabDoor.Nc Go.Proofs.YtppkknmgdahniabDoor.Nq
set_option maxRecDepth 100000
set_option linter.unusedVariables false
set_option linter.unusedSimpArgs false

theorem alloc3 (w : World) (x0 x1 x2 : Value) (t : TypeId) : ∃ w1, w.alloc (.cells #[x0, x1, x2] t) = w1 ∧ w1.heap.size = w.heap.size + 1 ∧ Below w.heap.size w w1 ∧
    (w1.cell? ⟨w.heap.size, 0, none⟩ = some x0 ∧ w1.cell? ⟨w.heap.size, 1, none⟩ = some x1 ∧ w1.cell? ⟨w.heap.size, 2, none⟩ = some x2) :=
  ⟨_, rfl, by simp, (Below.refl _ _).alloc (Nat.le_refl _) _, World.cell?_alloc_at _ _ _ _ rfl, World.cell?_alloc_at _ _ _ _ rfl, World.cell?_alloc_at _ _ _ _ rfl⟩
theorem ldrop (s : ByteArray) (k : Nat) : (s.extract k s.size).data.toList = s.data.toList.drop k := ext_drop s k
set_option maxHeartbeats 4000000 in
theorem readNum_any (s : ByteArray) (o : Option (Lx.Tk × Nat)) (ho : Lx.rdr 3 s.data.toList = o) (hs : s.size ≤ 4000) (w : World) :
    Calls Tryd.prog 16 #[.string s] w fun e w' => e = .returned (rdV o) ∧ Below w.heap.size w w' := by
  have hA0 : Below (w.alloc (.cells #[.int .i64 0, .int .i64 0, .string ⟨#[]⟩, .bool false, .string ⟨#[]⟩, .int .i64 0] 33)).heap.size (w.alloc (.cells #[.int .i64 0, .int .i64 0, .string ⟨#[]⟩, .bool false, .string ⟨#[]⟩, .int .i64 0] 33)) (w.alloc (.cells #[.int .i64 0, .int .i64 0, .string ⟨#[]⟩, .bool false, .string ⟨#[]⟩, .int .i64 0] 33)) := Below.refl _ _
  have HA : Hid (∀ W W', Below (w.alloc (.cells #[.int .i64 0, .int .i64 0, .string ⟨#[]⟩, .bool false, .string ⟨#[]⟩, .int .i64 0] 33)).heap.size (w.alloc (.cells #[.int .i64 0, .int .i64 0, .string ⟨#[]⟩, .bool false, .string ⟨#[]⟩, .int .i64 0] 33)) W → Below W.heap.size W W' → Below (w.alloc (.cells #[.int .i64 0, .int .i64 0, .string ⟨#[]⟩, .bool false, .string ⟨#[]⟩, .int .i64 0] 33)).heap.size (w.alloc (.cells #[.int .i64 0, .int .i64 0, .string ⟨#[]⟩, .bool false, .string ⟨#[]⟩, .int .i64 0] 33)) W') := lhide (fun W W' h g => h.trans (g.mono h.size))
  have HB6 := lhide hA0
  clear hA0
  change Lx.numO s.data.toList = o at ho
  unfold Lx.numO at ho
  have g1 := Lx.num1_le s.data.toList
  have g2 := Lx.num2_le s.data.toList
  have g3 := Lx.num3_le s.data.toList
  have j2 : Lx.num2 s.data.toList = Lx.num1 s.data.toList + Lx.partN (s.data.toList.drop (Lx.num1 s.data.toList)) [[46]] := rfl
  have j3 : Lx.num3 s.data.toList = Lx.num2 s.data.toList + Lx.partN (s.data.toList.drop (Lx.num2 s.data.toList)) Lx.exps := rfl
  obtain ⟨n1, e1⟩ : ∃ n, Lx.num1 s.data.toList = n := ⟨_, rfl⟩
  obtain ⟨n2, e2⟩ : ∃ n, Lx.num2 s.data.toList = n := ⟨_, rfl⟩
  obtain ⟨n3, e3⟩ : ∃ n, Lx.num3 s.data.toList = n := ⟨_, rfl⟩
  rw [e1, lsize] at g1
  rw [e2, lsize] at g2
  rw [e3, lsize] at g3
  rw [e1, e2] at j2
  rw [e2, e3] at j3
  rw [e3] at ho
  obtain ⟨m2, q2⟩ : ∃ n, Lx.partN (s.data.toList.drop n1) [[46]] = n := ⟨_, rfl⟩
  obtain ⟨m3, q3⟩ : ∃ n, Lx.partN (s.data.toList.drop n2) Lx.exps = n := ⟨_, rfl⟩
  rw [q2] at j2
  rw [q3] at j3
  have xs2 : (s.extract n1 s.size).size ≤ 4000 := by rw [ByteArray.size_extract]; omega
  have xs3 : (s.extract n2 s.size).size ≤ 4000 := by rw [ByteArray.size_extract]; omega
  have HP1 : Hid (∀ (W : World) (b c : Nat), (∀ i, ∀ h : i < [(⟨#[]⟩ : ByteArray)].length, W.cell? ⟨b, i, none⟩ = some (.string ([(⟨#[]⟩ : ByteArray)][i]'h))) → Calls Tryd.prog 25 #[.string s, .slice (some ⟨b, 0, none⟩) 1 c] W fun e w' => e = .returned (.int .i64 (n1 : Int)) ∧ Below W.heap.size W w') :=
    lhide (fun W b c h => partSize_any s [⟨#[]⟩] 1 b c n1 rfl e1 hs (by decide) (by decide) W h)
  have HP2 : Hid (∀ (W : World) (b c : Nat), (∀ i, ∀ h : i < [(⟨#[46]⟩ : ByteArray)].length, W.cell? ⟨b, i, none⟩ = some (.string ([(⟨#[46]⟩ : ByteArray)][i]'h))) → Calls Tryd.prog 25 #[.string (s.extract n1 s.size), .slice (some ⟨b, 0, none⟩) 1 c] W fun e w' => e = .returned (.int .i64 (m2 : Int)) ∧ Below W.heap.size W w') :=
    lhide (fun W b c h => partSize_any (s.extract n1 s.size) [⟨#[46]⟩] 1 b c m2 rfl (by rw [ldrop]; exact q2) xs2 (by decide) (by decide) W h)
  have HP3 : Hid (∀ (W : World) (b c : Nat), (∀ i, ∀ h : i < ([⟨#[101]⟩, ⟨#[101, 43]⟩, ⟨#[101, 45]⟩, ⟨#[69]⟩, ⟨#[69, 43]⟩, ⟨#[69, 45]⟩] : List ByteArray).length, W.cell? ⟨b, i, none⟩ = some (.string (([⟨#[101]⟩, ⟨#[101, 43]⟩, ⟨#[101, 45]⟩, ⟨#[69]⟩, ⟨#[69, 43]⟩, ⟨#[69, 45]⟩] : List ByteArray)[i]'h))) → Calls Tryd.prog 25 #[.string (s.extract n2 s.size), .slice (some ⟨b, 0, none⟩) 6 c] W fun e w' => e = .returned (.int .i64 (m3 : Int)) ∧ Below W.heap.size W w') :=
    lhide (fun W b c h => partSize_any (s.extract n2 s.size) [⟨#[101]⟩, ⟨#[101, 43]⟩, ⟨#[101, 45]⟩, ⟨#[69]⟩, ⟨#[69, 43]⟩, ⟨#[69, 45]⟩] 6 b c m3 rfl (by rw [ldrop]; exact q3) xs3 (by decide) (by decide) W h)
  have w2 : IntKind.i64.wrap ((n1 : Int) + (m2 : Int)) = (n2 : Int) := by rw [IntKind.wrap_i64]; omega
  have w3 : IntKind.i64.wrap ((n2 : Int) + (m3 : Int)) = (n3 : Int) := by rw [IntKind.wrap_i64]; omega
  have hi1 : (n1 : Int) ≤ (s.size : Int) := by omega
  have hi2 : (n2 : Int) ≤ (s.size : Int) := by omega
  have hi3 : (n3 : Int) ≤ (s.size : Int) := by omega
  have HPA : Hid (∀ W, Calls Tryd.prog 26 #[.string (s.extract 0 n3)] W fun e w' => e = .returned (pV (Dm.parseL (s.data.toList.take n3))) ∧ Below W.heap.size W w') :=
    lhide (fun W => by have := parse_any (s.extract 0 n3) W (by rw [ByteArray.size_extract]; omega); rw [ext_take] at this; exact this)
  have HW2 := lhide w2
  have HW3 := lhide w3
  obtain ⟨x1, hx1⟩ : ∃ x, s.extract n1 s.size = x := ⟨_, rfl⟩
  clear e1 e2 e3 j2 j3 q2 q3 g1 g2 g3 xs2 xs3 w2 w3 hx1
  obtain ⟨pr, hpr⟩ : ∃ p, Dm.parseL (s.data.toList.take n3) = p := ⟨_, rfl⟩
  rw [hpr] at HPA ho
  clear hpr hs
  match pr, ho with
  | none, ho =>
    obtain rfl : o = none := ho.symm
    have HPB : Hid (∀ W, Calls Tryd.prog 26 #[.string (s.extract 0 n3)] W fun e w' => e = .returned (.tuple #[.agg #[.bool false, .string ⟨#[]⟩, .int .i64 0], .int .i64 4]) ∧ Below W.heap.size W w') := lhide (fun W => lunhide HPA W)
    clear HPA ho
    go_enter Tryd.func16, Tryd.ntmps16
    go_wp2_with fail
    refine (lunhide HP1 _ _ _ ?c1).mono ?_
    case c1 =>
      intro i hi
      obtain rfl : i = 0 := by simpa using hi
      exact World.cell?_alloc_at _ _ _ _ (by simp)
    rintro e w1 ⟨rfl, b1⟩
    have HB1 := lhide (lunhide HA _ _ (lunhide HA _ _ (lunhide HB6) ((Below.refl _ _).alloc (Nat.le_refl _) _)) b1)
    clear b1
    have w2 := lunhide HW2
    go_wp2_with fail
    refine (lunhide HP2 _ _ _ ?c2).mono ?_
    case c2 =>
      intro i hi
      obtain rfl : i = 0 := by simpa using hi
      exact World.cell?_alloc_at _ _ _ _ (by simp)
    rintro e w5 ⟨rfl, b2⟩
    have HB2 := lhide (lunhide HA _ _ (lunhide HA _ _ (lunhide HB1) ((Below.refl _ _).alloc (Nat.le_refl _) _)) b2)
    clear b2 w2
    have w2 := lunhide HW2
    have w3 := lunhide HW3
    go_wp2_with fail
    refine (lunhide HP3 _ _ _ ?c3).mono ?_
    case c3 =>
      intro i hi
      match i, hi with
      | 0, _ => exact World.cell?_alloc_at _ _ _ _ (by simp)
      | 1, _ => exact World.cell?_alloc_at _ _ _ _ (by simp)
      | 2, _ => exact World.cell?_alloc_at _ _ _ _ (by simp)
      | 3, _ => exact World.cell?_alloc_at _ _ _ _ (by simp)
      | 4, _ => exact World.cell?_alloc_at _ _ _ _ (by simp)
      | 5, _ => exact World.cell?_alloc_at _ _ _ _ (by simp)
    rintro e w6 ⟨rfl, b3⟩
    have HB3 := lhide (lunhide HA _ _ (lunhide HA _ _ (lunhide HB2) ((Below.refl _ _).alloc (Nat.le_refl _) _)) b3)
    clear b3 w2 w3
    have w2 := lunhide HW2
    have w3 := lunhide HW3
    go_wp2_with fail
    refine (lunhide HPB _).mono ?_
    rintro e w7 ⟨rfl, b4⟩
    clear w2 w3
    obtain ⟨w8, e8, z8, g8, ⟨k0, k1, k2⟩⟩ := alloc3 w7 (.bool false) (.string ⟨#[]⟩) (.int .i64 0) 31
    have HB4 := lhide (lunhide HA _ _ (lunhide HA _ _ (lunhide HB3) b4) g8)
    have HE := lhide e8
    clear b4 e8 z8 g8
    go_upto_region 5 with fail
    rw [lunhide HE]
    clear HE
    obtain ⟨⟨y0, y1, y2, y3, y4, y5⟩, ⟨f0, f1, f2, f3, f4, f5⟩, hbw, hltw⟩ := box6 _ _ _ _ _ _ _ _ _ (lunhide HB4)
    have HBW := lhide (And.intro hbw hltw)
    clear hbw hltw
    go_wp2_with fail
    change bodyPost _ _ _ _ _ (w8.setCells w.heap.size 0 [.int .i64 0, .int .i64 0, .string ⟨#[]⟩, .bool false, .string ⟨#[]⟩, .int .i64 0])
    obtain ⟨r0, r1, r2, r3, r4, r5⟩ := res6 w8 w.heap.size (.int .i64 0) (.int .i64 0) (.string ⟨#[]⟩) (.bool false) (.string ⟨#[]⟩) (.int .i64 0) y0 y1 y2 y3 y4 y5
    have hBV := tset_below (lunhide HBW).1 (G := w.heap.size) (Nat.le_refl _) 0 [.int .i64 0, .int .i64 0, .string ⟨#[]⟩, .bool false, .string ⟨#[]⟩, .int .i64 0]
    generalize w8.setCells w.heap.size 0 [.int .i64 0, .int .i64 0, .string ⟨#[]⟩, .bool false, .string ⟨#[]⟩, .int .i64 0] = V at hBV r0 r1 r2 r3 r4 r5 ⊢
    exact bodyPost_ret (v := .tuple #[.agg #[.int .i64 0, .int .i64 0, .string ⟨#[]⟩, .bool false, .string ⟨#[]⟩, .int .i64 0], .int .i64 0]) (by simp [results, Tryd.results16, go_sem, r0, r1, r2, r3, r4, r5]) rfl ⟨rfl, hBV⟩
  | some none, ho =>
    obtain rfl : o = none := ho.symm
    have HPB : Hid (∀ W, Calls Tryd.prog 26 #[.string (s.extract 0 n3)] W fun e w' => e = .returned (.tuple #[.agg #[.bool false, .string ⟨#[]⟩, .int .i64 0], .int .i64 3]) ∧ Below W.heap.size W w') := lhide (fun W => lunhide HPA W)
    clear HPA ho
    go_enter Tryd.func16, Tryd.ntmps16
    go_wp2_with fail
    refine (lunhide HP1 _ _ _ ?c1).mono ?_
    case c1 =>
      intro i hi
      obtain rfl : i = 0 := by simpa using hi
      exact World.cell?_alloc_at _ _ _ _ (by simp)
    rintro e w1 ⟨rfl, b1⟩
    have HB1 := lhide (lunhide HA _ _ (lunhide HA _ _ (lunhide HB6) ((Below.refl _ _).alloc (Nat.le_refl _) _)) b1)
    clear b1
    have w2 := lunhide HW2
    go_wp2_with fail
    refine (lunhide HP2 _ _ _ ?c2).mono ?_
    case c2 =>
      intro i hi
      obtain rfl : i = 0 := by simpa using hi
      exact World.cell?_alloc_at _ _ _ _ (by simp)
    rintro e w5 ⟨rfl, b2⟩
    have HB2 := lhide (lunhide HA _ _ (lunhide HA _ _ (lunhide HB1) ((Below.refl _ _).alloc (Nat.le_refl _) _)) b2)
    clear b2 w2
    have w2 := lunhide HW2
    have w3 := lunhide HW3
    go_wp2_with fail
    refine (lunhide HP3 _ _ _ ?c3).mono ?_
    case c3 =>
      intro i hi
      match i, hi with
      | 0, _ => exact World.cell?_alloc_at _ _ _ _ (by simp)
      | 1, _ => exact World.cell?_alloc_at _ _ _ _ (by simp)
      | 2, _ => exact World.cell?_alloc_at _ _ _ _ (by simp)
      | 3, _ => exact World.cell?_alloc_at _ _ _ _ (by simp)
      | 4, _ => exact World.cell?_alloc_at _ _ _ _ (by simp)
      | 5, _ => exact World.cell?_alloc_at _ _ _ _ (by simp)
    rintro e w6 ⟨rfl, b3⟩
    have HB3 := lhide (lunhide HA _ _ (lunhide HA _ _ (lunhide HB2) ((Below.refl _ _).alloc (Nat.le_refl _) _)) b3)
    clear b3 w2 w3
    have w2 := lunhide HW2
    have w3 := lunhide HW3
    go_wp2_with fail
    refine (lunhide HPB _).mono ?_
    rintro e w7 ⟨rfl, b4⟩
    clear w2 w3
    obtain ⟨w8, e8, z8, g8, ⟨k0, k1, k2⟩⟩ := alloc3 w7 (.bool false) (.string ⟨#[]⟩) (.int .i64 0) 31
    have HB4 := lhide (lunhide HA _ _ (lunhide HA _ _ (lunhide HB3) b4) g8)
    have HE := lhide e8
    clear b4 e8 z8 g8
    go_upto_region 5 with fail
    rw [lunhide HE]
    clear HE
    obtain ⟨⟨y0, y1, y2, y3, y4, y5⟩, ⟨f0, f1, f2, f3, f4, f5⟩, hbw, hltw⟩ := box6 _ _ _ _ _ _ _ _ _ (lunhide HB4)
    have HBW := lhide (And.intro hbw hltw)
    clear hbw hltw
    go_wp2_with fail
    change bodyPost _ _ _ _ _ (w8.setCells w.heap.size 0 [.int .i64 0, .int .i64 0, .string ⟨#[]⟩, .bool false, .string ⟨#[]⟩, .int .i64 0])
    obtain ⟨r0, r1, r2, r3, r4, r5⟩ := res6 w8 w.heap.size (.int .i64 0) (.int .i64 0) (.string ⟨#[]⟩) (.bool false) (.string ⟨#[]⟩) (.int .i64 0) y0 y1 y2 y3 y4 y5
    have hBV := tset_below (lunhide HBW).1 (G := w.heap.size) (Nat.le_refl _) 0 [.int .i64 0, .int .i64 0, .string ⟨#[]⟩, .bool false, .string ⟨#[]⟩, .int .i64 0]
    generalize w8.setCells w.heap.size 0 [.int .i64 0, .int .i64 0, .string ⟨#[]⟩, .bool false, .string ⟨#[]⟩, .int .i64 0] = V at hBV r0 r1 r2 r3 r4 r5 ⊢
    exact bodyPost_ret (v := .tuple #[.agg #[.int .i64 0, .int .i64 0, .string ⟨#[]⟩, .bool false, .string ⟨#[]⟩, .int .i64 0], .int .i64 0]) (by simp [results, Tryd.results16, go_sem, r0, r1, r2, r3, r4, r5]) rfl ⟨rfl, hBV⟩
  | some (some d), ho =>
    obtain rfl : o = some (⟨4, [], d.ng, d.ds, d.sc⟩, n3) := ho.symm
    have HPB : Hid (∀ W, Calls Tryd.prog 26 #[.string (s.extract 0 n3)] W fun e w' => e = .returned (.tuple #[.agg #[.bool d.ng, .string ⟨d.ds.toArray⟩, .int .i64 (d.sc : Int)], .int .i64 0]) ∧ Below W.heap.size W w') := lhide (fun W => lunhide HPA W)
    clear HPA ho
    go_enter Tryd.func16, Tryd.ntmps16
    go_wp2_with fail
    refine (lunhide HP1 _ _ _ ?c1).mono ?_
    case c1 =>
      intro i hi
      obtain rfl : i = 0 := by simpa using hi
      exact World.cell?_alloc_at _ _ _ _ (by simp)
    rintro e w1 ⟨rfl, b1⟩
    have HB1 := lhide (lunhide HA _ _ (lunhide HA _ _ (lunhide HB6) ((Below.refl _ _).alloc (Nat.le_refl _) _)) b1)
    clear b1
    have w2 := lunhide HW2
    go_wp2_with fail
    refine (lunhide HP2 _ _ _ ?c2).mono ?_
    case c2 =>
      intro i hi
      obtain rfl : i = 0 := by simpa using hi
      exact World.cell?_alloc_at _ _ _ _ (by simp)
    rintro e w5 ⟨rfl, b2⟩
    have HB2 := lhide (lunhide HA _ _ (lunhide HA _ _ (lunhide HB1) ((Below.refl _ _).alloc (Nat.le_refl _) _)) b2)
    clear b2 w2
    have w2 := lunhide HW2
    have w3 := lunhide HW3
    go_wp2_with fail
    refine (lunhide HP3 _ _ _ ?c3).mono ?_
    case c3 =>
      intro i hi
      match i, hi with
      | 0, _ => exact World.cell?_alloc_at _ _ _ _ (by simp)
      | 1, _ => exact World.cell?_alloc_at _ _ _ _ (by simp)
      | 2, _ => exact World.cell?_alloc_at _ _ _ _ (by simp)
      | 3, _ => exact World.cell?_alloc_at _ _ _ _ (by simp)
      | 4, _ => exact World.cell?_alloc_at _ _ _ _ (by simp)
      | 5, _ => exact World.cell?_alloc_at _ _ _ _ (by simp)
    rintro e w6 ⟨rfl, b3⟩
    have HB3 := lhide (lunhide HA _ _ (lunhide HA _ _ (lunhide HB2) ((Below.refl _ _).alloc (Nat.le_refl _) _)) b3)
    clear b3 w2 w3
    have w2 := lunhide HW2
    have w3 := lunhide HW3
    go_wp2_with fail
    refine (lunhide HPB _).mono ?_
    rintro e w7 ⟨rfl, b4⟩
    clear w2 w3
    obtain ⟨w8, e8, z8, g8, ⟨k0, k1, k2⟩⟩ := alloc3 w7 (.bool d.ng) (.string ⟨d.ds.toArray⟩) (.int .i64 (d.sc : Int)) 31
    have HB4 := lhide (lunhide HA _ _ (lunhide HA _ _ (lunhide HB3) b4) g8)
    have HE := lhide e8
    clear b4 e8 z8 g8
    go_upto_region 5 with fail
    rw [lunhide HE]
    clear HE
    obtain ⟨⟨y0, y1, y2, y3, y4, y5⟩, ⟨f0, f1, f2, f3, f4, f5⟩, hbw, hltw⟩ := box6 _ _ _ _ _ _ _ _ _ (lunhide HB4)
    have HBW := lhide (And.intro hbw hltw)
    clear hbw hltw
    go_wp2_with fail
    change bodyPost _ _ _ _ _ (w8.setCells w.heap.size 0 [.int .i64 4, .int .i64 0, .string ⟨#[]⟩, .bool d.ng, .string ⟨d.ds.toArray⟩, .int .i64 (d.sc : Int)])
    obtain ⟨r0, r1, r2, r3, r4, r5⟩ := res6 w8 w.heap.size (.int .i64 4) (.int .i64 0) (.string ⟨#[]⟩) (.bool d.ng) (.string ⟨d.ds.toArray⟩) (.int .i64 (d.sc : Int)) y0 y1 y2 y3 y4 y5
    have hBV := tset_below (lunhide HBW).1 (G := w.heap.size) (Nat.le_refl _) 0 [.int .i64 4, .int .i64 0, .string ⟨#[]⟩, .bool d.ng, .string ⟨d.ds.toArray⟩, .int .i64 (d.sc : Int)]
    generalize w8.setCells w.heap.size 0 [.int .i64 4, .int .i64 0, .string ⟨#[]⟩, .bool d.ng, .string ⟨d.ds.toArray⟩, .int .i64 (d.sc : Int)] = V at hBV r0 r1 r2 r3 r4 r5 ⊢
    exact bodyPost_ret (v := .tuple #[.agg #[.int .i64 4, .int .i64 0, .string ⟨#[]⟩, .bool d.ng, .string ⟨d.ds.toArray⟩, .int .i64 (d.sc : Int)], .int .i64 (n3 : Int)]) (by simp [results, Tryd.results16, go_sem, r0, r1, r2, r3, r4, r5]) rfl ⟨rfl, hBV⟩
end Go.Proofs.YtppkknmgdahniabDoor.Lex
