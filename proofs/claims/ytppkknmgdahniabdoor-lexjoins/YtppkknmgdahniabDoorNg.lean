/- What is proved here: what readSign of package lex does, walked; conditions: the table of signs lies. Written by lexs_gen.py. -/
import Derived.Test.YtppkknmgdahniabDoorNf
namespace Go.Proofs.YtppkknmgdahniabDoor.Lex
set_option maxRecDepth 100000
open Go.RowKit Go.Proofs.YtppkknmgdahniabDoor.Nc Go.Proofs.YtppkknmgdahniabDoor.Nq
set_option maxRecDepth 100000
set_option linter.unusedVariables false
set_option linter.unusedSimpArgs false

def signA : Array Value := #[.string ⟨#[61, 61]⟩, .string ⟨#[33, 61]⟩, .string ⟨#[60, 61]⟩, .string ⟨#[62, 61]⟩, .string ⟨#[46]⟩, .string ⟨#[40]⟩, .string ⟨#[41]⟩, .string ⟨#[91]⟩, .string ⟨#[93]⟩, .string ⟨#[123]⟩, .string ⟨#[125]⟩, .string ⟨#[124]⟩, .string ⟨#[44]⟩, .string ⟨#[58]⟩, .string ⟨#[59]⟩, .string ⟨#[43]⟩, .string ⟨#[45]⟩, .string ⟨#[42]⟩, .string ⟨#[47]⟩, .string ⟨#[37]⟩, .string ⟨#[60]⟩, .string ⟨#[62]⟩]
def signB : List ByteArray := [⟨#[61, 61]⟩, ⟨#[33, 61]⟩, ⟨#[60, 61]⟩, ⟨#[62, 61]⟩, ⟨#[46]⟩, ⟨#[40]⟩, ⟨#[41]⟩, ⟨#[91]⟩, ⟨#[93]⟩, ⟨#[123]⟩, ⟨#[125]⟩, ⟨#[124]⟩, ⟨#[44]⟩, ⟨#[58]⟩, ⟨#[59]⟩, ⟨#[43]⟩, ⟨#[45]⟩, ⟨#[42]⟩, ⟨#[47]⟩, ⟨#[37]⟩, ⟨#[60]⟩, ⟨#[62]⟩]
theorem signA_size : signA.size = 22 := rfl
/-- The table of signs lies. -/
def Sg (w : World) : Prop := ∃ t fr, w.heap[0]? = some (.cells signA t fr)
theorem Sg.below {w w' : World} (h : Sg w) (hB : Below w.heap.size w w') : Sg w' := by
  obtain ⟨t, fr, h⟩ := h
  exact ⟨t, fr, (hB.block _ (Array.getElem?_eq_some_iff.1 h).1).trans h⟩
theorem signA_is : signA = (signB.map Value.string).toArray := rfl
theorem signA_at (k : Nat) (h : k < 22) (p : ByteArray) (hp : signB[k]? = some p) : signA[k]? = some (.string p) := by
  rw [signA_is, List.getElem?_toArray, List.getElem?_map, hp]; rfl
theorem run_sign (k : Nat) (h : k < 22) (p : ByteArray) (hp : signA[k]? = some (.string p)) (W : World) : (Instr.index 54 (.agg signA) (.int .i64 (k : Int))).run Tryd.prog W = .ok (.string p) W := by
  have e : ∀ j : Nat, ∀ h : j < 22, (Instr.index 54 (.agg signA) (.int .i64 (j : Int))).run Tryd.prog W = .ok (signA[j]'(by rw [signA_size]; exact h)) W := by
    intro j h
    rcases (show j = 0 ∨ j = 1 ∨ j = 2 ∨ j = 3 ∨ j = 4 ∨ j = 5 ∨ j = 6 ∨ j = 7 ∨ j = 8 ∨ j = 9 ∨ j = 10 ∨ j = 11 ∨ j = 12 ∨ j = 13 ∨ j = 14 ∨ j = 15 ∨ j = 16 ∨ j = 17 ∨ j = 18 ∨ j = 19 ∨ j = 20 ∨ j = 21 by omega) with rfl | rfl | rfl | rfl | rfl | rfl | rfl | rfl | rfl | rfl | rfl | rfl | rfl | rfl | rfl | rfl | rfl | rfl | rfl | rfl | rfl | rfl
    all_goals kernel_rfl
  rw [e k h]
  have h2 : k < signA.size := by rw [signA_size]; exact h
  rw [Array.getElem?_eq_getElem h2] at hp
  rw [Option.some.inj hp]
theorem signs_are : signB.map (fun x => x.data.toList) = Lx.signs := rfl
set_option maxHeartbeats 4000000 in
theorem readSign_any (s : ByteArray) (o : Option (Lx.Tk × Nat)) (ho : Lx.rdr 5 s.data.toList = o) (hs : s.size ≤ 4000) (w : World) (hS : Sg w) :
    Calls Tryd.prog 18 #[.string s] w fun e w' => e = .returned (rdV o) ∧ Below w.heap.size w w' := by
  have hA0 : Below (w.alloc (.cells #[.int .i64 0, .int .i64 0, .string ⟨#[]⟩, .bool false, .string ⟨#[]⟩, .int .i64 0] 33)).heap.size (w.alloc (.cells #[.int .i64 0, .int .i64 0, .string ⟨#[]⟩, .bool false, .string ⟨#[]⟩, .int .i64 0] 33)) (w.alloc (.cells #[.int .i64 0, .int .i64 0, .string ⟨#[]⟩, .bool false, .string ⟨#[]⟩, .int .i64 0] 33)) := Below.refl _ _
  have HA : Hid (∀ W W', Below (w.alloc (.cells #[.int .i64 0, .int .i64 0, .string ⟨#[]⟩, .bool false, .string ⟨#[]⟩, .int .i64 0] 33)).heap.size (w.alloc (.cells #[.int .i64 0, .int .i64 0, .string ⟨#[]⟩, .bool false, .string ⟨#[]⟩, .int .i64 0] 33)) W → Below W.heap.size W W' → Below (w.alloc (.cells #[.int .i64 0, .int .i64 0, .string ⟨#[]⟩, .bool false, .string ⟨#[]⟩, .int .i64 0] 33)).heap.size (w.alloc (.cells #[.int .i64 0, .int .i64 0, .string ⟨#[]⟩, .bool false, .string ⟨#[]⟩, .int .i64 0] 33)) W') := lhide (fun W W' h g => h.trans (g.mono h.size))
  have HB6 := lhide hA0
  obtain ⟨st, sf, hsg⟩ := hS.below ((Below.refl _ w).alloc (Nat.le_refl _) (.cells #[.int .i64 0, .int .i64 0, .string ⟨#[]⟩, .bool false, .string ⟨#[]⟩, .int .i64 0] 33))
  clear hA0 hS
  go_enter Tryd.func18, Tryd.ntmps18
  go_wp2_with (refine wpList_load_row rfl 54 _ rfl 0 rfl st _ sf _ hsg Tryd.underlying54 rfl (by kernel_rfl) ?_)
  change Lx.signO s.data.toList = o at ho
  unfold Lx.signO at ho
  obtain ⟨f, hf⟩ : ∃ f, Lx.signs.find? (fun g => Lib.hasPrefix s.data.toList g) = f := ⟨_, rfl⟩
  rw [hf] at ho
  have HF := lhide hf
  have HO := lhide ho
  clear hf ho hsg
  have hA0 := lunhide HB6
  go_loopw [7] (fun I wr => ∃ k : Nat, I = .int .i64 (k : Int) ∧ k ≤ 22 ∧ Hid ((Lx.signs.drop k).find? (fun g => Lib.hasPrefix s.data.toList g) = f) ∧ Below (w.alloc (.cells #[.int .i64 0, .int .i64 0, .string ⟨#[]⟩, .bool false, .string ⟨#[]⟩, .int .i64 0] 33)).heap.size (w.alloc (.cells #[.int .i64 0, .int .i64 0, .string ⟨#[]⟩, .bool false, .string ⟨#[]⟩, .int .i64 0] 33)) wr) (fun I _ => 22 - (intOf I).toNat)
  case atStart => exact ⟨0, rfl, Nat.zero_le _, HF, Below.refl _ _⟩
  case round =>
    obtain ⟨k, rfl, hk9, HK, hB⟩ := hrel
    by_cases hlt : k < 22
    · obtain ⟨p, hp⟩ : ∃ p, signB[k]? = some p := ⟨_, List.getElem?_eq_getElem (show k < signB.length from hlt)⟩
      have hpa := signA_at k hlt p hp
      have hsd : Lx.signs.drop k = p.data.toList :: Lx.signs.drop (k + 1) := by
        rw [← signs_are, ← List.map_drop, ← List.map_drop]
        have h2 : k < signB.length := hlt
        rw [List.getElem?_eq_getElem h2] at hp
        rw [List.drop_eq_getElem_cons h2, Option.some.inj hp]
        rfl
      have HK2 := lunhide HK
      rw [hsd, List.find?_cons] at HK2
      obtain ⟨b, hb⟩ : ∃ b, Lib.hasPrefix s.data.toList p.data.toList = b := ⟨_, rfl⟩
      rw [hb] at HK2
      have CH : ∀ W, Calls Tryd.prog 27 #[.string s, .string p] W fun e w' => e = .returned (.bool b) ∧ w' = W := fun W => by
        have := Tryd.strings_HasPrefix s p W
        rw [hb] at this
        exact this
      have HC := lhide CH
      have HB := lhide hB
      have hi : (k : Int) < 22 := by omega
      have hrun := run_sign k hlt p hpa wr
      clear CH hb hp hsd HK hA0 hB hpa
      cases b with
      | true =>
        have hfp : f = some p.data.toList := HK2.symm
        have HO2 := lhide ((lunhide HO).symm)
        rw [hfp] at HO2
        clear HK2 hfp
        go_wp2_with fail
        refine (lunhide HC _).mono ?_
        rintro e w1 ⟨rfl, rfl⟩
        obtain ⟨⟨y0, y1, y2, y3, y4, y5⟩, ⟨f0, f1, f2, f3, f4, f5⟩, hbw, hltw⟩ := box6 _ _ _ _ _ _ _ _ _ (lunhide HB)
        have HBW := lhide (And.intro hbw hltw)
        clear hbw hltw
        go_wp2_with fail
        change bodyPost _ _ _ _ _ (w1.setCells w.heap.size 0 [.int .i64 6, .int .i64 0, .string p, .bool false, .string ⟨#[]⟩, .int .i64 0])
        obtain ⟨r0, r1, r2, r3, r4, r5⟩ := res6 w1 w.heap.size (.int .i64 6) (.int .i64 0) (.string p) (.bool false) (.string ⟨#[]⟩) (.int .i64 0) y0 y1 y2 y3 y4 y5
        have hBV := tset_below (lunhide HBW).1 (G := w.heap.size) (Nat.le_refl _) 0 [.int .i64 6, .int .i64 0, .string p, .bool false, .string ⟨#[]⟩, .int .i64 0]
        generalize w1.setCells w.heap.size 0 [.int .i64 6, .int .i64 0, .string p, .bool false, .string ⟨#[]⟩, .int .i64 0] = V at hBV r0 r1 r2 r3 r4 r5 ⊢
        exact bodyPost_ret (v := .tuple #[.agg #[.int .i64 6, .int .i64 0, .string p, .bool false, .string ⟨#[]⟩, .int .i64 0], .int .i64 (p.size : Int)]) (by simp [results, Tryd.results18, go_sem, r0, r1, r2, r3, r4, r5]) rfl ⟨by rw [lunhide HO2]; show _ = Ending.returned (.tuple #[.agg #[_, _, .string ⟨p.data.toList.toArray⟩, _, _, _], .int .i64 ((p.data.toList.length : Nat) : Int)]); rw [mk_of, lsize]; rfl, hBV⟩
      | false =>
        have HK3 := lhide HK2
        clear HK2
        go_wp2_with fail
        refine (lunhide HC _).mono ?_
        rintro e w1 ⟨rfl, rfl⟩
        go_wp2_with fail
        go_roundw
        case rel => exact ⟨k + 1, by go_num, hlt, HK3, lunhide HB⟩
        case measure => simp [intOf]; omega
    · have hf0 : f = none := by
        have := lunhide HK
        rw [List.drop_eq_nil_of_le (by show 22 ≤ k; omega)] at this
        exact this.symm
      obtain rfl : o = none := by have := lunhide HO; rw [hf0] at this; exact this.symm
      have hi : ¬ (k : Int) < 22 := by omega
      have HB := lhide hB
      clear HK hf0 hB hA0
      obtain ⟨⟨y0, y1, y2, y3, y4, y5⟩, ⟨f0, f1, f2, f3, f4, f5⟩, hbw, hltw⟩ := box6 _ _ _ _ _ _ _ _ _ (lunhide HB)
      have HBW := lhide (And.intro hbw hltw)
      clear hbw hltw
      go_wp2_with fail
      change bodyPost _ _ _ _ _ (wr.setCells w.heap.size 0 [.int .i64 0, .int .i64 0, .string ⟨#[]⟩, .bool false, .string ⟨#[]⟩, .int .i64 0])
      obtain ⟨r0, r1, r2, r3, r4, r5⟩ := res6 wr w.heap.size (.int .i64 0) (.int .i64 0) (.string ⟨#[]⟩) (.bool false) (.string ⟨#[]⟩) (.int .i64 0) y0 y1 y2 y3 y4 y5
      have hBV := tset_below (lunhide HBW).1 (G := w.heap.size) (Nat.le_refl _) 0 [.int .i64 0, .int .i64 0, .string ⟨#[]⟩, .bool false, .string ⟨#[]⟩, .int .i64 0]
      generalize wr.setCells w.heap.size 0 [.int .i64 0, .int .i64 0, .string ⟨#[]⟩, .bool false, .string ⟨#[]⟩, .int .i64 0] = V at hBV r0 r1 r2 r3 r4 r5 ⊢
      exact bodyPost_ret (v := .tuple #[.agg #[.int .i64 0, .int .i64 0, .string ⟨#[]⟩, .bool false, .string ⟨#[]⟩, .int .i64 0], .int .i64 0]) (by simp [results, Tryd.results18, go_sem, r0, r1, r2, r3, r4, r5]) rfl ⟨rfl, hBV⟩
end Go.Proofs.YtppkknmgdahniabDoor.Lex
