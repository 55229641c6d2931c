/- What is proved here: what the law CatsMay does with any row of texts, any text and any two masks, walked; conditions: how the row lies. -/
import Derived.Test.YtebmmnfjkckffaaCl
namespace Go.Proofs.Ytebmmnfjkckffaa
open Go.RowKit Go.Maps
set_option linter.unusedVariables false
set_option linter.unusedSimpArgs false
attribute [local go_sem ↓] Go.wp_at_zero Go.wp_at_succ

set_option maxRecDepth 1000000 in
set_option maxHeartbeats 4000000 in
theorem may_walk (a : Option Addr) (n c : Nat) (ss : List ByteArray) (s : ByteArray) (x y : Nat) (w : World) (hn2 : n ≤ 9223372036854775807) (hs9 : s.size ≤ maxLen) (hx : x < 18446744073709551616) (hy : y < 18446744073709551616) (hs : StrsIn w a n ss) :
    Calls Try.prog 3 #[.slice a n c, .string s, .agg #[.int .u64 (x : Int), .int .u64 (y : Int)]] w fun e w' => e = .returned (.bool true) ∧ Below w.heap.size w w' := by
  have hsh := Lf_short ss
  have hl70 : (Lf ss).length ≤ 70 := by rw [Lf_len]; omega
  have CF := fun W (h : StrsIn W a n ss) => few_any a n c ss hn2 W h
  generalize Lf ss = L at *
  obtain ⟨nn, hnn⟩ : ∃ nn, L.length = nn := ⟨_, rfl⟩
  rw [hnn] at CF hl70
  obtain ⟨q, hq⟩ : ∃ q, Cm.mayE L = q := ⟨_, rfl⟩
  have hl : ∀ x ∈ L, x.length ≤ 1000 := fun x hx => by have := hsh x hx; omega
  obtain ⟨t, ht, CS⟩ := short_any s w
  have htl : t.size ≤ 100 := by
    have := congrArg List.length ht
    rw [len_size] at this
    have h2 := List.length_take_le 100 s.data.toList
    omega
  obtain ⟨b1, hb1⟩ : ∃ b1, Cm.nameB t.data.toList = b1 := ⟨_, rfl⟩
  obtain ⟨b2, hb2⟩ : ∃ b2, Cm.subB x y = b2 := ⟨_, rfl⟩
  have C10 : ∀ W, Calls Try.prog 10 #[.string t] W fun e w' => e = .returned (.bool b1) ∧ w' = W := fun W => hb1 ▸ mayName_any t W (by omega)
  have C12 : ∀ W, Calls Try.prog 12 #[.string t] W fun e w' => e = .returned (.bool b1) ∧ w' = W := fun W => hb1 ▸ rmayName_any t W (by omega)
  have C13 : ∀ g cap W, RowAt W g L → Calls Try.prog 13 #[.slice (some ⟨g, 0, none⟩) nn cap] W fun e w' => e = .returned (.int .i64 (q : Int)) ∧ Below W.heap.size W w' := fun g cap W h => may_any g nn cap L hnn (by omega) hl q hq W h
  have C14 : ∀ g cap W, RowAt W g L → Calls Try.prog 14 #[.slice (some ⟨g, 0, none⟩) nn cap] W fun e w' => e = .returned (.int .i64 (q : Int)) ∧ w' = W := fun g cap W h => rmay_any g nn cap L hnn (by omega) hl q hq W h
  have C15 : ∀ W, Calls Try.prog 15 #[.int .u64 (x : Int), .int .u64 (y : Int)] W fun e w' => e = .returned (.bool b2) ∧ w' = W := fun W => hb2 ▸ within_any x y hx hy W
  have C16 : ∀ W, Calls Try.prog 16 #[.int .u64 (x : Int), .int .u64 (y : Int)] W fun e w' => e = .returned (.bool b2) ∧ w' = W := fun W => hb2 ▸ rwithin_any x y hx hy W
  have hsteps : ∀ W : World, Below w.heap.size w W → StrsIn W a n ss := fun W hB => ⟨hs.1, by
    rcases hs.2 with h | ⟨b, off, e, hb, hcell⟩
    · exact .inl h
    · exact .inr ⟨b, off, e, Nat.lt_of_lt_of_le hb hB.size, fun i hi => (hB.cell (p := ⟨b, off + i, none⟩) hb).trans (hcell i hi)⟩⟩
  clear hs9 hs ht htl hq hnn hsh hl hl70 hn2 hb1 hb2 hx hy
  go_enter Try.func3, Try.ntmps3
  go_wp2_with fail
  refine (shown_any _).mono ?_
  rintro e W1 ⟨rfl, bA⟩
  have hB1 : Below w.heap.size w W1 := ((Below.refl _ _).alloc (Nat.le_refl _) _).trans (bA.mono (by simp))
  have box0 : W1.cell? ⟨w.heap.size, 0, none⟩ = some (.int .u64 (x : Int)) := (bA.cell (p := ⟨w.heap.size, 0, none⟩) (by simp)).trans (by go_simp)
  have box1 : W1.cell? ⟨w.heap.size, 1, none⟩ = some (.int .u64 (y : Int)) := (bA.cell (p := ⟨w.heap.size, 1, none⟩) (by simp)).trans (by go_simp)
  have hlB : w.heap.size < W1.heap.size := Nat.lt_of_lt_of_le (by simp) bA.size
  clear bA
  go_wp2_with fail
  refine (CF _ (hsteps _ hB1)).mono ?_
  rintro e W4 ⟨bA, g, cap, rfl, hg, hr⟩
  have hB4 : Below w.heap.size w W4 := hB1.trans (bA.mono hB1.size)
  replace box0 := (bA.cell (p := ⟨w.heap.size, 0, none⟩) hlB).trans box0
  replace box1 := (bA.cell (p := ⟨w.heap.size, 1, none⟩) hlB).trans box1
  replace hlB : w.heap.size < W4.heap.size := Nat.lt_of_lt_of_le hlB bA.size
  clear bA hB1
  generalize hbb : w.heap.size = bb at *
  have HSB : Hid (∀ W, Below W4.heap.size W4 W → (W.cell? ⟨bb, 0, none⟩ = some (.int .u64 (x : Int)) ∧ W.cell? ⟨bb, 1, none⟩ = some (.int .u64 (y : Int)))) :=
    hide (fun W hB => ⟨(hB.cell (p := ⟨bb, 0, none⟩) hlB).trans box0, (hB.cell (p := ⟨bb, 1, none⟩) hlB).trans box1⟩)
  have HR : Hid (∀ W, Below W4.heap.size W4 W → RowAt W g L) := hide (fun W hB => hr.step hB)
  have HE : Hid (∀ W, Below W4.heap.size W4 W → Below bb w W) := hide (fun W hB => hB4.trans (hB.mono (Nat.le_of_lt hlB)))
  have hS : Below W4.heap.size W4 W4.drew := (Below.refl _ _).drew
  have HBB := hide hbb
  clear box0 box1 hr hB4 hlB hsteps CF hbb
  go_wp2_with fail
  go_region_held3 (fun w' => w'.cell? ⟨bb, 0, none⟩ = some (.int .u64 (x : Int)) ∧ w'.cell? ⟨bb, 1, none⟩ = some (.int .u64 (y : Int))) (exact unhide HSB _ hS)
    (first
      | (go_at_call 11; refine (CS _).mono ?_; rintro e w2 ⟨rfl, rfl⟩)
      | (go_at_call 10; refine (C10 _).mono ?_; rintro e w2 ⟨rfl, rfl⟩)
      | (go_at_call 12; refine (C12 _).mono ?_; rintro e w2 ⟨rfl, rfl⟩)
      | (go_at_call 13; refine (C13 _ _ _ (unhide HR _ hS)).mono ?_; rintro e w2 ⟨rfl, b9⟩; replace hS := hS.trans (b9.mono hS.size); clear b9)
      | (go_at_call 14; refine (C14 _ _ _ (unhide HR _ hS)).mono ?_; rintro e w2 ⟨rfl, rfl⟩)
      | (go_at_call 15; refine (C15 _).mono ?_; rintro e w2 ⟨rfl, rfl⟩)
      | (go_at_call 16; refine (C16 _).mono ?_; rintro e w2 ⟨rfl, rfl⟩))
  all_goals
    go_wp2
    go_ret
    exact ⟨rfl, by rw [unhide HBB]; exact unhide HE _ hS⟩
end Go.Proofs.Ytebmmnfjkckffaa
