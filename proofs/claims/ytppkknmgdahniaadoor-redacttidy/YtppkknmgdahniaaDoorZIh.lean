/- What is proved here: RedactTidy, walked; conditions: the rows of items lie, the table of powers of ten lies. Written by tidy9_gen.py. -/
import Derived.Test.YtppkknmgdahniaaDoorZIa
import Derived.Test.YtppkknmgdahniaaDoorZId
import Derived.Test.YtppkknmgdahniaaDoorZIg
namespace Go.Proofs.YtppkknmgdahniaaDoor.Pol
set_option maxRecDepth 100000
open Go.RowKit Go.Proofs.YtppkknmgdahniaaDoor.Nc Go.Proofs.YtppkknmgdahniaaDoor.Np Go.Proofs.YtppkknmgdahniaaDoor.Nq
set_option maxRecDepth 100000
set_option linter.unusedVariables false
set_option linter.unusedSimpArgs false

theorem hidU_or (cl : Nat) : ∀ a b, hidU cl a = true → hidU cl (a ||| b) = true := fun _ _ h => hid_or h
set_option maxHeartbeats 8000000 in
theorem tidy9 (a0 : Option Addr) (n0 c0 : Nat) (a1 : Option Addr) (n1 c1 cl : Nat) (w : World) (hn0 : n0 ≤ 140737488355328) (hit0 : ∀ i, i < n0 → i < 80 → ItemAt w a0 i) (hn1 : n1 ≤ 140737488355328) (hit1 : ∀ i, i < n1 → i < 80 → ItemAt w a1 i) (hcl : cl < 18446744073709551616) (hP : Pow w) :
    Calls Tryd.prog 7 #[.slice a0 n0 c0, .slice a1 n1 c1, .int .u64 (cl : Int)] w fun e w' => e = .returned (.bool true) ∧ Below w.heap.size w w' := by
  have HSH := phide (shown9_any w hP)
  have HBU : Hid (∀ W, Below w.heap.size w W → _) := phide (fun W hW => built_any a0 n0 c0 W hn0 (fun i h1 h2 => (hit0 i h1 h2).below hW))
  have HBV : Hid (∀ W, Below w.heap.size w W → _) := phide (fun W hW => built_any a1 n1 c1 W hn1 (fun i h1 h2 => (hit1 i h1 h2).below hW))
  clear hit0 hit1 hP
  go_enter Tryd.func7, Tryd.ntmps7
  go_wp2_with fail
  refine (punhide HSH).mono ?_
  rintro e9 w1 ⟨rfl, b1⟩
  go_wp2_with fail
  refine (punhide HBU _ b1).mono ?_
  rintro e9 w2 ⟨va, ta, rfl, hla, hga, hsza, b2⟩
  have b12 := below_next b1 b2
  obtain ⟨ha, kaa, kna, kca, daa, dna, dca, rfl⟩ := hla.shape
  obtain ⟨w3, e3, z3, g3, xa⟩ := alloc_facts w2 #[.int .i64 ha.k, .int .u64 (ha.m : Int), .bool ha.ng, .string ha.dg, .int .i64 ha.sc, .string ha.tx, .slice kaa kna kca, .slice daa dna dca, .int .i64 ha.cd] 31
  have b13 : Below w.heap.size w w3 := below_next b12 g3
  have hla3 := hla.any.below g3
  have HE := phide e3
  have HF3 := phide (And.intro b13 (And.intro hla3 xa))
  clear e3 z3 g3 xa b13 hla3 hla b12 b1 b2 HSH HBU
  go_upto_region 3 with fail
  rw [punhide HE]
  clear HE
  go_wp2_with fail
  refine (punhide HBV _ (punhide HF3).1).mono ?_
  rintro e9 w4 ⟨vb, tb, rfl, hlb, hgb, hszb, b4⟩
  obtain ⟨hb, kab, knb, kcb, dab, dnb, dcb, rfl⟩ := hlb.shape
  obtain ⟨w5, e5, z5, g5, xb⟩ := alloc_facts w4 #[.int .i64 hb.k, .int .u64 (hb.m : Int), .bool hb.ng, .string hb.dg, .int .i64 hb.sc, .string hb.tx, .slice kab knb kcb, .slice dab dnb dcb, .int .i64 hb.cd] 31
  obtain ⟨b13, hla3, xa⟩ := punhide HF3
  have b35 : Below w3.heap.size w3 w5 := below_next b4 g5
  have b15 : Below w.heap.size w w5 := below_next b13 b35
  have hla5 := hla3.below b35
  have hlb5 := hlb.any.below g5
  have xa5 := xa.below b35
  have HE := phide e5
  have HF5 := phide (And.intro b15 (And.intro hla5 (And.intro hlb5 (And.intro xa5 xb))))
  obtain ⟨v0, v1, v2, v3, v4, v5, v6, v7, v8⟩ : _ ∧ _ ∧ _ ∧ _ ∧ _ ∧ _ ∧ _ ∧ _ ∧ _ := ⟨(xa5).cell 0, (xa5).cell 1, (xa5).cell 2, (xa5).cell 3, (xa5).cell 4, (xa5).cell 5, (xa5).cell 6, (xa5).cell 7, (xa5).cell 8⟩
  clear e5 z5 g5 xb b13 hla3 xa b35 b15 hla5 hlb5 xa5 hlb b4 HBV HF3
  go_upto_region 4 with fail
  rw [punhide HE]
  clear HE
  go_wp2_with fail
  refine (rtidy_any anyB 100 _ ta w5 (punhide HF5).2.1 (good_ok 100 ta hga)).mono ?_
  rintro e9 w6 ⟨vx, rfl, hlx, b6⟩
  obtain ⟨hx, kax, knx, kcx, dax, dnx, dcx, rfl⟩ := hlx.shape
  obtain ⟨w7, e7, z7, g7, xx⟩ := alloc_facts w6 #[.int .i64 hx.k, .int .u64 (hx.m : Int), .bool hx.ng, .string hx.dg, .int .i64 hx.sc, .string hx.tx, .slice kax knx kcx, .slice dax dnx dcx, .int .i64 hx.cd] 31
  obtain ⟨b15, hla5, hlb5, xa5, xb5⟩ := punhide HF5
  have b57 : Below w5.heap.size w5 w7 := below_next b6 g7
  have b17 : Below w.heap.size w w7 := below_next b15 b57
  have hla7 := hla5.below b57
  have hlb7 := hlb5.below b57
  have hlx7 := hlx.any.below g7
  have xa7 := xa5.below b57
  have xb7 := xb5.below b57
  have HE := phide e7
  have HF7 := phide (And.intro b17 (And.intro hla7 (And.intro hlb7 (And.intro hlx7 (And.intro xa7 (And.intro xb7 xx))))))
  clear v0 v1 v2 v3 v4 v5 v6 v7 v8
  obtain ⟨v0, v1, v2, v3, v4, v5, v6, v7, v8⟩ : _ ∧ _ ∧ _ ∧ _ ∧ _ ∧ _ ∧ _ ∧ _ ∧ _ := ⟨(xb7).cell 0, (xb7).cell 1, (xb7).cell 2, (xb7).cell 3, (xb7).cell 4, (xb7).cell 5, (xb7).cell 6, (xb7).cell 7, (xb7).cell 8⟩
  clear e7 z7 g7 xx b15 hla5 hlb5 xa5 xb5 b57 b17 hla7 hlb7 hlx7 xa7 xb7 hlx b6 HF5
  go_upto_region 5 with fail
  rw [punhide HE]
  clear HE
  go_wp2_with fail
  refine (rtidy_any anyB 100 _ tb w7 (punhide HF7).2.2.1 (good_ok 100 tb hgb)).mono ?_
  rintro e9 w8 ⟨vy, rfl, hly, b8⟩
  obtain ⟨hy, kay, kny, kcy, day, dny, dcy, rfl⟩ := hly.shape
  obtain ⟨w9, e9', z9, g9, xy⟩ := alloc_facts w8 #[.int .i64 hy.k, .int .u64 (hy.m : Int), .bool hy.ng, .string hy.dg, .int .i64 hy.sc, .string hy.tx, .slice kay kny kcy, .slice day dny dcy, .int .i64 hy.cd] 31
  obtain ⟨b17, hla7, hlb7, hlx7, xa7, xb7, xx7⟩ := punhide HF7
  have b79 : Below w7.heap.size w7 w9 := below_next b8 g9
  have b19 : Below w.heap.size w w9 := below_next b17 b79
  have hla9 := hla7.below b79
  have hlb9 := hlb7.below b79
  have hlx9 := hlx7.below b79
  have hly9 := hly.any.below g9
  have xa9 := xa7.below b79
  have xb9 := xb7.below b79
  have xx9 := xx7.below b79
  have HE := phide e9'
  have sma := Lies_sm hla9
  have smb := Lies_sm hlb9
  obtain ⟨q1, hq1⟩ : ∃ q, hidU cl (Tr.hd ta).m = q := ⟨_, rfl⟩
  obtain ⟨q2, hq2⟩ : ∃ q, hidU cl (Tr.hd (tidyT 100 ta)).m = q := ⟨_, rfl⟩
  obtain ⟨q3, hq3⟩ : ∃ q, likeB (hidU cl) 100 ta tb = q := ⟨_, rfl⟩
  obtain ⟨q4, hq4⟩ : ∃ q, likeB (hidU cl) 100 (tidyT 100 ta) (tidyT 100 tb) = q := ⟨_, rfl⟩
  obtain ⟨N1, hN1⟩ : ∃ q, heldT 100 (tidyT 100 ta) = q := ⟨_, rfl⟩
  obtain ⟨N2, hN2⟩ : ∃ q, heldT 100 (tidyT 100 tb) = q := ⟨_, rfl⟩
  have im2 : q1 = true → q2 = true := fun h => by rw [← hq2]; exact tidy_hid (n := 99) (hid_nought cl) (hidU_or cl) (by rw [hq1]; exact h)
  have im4 : q3 = true → q4 = true := fun h => by rw [← hq4]; exact like_tidy (hid_nought cl) (hidU_or cl) 100 ta tb (by rw [hq3]; exact h) sma smb
  have im5 : q3 = true → N1 = N2 := fun h => by rw [← hN1, ← hN2]; exact held_tidy_like (hid_nought cl) 100 ta tb (by rw [hq3]; exact h)
  have okx : okT 100 (tidyT 100 ta) := ok_tidy _ _ (good_ok 100 ta hga)
  have oky : okT 100 (tidyT 100 tb) := ok_tidy _ _ (good_ok 100 tb hgb)
  have szx : sizeT 100 (tidyT 100 ta) ≤ 1000000 := by rw [size_tidy]; omega
  have szy : sizeT 100 (tidyT 100 tb) ≤ 1000000 := by rw [size_tidy]; omega
  have HBW : Hid (∀ W, Below w9.heap.size w9 W → Below w.heap.size w W) := phide (fun W hW => below_next b19 hW)
  have HXA : Hid (∀ W, Below w9.heap.size w9 W → Bx W w2.heap.size #[.int .i64 ha.k, .int .u64 (ha.m : Int), .bool ha.ng, .string ha.dg, .int .i64 ha.sc, .string ha.tx, .slice kaa kna kca, .slice daa dna dca, .int .i64 ha.cd] 31) := phide (fun W hW => xa9.below hW)
  have HXB : Hid (∀ W, Below w9.heap.size w9 W → Bx W w4.heap.size #[.int .i64 hb.k, .int .u64 (hb.m : Int), .bool hb.ng, .string hb.dg, .int .i64 hb.sc, .string hb.tx, .slice kab knb kcb, .slice dab dnb dcb, .int .i64 hb.cd] 31) := phide (fun W hW => xb9.below hW)
  have HXX : Hid (∀ W, Below w9.heap.size w9 W → Bx W w6.heap.size #[.int .i64 hx.k, .int .u64 (hx.m : Int), .bool hx.ng, .string hx.dg, .int .i64 hx.sc, .string hx.tx, .slice kax knx kcx, .slice dax dnx dcx, .int .i64 hx.cd] 31) := phide (fun W hW => xx9.below hW)
  have HXY : Hid (∀ W, Below w9.heap.size w9 W → Bx W w8.heap.size #[.int .i64 hy.k, .int .u64 (hy.m : Int), .bool hy.ng, .string hy.dg, .int .i64 hy.sc, .string hy.tx, .slice kay kny kcy, .slice day dny dcy, .int .i64 hy.cd] 31) := phide (fun W hW => xy.below hW)
  have HH1 : Hid (∀ W, Below w9.heap.size w9 W → _) := phide (fun W hW => hidden_any _ 100 _ ta cl hcl q1 hq1 W (hla9.below hW))
  have HH2 : Hid (∀ W, Below w9.heap.size w9 W → _) := phide (fun W hW => hidden_any _ 100 _ (tidyT 100 ta) cl hcl q2 hq2 W (hlx9.below hW))
  have HA1 : Hid (∀ W, Below w9.heap.size w9 W → _) := phide (fun W hW => alike_any _ _ cl hcl 100 _ _ ta tb q3 W hq3 (hla9.below hW) (hlb9.below hW) (good_ok 100 ta hga) (good_ok 100 tb hgb))
  have HA2 : Hid (∀ W, Below w9.heap.size w9 W → Calls Tryd.prog 21 #[.agg #[.int .i64 hx.k, .int .u64 (hx.m : Int), .bool hx.ng, .string hx.dg, .int .i64 hx.sc, .string hx.tx, .slice kax knx kcx, .slice dax dnx dcx, .int .i64 hx.cd], .agg #[.int .i64 hy.k, .int .u64 (hy.m : Int), .bool hy.ng, .string hy.dg, .int .i64 hy.sc, .string hy.tx, .slice kay kny kcy, .slice day dny dcy, .int .i64 hy.cd], .int .u64 (cl : Int)] W fun e w' => e = .returned (.bool q4) ∧ Below W.heap.size W w') := phide (fun W hW => alike_any _ _ cl hcl 100 _ _ (tidyT 100 ta) (tidyT 100 tb) q4 W hq4 (hlx9.below hW) (hly9.below hW) okx oky)
  have HHX : Hid (∀ W, Below w9.heap.size w9 W → Calls Tryd.prog 27 #[.agg #[.int .i64 hx.k, .int .u64 (hx.m : Int), .bool hx.ng, .string hx.dg, .int .i64 hx.sc, .string hx.tx, .slice kax knx kcx, .slice dax dnx dcx, .int .i64 hx.cd]] W fun e w' => e = .returned (.int .i64 (N1 : Int)) ∧ Below W.heap.size W w') := phide (fun W hW => by have := rheld_any anyB 100 _ (tidyT 100 ta) W (hlx9.below hW) szx; rw [hN1] at this; exact this)
  have HHY : Hid (∀ W, Below w9.heap.size w9 W → Calls Tryd.prog 27 #[.agg #[.int .i64 hy.k, .int .u64 (hy.m : Int), .bool hy.ng, .string hy.dg, .int .i64 hy.sc, .string hy.tx, .slice kay kny kcy, .slice day dny dcy, .int .i64 hy.cd]] W fun e w' => e = .returned (.int .i64 (N2 : Int)) ∧ Below W.heap.size W w') := phide (fun W hW => by have := rheld_any anyB 100 _ (tidyT 100 tb) W (hly9.below hW) szy; rw [hN2] at this; exact this)
  have HS : Hid (∀ W, Below w9.heap.size w9 W → (W.cell? ⟨w2.heap.size, 1, none⟩ = some (.int .u64 (ha.m : Int)) ∧ W.cell? ⟨w6.heap.size, 0, none⟩ = some (.int .i64 hx.k) ∧ W.cell? ⟨w6.heap.size, 1, none⟩ = some (.int .u64 (hx.m : Int)) ∧ W.cell? ⟨w6.heap.size, 2, none⟩ = some (.bool hx.ng) ∧ W.cell? ⟨w6.heap.size, 3, none⟩ = some (.string hx.dg) ∧ W.cell? ⟨w6.heap.size, 4, none⟩ = some (.int .i64 hx.sc) ∧ W.cell? ⟨w6.heap.size, 5, none⟩ = some (.string hx.tx) ∧ W.cell? ⟨w6.heap.size, 6, none⟩ = some (.slice kax knx kcx) ∧ W.cell? ⟨w6.heap.size, 7, none⟩ = some (.slice dax dnx dcx) ∧ W.cell? ⟨w6.heap.size, 8, none⟩ = some (.int .i64 hx.cd) ∧ W.cell? ⟨w8.heap.size, 0, none⟩ = some (.int .i64 hy.k) ∧ W.cell? ⟨w8.heap.size, 1, none⟩ = some (.int .u64 (hy.m : Int)) ∧ W.cell? ⟨w8.heap.size, 2, none⟩ = some (.bool hy.ng) ∧ W.cell? ⟨w8.heap.size, 3, none⟩ = some (.string hy.dg) ∧ W.cell? ⟨w8.heap.size, 4, none⟩ = some (.int .i64 hy.sc) ∧ W.cell? ⟨w8.heap.size, 5, none⟩ = some (.string hy.tx) ∧ W.cell? ⟨w8.heap.size, 6, none⟩ = some (.slice kay kny kcy) ∧ W.cell? ⟨w8.heap.size, 7, none⟩ = some (.slice day dny dcy) ∧ W.cell? ⟨w8.heap.size, 8, none⟩ = some (.int .i64 hy.cd))) := phide (fun W hW => ⟨(xa9.below hW).cell 1, (xx9.below hW).cell 0, (xx9.below hW).cell 1, (xx9.below hW).cell 2, (xx9.below hW).cell 3, (xx9.below hW).cell 4, (xx9.below hW).cell 5, (xx9.below hW).cell 6, (xx9.below hW).cell 7, (xx9.below hW).cell 8, (xy.below hW).cell 0, (xy.below hW).cell 1, (xy.below hW).cell 2, (xy.below hW).cell 3, (xy.below hW).cell 4, (xy.below hW).cell 5, (xy.below hW).cell 6, (xy.below hW).cell 7, (xy.below hW).cell 8⟩)
  have hB : Below w9.heap.size w9 w9 := Below.refl _ _
  clear v0 v1 v2 v3 v4 v5 v6 v7 v8
  clear e9' z9 g9 xy b17 hla7 hlb7 hlx7 xa7 xb7 xx7 b79 b19 hla9 hlb9 hlx9 hly9 xa9 xb9 xx9 hly b8 HF7 hq1 hq2 hq3 hq4 hN1 hN2 okx oky szx szy sma smb hga hgb hsza hszb
  go_upto_region 6 with fail
  rw [punhide HE]
  clear HE
  cases q1 with
  | false =>
    obtain ⟨v0, v1, v2, v3, v4, v5, v6, v7, v8⟩ : _ ∧ _ ∧ _ ∧ _ ∧ _ ∧ _ ∧ _ ∧ _ ∧ _ := ⟨(punhide HXA _ hB).cell 0, (punhide HXA _ hB).cell 1, (punhide HXA _ hB).cell 2, (punhide HXA _ hB).cell 3, (punhide HXA _ hB).cell 4, (punhide HXA _ hB).cell 5, (punhide HXA _ hB).cell 6, (punhide HXA _ hB).cell 7, (punhide HXA _ hB).cell 8⟩
    go_wp2_with fail
    refine (punhide HH1 _ hB).mono ?_
    rintro e9 w10 ⟨rfl, bb⟩
    clear v0 v1 v2 v3 v4 v5 v6 v7 v8
    replace hB := below_next hB bb
    clear bb
    obtain ⟨v0, v1, v2, v3, v4, v5, v6, v7, v8⟩ : _ ∧ _ ∧ _ ∧ _ ∧ _ ∧ _ ∧ _ ∧ _ ∧ _ := ⟨(punhide HXA _ hB).cell 0, (punhide HXA _ hB).cell 1, (punhide HXA _ hB).cell 2, (punhide HXA _ hB).cell 3, (punhide HXA _ hB).cell 4, (punhide HXA _ hB).cell 5, (punhide HXA _ hB).cell 6, (punhide HXA _ hB).cell 7, (punhide HXA _ hB).cell 8⟩
    obtain ⟨u0, u1, u2, u3, u4, u5, u6, u7, u8⟩ : _ ∧ _ ∧ _ ∧ _ ∧ _ ∧ _ ∧ _ ∧ _ ∧ _ := ⟨(punhide HXB _ hB).cell 0, (punhide HXB _ hB).cell 1, (punhide HXB _ hB).cell 2, (punhide HXB _ hB).cell 3, (punhide HXB _ hB).cell 4, (punhide HXB _ hB).cell 5, (punhide HXB _ hB).cell 6, (punhide HXB _ hB).cell 7, (punhide HXB _ hB).cell 8⟩
    go_wp2_with fail
    refine (punhide HA1 _ hB).mono ?_
    rintro e9 w12 ⟨rfl, bb⟩
    clear v0 v1 v2 v3 v4 v5 v6 v7 v8
    clear u0 u1 u2 u3 u4 u5 u6 u7 u8
    replace hB := below_next hB bb
    clear bb
    clear HH1 HH2 HA1 HXA HXB HXX HXY
    cases q3 with
    | false =>
      obtain ⟨cm, x0, x1, x2, x3, x4, x5, x6, x7, x8, y0, y1, y2, y3, y4, y5, y6, y7, y8⟩ := punhide HS _ hB
      go_wp2_with fail
      go_quiet (fail)
      all_goals
        go_wp2_with fail
        go_ret
        exact ⟨rfl, punhide HBW _ (by first | exact hB | exact below_drewN' hB)⟩
    | true =>
      obtain rfl : q4 = true := im4 rfl
      obtain rfl : N1 = N2 := im5 rfl
      clear im2 im4 im5
      by_cases hm : ha.m = 0
      · have hmf : ((ha.m : Int) != 0) = false := by rw [hm]; rfl
        obtain ⟨cm, x0, x1, x2, x3, x4, x5, x6, x7, x8, y0, y1, y2, y3, y4, y5, y6, y7, y8⟩ := punhide HS _ hB
        have HB0 := phide hB
        clear hm hB
        go_upto_region 8 with fail
        have hS := (punhide HB0).drew
        go_region_held3 (fun W => W.cell? ⟨w2.heap.size, 1, none⟩ = some (.int .u64 (ha.m : Int)) ∧ W.cell? ⟨w6.heap.size, 0, none⟩ = some (.int .i64 hx.k) ∧ W.cell? ⟨w6.heap.size, 1, none⟩ = some (.int .u64 (hx.m : Int)) ∧ W.cell? ⟨w6.heap.size, 2, none⟩ = some (.bool hx.ng) ∧ W.cell? ⟨w6.heap.size, 3, none⟩ = some (.string hx.dg) ∧ W.cell? ⟨w6.heap.size, 4, none⟩ = some (.int .i64 hx.sc) ∧ W.cell? ⟨w6.heap.size, 5, none⟩ = some (.string hx.tx) ∧ W.cell? ⟨w6.heap.size, 6, none⟩ = some (.slice kax knx kcx) ∧ W.cell? ⟨w6.heap.size, 7, none⟩ = some (.slice dax dnx dcx) ∧ W.cell? ⟨w6.heap.size, 8, none⟩ = some (.int .i64 hx.cd) ∧ W.cell? ⟨w8.heap.size, 0, none⟩ = some (.int .i64 hy.k) ∧ W.cell? ⟨w8.heap.size, 1, none⟩ = some (.int .u64 (hy.m : Int)) ∧ W.cell? ⟨w8.heap.size, 2, none⟩ = some (.bool hy.ng) ∧ W.cell? ⟨w8.heap.size, 3, none⟩ = some (.string hy.dg) ∧ W.cell? ⟨w8.heap.size, 4, none⟩ = some (.int .i64 hy.sc) ∧ W.cell? ⟨w8.heap.size, 5, none⟩ = some (.string hy.tx) ∧ W.cell? ⟨w8.heap.size, 6, none⟩ = some (.slice kay kny kcy) ∧ W.cell? ⟨w8.heap.size, 7, none⟩ = some (.slice day dny dcy) ∧ W.cell? ⟨w8.heap.size, 8, none⟩ = some (.int .i64 hy.cd)) (exact punhide HS _ hS)
          (first
            | (go_at_call 21; refine (punhide HA2 _ hS).mono ?_; rintro e u1 ⟨rfl, bn⟩; replace hS := hS.trans (bn.mono hS.size); clear bn)
            | (go_at_call_of 27 (Value.int IntKind.i64 hx.k); refine (punhide HHX _ hS).mono ?_; rintro e u2 ⟨rfl, bn⟩; replace hS := hS.trans (bn.mono hS.size); clear bn)
            | (go_at_call_of 27 (Value.int IntKind.i64 hy.k); refine (punhide HHY _ hS).mono ?_; rintro e u3 ⟨rfl, bn⟩; replace hS := hS.trans (bn.mono hS.size); clear bn))
        go_wp2
        go_ret
        exact ⟨rfl, punhide HBW _ hS⟩
      · have hmf : ((ha.m : Int) != 0) = true := bne_iff_ne.2 (by omega)
        obtain ⟨cm, x0, x1, x2, x3, x4, x5, x6, x7, x8, y0, y1, y2, y3, y4, y5, y6, y7, y8⟩ := punhide HS _ hB
        have HB0 := phide hB
        clear hm hB
        go_upto_region 8 with fail
        have hS := (punhide HB0).drew
        refine wp_region_held_drew (S := (fun W => W.cell? ⟨w2.heap.size, 1, none⟩ = some (.int .u64 (ha.m : Int)) ∧ W.cell? ⟨w6.heap.size, 0, none⟩ = some (.int .i64 hx.k) ∧ W.cell? ⟨w6.heap.size, 1, none⟩ = some (.int .u64 (hx.m : Int)) ∧ W.cell? ⟨w6.heap.size, 2, none⟩ = some (.bool hx.ng) ∧ W.cell? ⟨w6.heap.size, 3, none⟩ = some (.string hx.dg) ∧ W.cell? ⟨w6.heap.size, 4, none⟩ = some (.int .i64 hx.sc) ∧ W.cell? ⟨w6.heap.size, 5, none⟩ = some (.string hx.tx) ∧ W.cell? ⟨w6.heap.size, 6, none⟩ = some (.slice kax knx kcx) ∧ W.cell? ⟨w6.heap.size, 7, none⟩ = some (.slice dax dnx dcx) ∧ W.cell? ⟨w6.heap.size, 8, none⟩ = some (.int .i64 hx.cd) ∧ W.cell? ⟨w8.heap.size, 0, none⟩ = some (.int .i64 hy.k) ∧ W.cell? ⟨w8.heap.size, 1, none⟩ = some (.int .u64 (hy.m : Int)) ∧ W.cell? ⟨w8.heap.size, 2, none⟩ = some (.bool hy.ng) ∧ W.cell? ⟨w8.heap.size, 3, none⟩ = some (.string hy.dg) ∧ W.cell? ⟨w8.heap.size, 4, none⟩ = some (.int .i64 hy.sc) ∧ W.cell? ⟨w8.heap.size, 5, none⟩ = some (.string hy.tx) ∧ W.cell? ⟨w8.heap.size, 6, none⟩ = some (.slice kay kny kcy) ∧ W.cell? ⟨w8.heap.size, 7, none⟩ = some (.slice day dny dcy) ∧ W.cell? ⟨w8.heap.size, 8, none⟩ = some (.int .i64 hy.cd))) (by kernel_rfl) ?hS0 (fun hHeld => ?rest0)
        case hS0 => first | (dsimp only; (exact punhide HS _ hS)) | (exact punhide HS _ hS)
        case rest0 =>
        refine wpAnyH_take (i := 0) (v := ?v0) rfl (by kernel_rfl) (by kernel_rfl) (by kernel_rfl) (fun _ _ _ h => h) (Or.inl ⟨by rfl, ?hy0⟩) (by assumption) ?rest1
        case hy0 => ((intro w hSw; (try dsimp only at hSw); go_simp) <;> with_reducible rfl)
        case rest1 =>
        try simp only [Act.put, List.getElem_toArray, List.getElem_cons_zero, List.getElem_cons_succ, List.setIfInBounds_toArray, List.set_cons_zero, List.set_cons_succ]
        refine wpAnyH_take (i := 1) (v := ?v1) rfl (by kernel_rfl) (by kernel_rfl) (by kernel_rfl) (fun _ _ _ h => h) (Or.inl ⟨by rfl, ?hy1⟩) (by assumption) ?rest2
        case hy1 => ((intro w hSw; (try dsimp only at hSw); go_simp) <;> with_reducible rfl)
        case rest2 =>
        try simp only [Act.put, List.getElem_toArray, List.getElem_cons_zero, List.getElem_cons_succ, List.setIfInBounds_toArray, List.set_cons_zero, List.set_cons_succ]
        refine wpAnyH_take (i := 2) (v := ?v2) rfl (by kernel_rfl) (by kernel_rfl) (by kernel_rfl) (fun _ _ _ h => h) (Or.inl ⟨by rfl, ?hy2⟩) (by assumption) ?rest3
        case hy2 => ((intro w hSw; (try dsimp only at hSw); go_simp) <;> with_reducible rfl)
        case rest3 =>
        try simp only [Act.put, List.getElem_toArray, List.getElem_cons_zero, List.getElem_cons_succ, List.setIfInBounds_toArray, List.set_cons_zero, List.set_cons_succ]
        refine wpAnyH_take (i := 3) (v := ?v3) rfl (by kernel_rfl) (by kernel_rfl) (by kernel_rfl) (fun _ _ _ h => h) (Or.inl ⟨by rfl, ?hy3⟩) (by assumption) ?rest4
        case hy3 => ((intro w hSw; (try dsimp only at hSw); go_simp) <;> with_reducible rfl)
        case rest4 =>
        try simp only [Act.put, List.getElem_toArray, List.getElem_cons_zero, List.getElem_cons_succ, List.setIfInBounds_toArray, List.set_cons_zero, List.set_cons_succ]
        refine wpAnyH_take (i := 4) (v := ?v4) rfl (by kernel_rfl) (by kernel_rfl) (by kernel_rfl) (fun _ _ _ h => h) (Or.inl ⟨by rfl, ?hy4⟩) (by assumption) ?rest5
        case hy4 => ((intro w hSw; (try dsimp only at hSw); go_simp) <;> with_reducible rfl)
        case rest5 =>
        try simp only [Act.put, List.getElem_toArray, List.getElem_cons_zero, List.getElem_cons_succ, List.setIfInBounds_toArray, List.set_cons_zero, List.set_cons_succ]
        refine wpAnyH_take (i := 5) (v := ?v5) rfl (by kernel_rfl) (by kernel_rfl) (by kernel_rfl) (fun _ _ _ h => h) (Or.inl ⟨by rfl, ?hy5⟩) (by assumption) ?rest6
        case hy5 => ((intro w hSw; (try dsimp only at hSw); go_simp) <;> with_reducible rfl)
        case rest6 =>
        try simp only [Act.put, List.getElem_toArray, List.getElem_cons_zero, List.getElem_cons_succ, List.setIfInBounds_toArray, List.set_cons_zero, List.set_cons_succ]
        refine wpAnyH_take (i := 6) (v := ?v6) rfl (by kernel_rfl) (by kernel_rfl) (by kernel_rfl) (fun _ _ _ h => h) (Or.inl ⟨by rfl, ?hy6⟩) (by assumption) ?rest7
        case hy6 => ((intro w hSw; (try dsimp only at hSw); go_simp) <;> with_reducible rfl)
        case rest7 =>
        try simp only [Act.put, List.getElem_toArray, List.getElem_cons_zero, List.getElem_cons_succ, List.setIfInBounds_toArray, List.set_cons_zero, List.set_cons_succ]
        refine wpAnyH_take (i := 7) (v := ?v7) rfl (by kernel_rfl) (by kernel_rfl) (by kernel_rfl) (fun _ _ _ h => h) (Or.inl ⟨by rfl, ?hy7⟩) (by assumption) ?rest8
        case hy7 => ((intro w hSw; (try dsimp only at hSw); go_simp) <;> with_reducible rfl)
        case rest8 =>
        try simp only [Act.put, List.getElem_toArray, List.getElem_cons_zero, List.getElem_cons_succ, List.setIfInBounds_toArray, List.set_cons_zero, List.set_cons_succ]
        refine wpAnyH_take (i := 8) (v := ?v8) rfl (by kernel_rfl) (by kernel_rfl) (by kernel_rfl) (fun _ _ _ h => h) (Or.inl ⟨by rfl, ?hy8⟩) (by assumption) ?rest9
        case hy8 => ((intro w hSw; (try dsimp only at hSw); go_simp) <;> with_reducible rfl)
        case rest9 =>
        try simp only [Act.put, List.getElem_toArray, List.getElem_cons_zero, List.getElem_cons_succ, List.setIfInBounds_toArray, List.set_cons_zero, List.set_cons_succ]
        refine wpAnyH_take (i := 9) (v := ?v9) rfl (by kernel_rfl) (by kernel_rfl) (by kernel_rfl) (fun _ _ _ h => h) (Or.inl ⟨by rfl, ?hy9⟩) (by assumption) ?rest10
        case hy9 => ((intro w hSw; (try dsimp only at hSw); go_simp) <;> with_reducible rfl)
        case rest10 =>
        try simp only [Act.put, List.getElem_toArray, List.getElem_cons_zero, List.getElem_cons_succ, List.setIfInBounds_toArray, List.set_cons_zero, List.set_cons_succ]
        refine wpAnyH_take (i := 10) (v := ?v10) rfl (by kernel_rfl) (by kernel_rfl) (by kernel_rfl) (fun _ _ _ h => h) (Or.inl ⟨by rfl, ?hy10⟩) (by assumption) ?rest11
        case hy10 => ((intro w hSw; (try dsimp only at hSw); go_simp) <;> with_reducible rfl)
        case rest11 =>
        try simp only [Act.put, List.getElem_toArray, List.getElem_cons_zero, List.getElem_cons_succ, List.setIfInBounds_toArray, List.set_cons_zero, List.set_cons_succ]
        refine wpAnyH_ready (rs := [11]) (by kernel_rfl) (by simp) ?_
        refine AllReadyH.cons rfl (fun K hK => ?_) AllReadyH.nil
        go_simp
        (go_at_call 21; refine (punhide HA2 _ hS).mono ?_; rintro e u1 ⟨rfl, bn⟩; replace hS := hS.trans (bn.mono hS.size); clear bn)
        refine hK.out _ _ ?hS12 (fun hHeld2 => ?rest12)
        case hS12 => first | (dsimp only; (exact punhide HS _ hS)) | (exact punhide HS _ hS)
        case rest12 =>
        clear hK K hHeld
        try simp only [Act.put, List.getElem_toArray, List.getElem_cons_zero, List.getElem_cons_succ, List.setIfInBounds_toArray, List.set_cons_zero, List.set_cons_succ]
        refine wpAnyH_take (i := 12) (v := ?v12) rfl (by kernel_rfl) (by kernel_rfl) (by kernel_rfl) (fun _ _ _ h => h) (Or.inl ⟨by rfl, ?hy12⟩) (by assumption) ?rest13
        case hy12 => ((intro w hSw; (try dsimp only at hSw); go_simp) <;> with_reducible rfl)
        case rest13 =>
        try simp only [Act.put, List.getElem_toArray, List.getElem_cons_zero, List.getElem_cons_succ, List.setIfInBounds_toArray, List.set_cons_zero, List.set_cons_succ]
        refine wpAnyH_take (i := 13) (v := ?v13) rfl (by kernel_rfl) (by kernel_rfl) (by kernel_rfl) (fun _ _ _ h => h) (Or.inl ⟨by rfl, ?hy13⟩) (by assumption) ?rest14
        case hy13 => ((intro w hSw; (try dsimp only at hSw); go_simp) <;> with_reducible rfl)
        case rest14 =>
        try simp only [Act.put, List.getElem_toArray, List.getElem_cons_zero, List.getElem_cons_succ, List.setIfInBounds_toArray, List.set_cons_zero, List.set_cons_succ]
        refine wpAnyH_take (i := 14) (v := ?v14) rfl (by kernel_rfl) (by kernel_rfl) (by kernel_rfl) (fun _ _ _ h => h) (Or.inl ⟨by rfl, ?hy14⟩) (by assumption) ?rest15
        case hy14 => ((intro w hSw; (try dsimp only at hSw); go_simp) <;> with_reducible rfl)
        case rest15 =>
        try simp only [Act.put, List.getElem_toArray, List.getElem_cons_zero, List.getElem_cons_succ, List.setIfInBounds_toArray, List.set_cons_zero, List.set_cons_succ]
        refine wpAnyH_take (i := 15) (v := ?v15) rfl (by kernel_rfl) (by kernel_rfl) (by kernel_rfl) (fun _ _ _ h => h) (Or.inl ⟨by rfl, ?hy15⟩) (by assumption) ?rest16
        case hy15 => ((intro w hSw; (try dsimp only at hSw); go_simp) <;> with_reducible rfl)
        case rest16 =>
        try simp only [Act.put, List.getElem_toArray, List.getElem_cons_zero, List.getElem_cons_succ, List.setIfInBounds_toArray, List.set_cons_zero, List.set_cons_succ]
        refine wpAnyH_take (i := 16) (v := ?v16) rfl (by kernel_rfl) (by kernel_rfl) (by kernel_rfl) (fun _ _ _ h => h) (Or.inl ⟨by rfl, ?hy16⟩) (by assumption) ?rest17
        case hy16 => ((intro w hSw; (try dsimp only at hSw); go_simp) <;> with_reducible rfl)
        case rest17 =>
        try simp only [Act.put, List.getElem_toArray, List.getElem_cons_zero, List.getElem_cons_succ, List.setIfInBounds_toArray, List.set_cons_zero, List.set_cons_succ]
        refine wpAnyH_take (i := 17) (v := ?v17) rfl (by kernel_rfl) (by kernel_rfl) (by kernel_rfl) (fun _ _ _ h => h) (Or.inl ⟨by rfl, ?hy17⟩) (by assumption) ?rest18
        case hy17 => ((intro w hSw; (try dsimp only at hSw); go_simp) <;> with_reducible rfl)
        case rest18 =>
        try simp only [Act.put, List.getElem_toArray, List.getElem_cons_zero, List.getElem_cons_succ, List.setIfInBounds_toArray, List.set_cons_zero, List.set_cons_succ]
        refine wpAnyH_take (i := 18) (v := ?v18) rfl (by kernel_rfl) (by kernel_rfl) (by kernel_rfl) (fun _ _ _ h => h) (Or.inl ⟨by rfl, ?hy18⟩) (by assumption) ?rest19
        case hy18 => ((intro w hSw; (try dsimp only at hSw); go_simp) <;> with_reducible rfl)
        case rest19 =>
        try simp only [Act.put, List.getElem_toArray, List.getElem_cons_zero, List.getElem_cons_succ, List.setIfInBounds_toArray, List.set_cons_zero, List.set_cons_succ]
        refine wpAnyH_take (i := 19) (v := ?v19) rfl (by kernel_rfl) (by kernel_rfl) (by kernel_rfl) (fun _ _ _ h => h) (Or.inl ⟨by rfl, ?hy19⟩) (by assumption) ?rest20
        case hy19 => ((intro w hSw; (try dsimp only at hSw); go_simp) <;> with_reducible rfl)
        case rest20 =>
        try simp only [Act.put, List.getElem_toArray, List.getElem_cons_zero, List.getElem_cons_succ, List.setIfInBounds_toArray, List.set_cons_zero, List.set_cons_succ]
        refine wpAnyH_take (i := 20) (v := ?v20) rfl (by kernel_rfl) (by kernel_rfl) (by kernel_rfl) (fun _ _ _ h => h) (Or.inl ⟨by rfl, ?hy20⟩) (by assumption) ?rest21
        case hy20 => ((intro w hSw; (try dsimp only at hSw); go_simp) <;> with_reducible rfl)
        case rest21 =>
        try simp only [Act.put, List.getElem_toArray, List.getElem_cons_zero, List.getElem_cons_succ, List.setIfInBounds_toArray, List.set_cons_zero, List.set_cons_succ]
        refine wpAnyH_take (i := 21) (v := ?v21) rfl (by kernel_rfl) (by kernel_rfl) (by kernel_rfl) (fun _ _ _ h => h) (Or.inl ⟨by rfl, ?hy21⟩) (by assumption) ?rest22
        case hy21 => ((intro w hSw; (try dsimp only at hSw); go_simp) <;> with_reducible rfl)
        case rest22 =>
        try simp only [Act.put, List.getElem_toArray, List.getElem_cons_zero, List.getElem_cons_succ, List.setIfInBounds_toArray, List.set_cons_zero, List.set_cons_succ]
        refine wpAnyH_take (i := 22) (v := ?v22) rfl (by kernel_rfl) (by kernel_rfl) (by kernel_rfl) (fun _ _ _ h => h) (Or.inl ⟨by rfl, ?hy22⟩) (by assumption) ?rest23
        case hy22 => ((intro w hSw; (try dsimp only at hSw); go_simp) <;> with_reducible rfl)
        case rest23 =>
        try simp only [Act.put, List.getElem_toArray, List.getElem_cons_zero, List.getElem_cons_succ, List.setIfInBounds_toArray, List.set_cons_zero, List.set_cons_succ]
        refine wpAnyH_take (i := 23) (v := undef) rfl (by kernel_rfl) (by kernel_rfl) (by kernel_rfl) (fun _ _ _ h => h) (Or.inr ⟨by kernel_rfl, rfl⟩) (by assumption) ?_
        try simp only [Act.put, List.getElem_toArray, List.getElem_cons_zero, List.getElem_cons_succ, List.setIfInBounds_toArray, List.set_cons_zero, List.set_cons_succ]
        refine wpAnyH_take (i := 24) (v := undef) rfl (by kernel_rfl) (by kernel_rfl) (by kernel_rfl) (fun _ _ _ h => h) (Or.inr ⟨by kernel_rfl, rfl⟩) (by assumption) ?_
        try simp only [Act.put, List.getElem_toArray, List.getElem_cons_zero, List.getElem_cons_succ, List.setIfInBounds_toArray, List.set_cons_zero, List.set_cons_succ]
        refine wpAnyH_take (i := 25) (v := undef) rfl (by kernel_rfl) (by kernel_rfl) (by kernel_rfl) (fun _ _ _ h => h) (Or.inr ⟨by kernel_rfl, rfl⟩) (by assumption) ?_
        try simp only [Act.put, List.getElem_toArray, List.getElem_cons_zero, List.getElem_cons_succ, List.setIfInBounds_toArray, List.set_cons_zero, List.set_cons_succ]
        refine wpAnyH_take (i := 26) (v := undef) rfl (by kernel_rfl) (by kernel_rfl) (by kernel_rfl) (fun _ _ _ h => h) (Or.inr ⟨by kernel_rfl, rfl⟩) (by assumption) ?_
        try simp only [Act.put, List.getElem_toArray, List.getElem_cons_zero, List.getElem_cons_succ, List.setIfInBounds_toArray, List.set_cons_zero, List.set_cons_succ]
        refine wpAnyH_take (i := 27) (v := undef) rfl (by kernel_rfl) (by kernel_rfl) (by kernel_rfl) (fun _ _ _ h => h) (Or.inr ⟨by kernel_rfl, rfl⟩) (by assumption) ?_
        try simp only [Act.put, List.getElem_toArray, List.getElem_cons_zero, List.getElem_cons_succ, List.setIfInBounds_toArray, List.set_cons_zero, List.set_cons_succ]
        refine wpAnyH_take (i := 28) (v := ?v28) rfl (by kernel_rfl) (by kernel_rfl) (by kernel_rfl) (fun _ _ _ h => h) (Or.inl ⟨by rfl, ?hy28⟩) (by assumption) ?rest29
        case hy28 => ((intro w hSw; (try dsimp only at hSw); go_simp) <;> with_reducible rfl)
        case rest29 =>
        try simp only [Act.put, List.getElem_toArray, List.getElem_cons_zero, List.getElem_cons_succ, List.setIfInBounds_toArray, List.set_cons_zero, List.set_cons_succ]
        refine wpAnyH_take (i := 29) (v := ?v29) rfl (by kernel_rfl) (by kernel_rfl) (by kernel_rfl) (fun _ _ _ h => h) (Or.inl ⟨by rfl, ?hy29⟩) (by assumption) ?rest30
        case hy29 => ((intro w hSw; (try dsimp only at hSw); go_simp) <;> with_reducible rfl)
        case rest30 =>
        try simp only [Act.put, List.getElem_toArray, List.getElem_cons_zero, List.getElem_cons_succ, List.setIfInBounds_toArray, List.set_cons_zero, List.set_cons_succ]
        refine wpAnyH_take (i := 30) (v := ?v30) rfl (by kernel_rfl) (by kernel_rfl) (by kernel_rfl) (fun _ _ _ h => h) (Or.inl ⟨by rfl, ?hy30⟩) (by assumption) ?rest31
        case hy30 => ((intro w hSw; (try dsimp only at hSw); go_simp) <;> with_reducible rfl)
        case rest31 =>
        try simp only [Act.put, List.getElem_toArray, List.getElem_cons_zero, List.getElem_cons_succ, List.setIfInBounds_toArray, List.set_cons_zero, List.set_cons_succ]
        refine wpAnyH_done (by kernel_rfl) ?_ _
        go_wp2
        go_ret
        exact ⟨rfl, punhide HBW _ hS⟩
  | true =>
    obtain rfl : q2 = true := im2 rfl
    obtain ⟨v0, v1, v2, v3, v4, v5, v6, v7, v8⟩ : _ ∧ _ ∧ _ ∧ _ ∧ _ ∧ _ ∧ _ ∧ _ ∧ _ := ⟨(punhide HXA _ hB).cell 0, (punhide HXA _ hB).cell 1, (punhide HXA _ hB).cell 2, (punhide HXA _ hB).cell 3, (punhide HXA _ hB).cell 4, (punhide HXA _ hB).cell 5, (punhide HXA _ hB).cell 6, (punhide HXA _ hB).cell 7, (punhide HXA _ hB).cell 8⟩
    go_wp2_with fail
    refine (punhide HH1 _ hB).mono ?_
    rintro e9 w10 ⟨rfl, bb⟩
    clear v0 v1 v2 v3 v4 v5 v6 v7 v8
    replace hB := below_next hB bb
    clear bb
    obtain ⟨v0, v1, v2, v3, v4, v5, v6, v7, v8⟩ : _ ∧ _ ∧ _ ∧ _ ∧ _ ∧ _ ∧ _ ∧ _ ∧ _ := ⟨(punhide HXX _ hB).cell 0, (punhide HXX _ hB).cell 1, (punhide HXX _ hB).cell 2, (punhide HXX _ hB).cell 3, (punhide HXX _ hB).cell 4, (punhide HXX _ hB).cell 5, (punhide HXX _ hB).cell 6, (punhide HXX _ hB).cell 7, (punhide HXX _ hB).cell 8⟩
    go_wp2_with fail
    refine (punhide HH2 _ hB).mono ?_
    rintro e9 w11 ⟨rfl, bb⟩
    clear v0 v1 v2 v3 v4 v5 v6 v7 v8
    replace hB := below_next hB bb
    clear bb
    obtain ⟨v0, v1, v2, v3, v4, v5, v6, v7, v8⟩ : _ ∧ _ ∧ _ ∧ _ ∧ _ ∧ _ ∧ _ ∧ _ ∧ _ := ⟨(punhide HXA _ hB).cell 0, (punhide HXA _ hB).cell 1, (punhide HXA _ hB).cell 2, (punhide HXA _ hB).cell 3, (punhide HXA _ hB).cell 4, (punhide HXA _ hB).cell 5, (punhide HXA _ hB).cell 6, (punhide HXA _ hB).cell 7, (punhide HXA _ hB).cell 8⟩
    obtain ⟨u0, u1, u2, u3, u4, u5, u6, u7, u8⟩ : _ ∧ _ ∧ _ ∧ _ ∧ _ ∧ _ ∧ _ ∧ _ ∧ _ := ⟨(punhide HXB _ hB).cell 0, (punhide HXB _ hB).cell 1, (punhide HXB _ hB).cell 2, (punhide HXB _ hB).cell 3, (punhide HXB _ hB).cell 4, (punhide HXB _ hB).cell 5, (punhide HXB _ hB).cell 6, (punhide HXB _ hB).cell 7, (punhide HXB _ hB).cell 8⟩
    go_wp2_with fail
    refine (punhide HA1 _ hB).mono ?_
    rintro e9 w12 ⟨rfl, bb⟩
    clear v0 v1 v2 v3 v4 v5 v6 v7 v8
    clear u0 u1 u2 u3 u4 u5 u6 u7 u8
    replace hB := below_next hB bb
    clear bb
    clear HH1 HH2 HA1 HXA HXB HXX HXY
    cases q3 with
    | false =>
      obtain ⟨cm, x0, x1, x2, x3, x4, x5, x6, x7, x8, y0, y1, y2, y3, y4, y5, y6, y7, y8⟩ := punhide HS _ hB
      go_wp2_with fail
      go_quiet (fail)
      all_goals
        go_wp2_with fail
        go_ret
        exact ⟨rfl, punhide HBW _ (by first | exact hB | exact below_drewN' hB)⟩
    | true =>
      obtain rfl : q4 = true := im4 rfl
      obtain rfl : N1 = N2 := im5 rfl
      clear im2 im4 im5
      by_cases hm : ha.m = 0
      · have hmf : ((ha.m : Int) != 0) = false := by rw [hm]; rfl
        obtain ⟨cm, x0, x1, x2, x3, x4, x5, x6, x7, x8, y0, y1, y2, y3, y4, y5, y6, y7, y8⟩ := punhide HS _ hB
        have HB0 := phide hB
        clear hm hB
        go_upto_region 8 with fail
        have hS := (punhide HB0).drew
        go_region_held3 (fun W => W.cell? ⟨w2.heap.size, 1, none⟩ = some (.int .u64 (ha.m : Int)) ∧ W.cell? ⟨w6.heap.size, 0, none⟩ = some (.int .i64 hx.k) ∧ W.cell? ⟨w6.heap.size, 1, none⟩ = some (.int .u64 (hx.m : Int)) ∧ W.cell? ⟨w6.heap.size, 2, none⟩ = some (.bool hx.ng) ∧ W.cell? ⟨w6.heap.size, 3, none⟩ = some (.string hx.dg) ∧ W.cell? ⟨w6.heap.size, 4, none⟩ = some (.int .i64 hx.sc) ∧ W.cell? ⟨w6.heap.size, 5, none⟩ = some (.string hx.tx) ∧ W.cell? ⟨w6.heap.size, 6, none⟩ = some (.slice kax knx kcx) ∧ W.cell? ⟨w6.heap.size, 7, none⟩ = some (.slice dax dnx dcx) ∧ W.cell? ⟨w6.heap.size, 8, none⟩ = some (.int .i64 hx.cd) ∧ W.cell? ⟨w8.heap.size, 0, none⟩ = some (.int .i64 hy.k) ∧ W.cell? ⟨w8.heap.size, 1, none⟩ = some (.int .u64 (hy.m : Int)) ∧ W.cell? ⟨w8.heap.size, 2, none⟩ = some (.bool hy.ng) ∧ W.cell? ⟨w8.heap.size, 3, none⟩ = some (.string hy.dg) ∧ W.cell? ⟨w8.heap.size, 4, none⟩ = some (.int .i64 hy.sc) ∧ W.cell? ⟨w8.heap.size, 5, none⟩ = some (.string hy.tx) ∧ W.cell? ⟨w8.heap.size, 6, none⟩ = some (.slice kay kny kcy) ∧ W.cell? ⟨w8.heap.size, 7, none⟩ = some (.slice day dny dcy) ∧ W.cell? ⟨w8.heap.size, 8, none⟩ = some (.int .i64 hy.cd)) (exact punhide HS _ hS)
          (first
            | (go_at_call 21; refine (punhide HA2 _ hS).mono ?_; rintro e u1 ⟨rfl, bn⟩; replace hS := hS.trans (bn.mono hS.size); clear bn)
            | (go_at_call_of 27 (Value.int IntKind.i64 hx.k); refine (punhide HHX _ hS).mono ?_; rintro e u2 ⟨rfl, bn⟩; replace hS := hS.trans (bn.mono hS.size); clear bn)
            | (go_at_call_of 27 (Value.int IntKind.i64 hy.k); refine (punhide HHY _ hS).mono ?_; rintro e u3 ⟨rfl, bn⟩; replace hS := hS.trans (bn.mono hS.size); clear bn))
        go_wp2
        go_ret
        exact ⟨rfl, punhide HBW _ hS⟩
      · have hmf : ((ha.m : Int) != 0) = true := bne_iff_ne.2 (by omega)
        obtain ⟨cm, x0, x1, x2, x3, x4, x5, x6, x7, x8, y0, y1, y2, y3, y4, y5, y6, y7, y8⟩ := punhide HS _ hB
        have HB0 := phide hB
        clear hm hB
        go_upto_region 8 with fail
        have hS := (punhide HB0).drew
        refine wp_region_held_drew (S := (fun W => W.cell? ⟨w2.heap.size, 1, none⟩ = some (.int .u64 (ha.m : Int)) ∧ W.cell? ⟨w6.heap.size, 0, none⟩ = some (.int .i64 hx.k) ∧ W.cell? ⟨w6.heap.size, 1, none⟩ = some (.int .u64 (hx.m : Int)) ∧ W.cell? ⟨w6.heap.size, 2, none⟩ = some (.bool hx.ng) ∧ W.cell? ⟨w6.heap.size, 3, none⟩ = some (.string hx.dg) ∧ W.cell? ⟨w6.heap.size, 4, none⟩ = some (.int .i64 hx.sc) ∧ W.cell? ⟨w6.heap.size, 5, none⟩ = some (.string hx.tx) ∧ W.cell? ⟨w6.heap.size, 6, none⟩ = some (.slice kax knx kcx) ∧ W.cell? ⟨w6.heap.size, 7, none⟩ = some (.slice dax dnx dcx) ∧ W.cell? ⟨w6.heap.size, 8, none⟩ = some (.int .i64 hx.cd) ∧ W.cell? ⟨w8.heap.size, 0, none⟩ = some (.int .i64 hy.k) ∧ W.cell? ⟨w8.heap.size, 1, none⟩ = some (.int .u64 (hy.m : Int)) ∧ W.cell? ⟨w8.heap.size, 2, none⟩ = some (.bool hy.ng) ∧ W.cell? ⟨w8.heap.size, 3, none⟩ = some (.string hy.dg) ∧ W.cell? ⟨w8.heap.size, 4, none⟩ = some (.int .i64 hy.sc) ∧ W.cell? ⟨w8.heap.size, 5, none⟩ = some (.string hy.tx) ∧ W.cell? ⟨w8.heap.size, 6, none⟩ = some (.slice kay kny kcy) ∧ W.cell? ⟨w8.heap.size, 7, none⟩ = some (.slice day dny dcy) ∧ W.cell? ⟨w8.heap.size, 8, none⟩ = some (.int .i64 hy.cd))) (by kernel_rfl) ?hS0 (fun hHeld => ?rest0)
        case hS0 => first | (dsimp only; (exact punhide HS _ hS)) | (exact punhide HS _ hS)
        case rest0 =>
        refine wpAnyH_take (i := 0) (v := ?v0) rfl (by kernel_rfl) (by kernel_rfl) (by kernel_rfl) (fun _ _ _ h => h) (Or.inl ⟨by rfl, ?hy0⟩) (by assumption) ?rest1
        case hy0 => ((intro w hSw; (try dsimp only at hSw); go_simp) <;> with_reducible rfl)
        case rest1 =>
        try simp only [Act.put, List.getElem_toArray, List.getElem_cons_zero, List.getElem_cons_succ, List.setIfInBounds_toArray, List.set_cons_zero, List.set_cons_succ]
        refine wpAnyH_take (i := 1) (v := ?v1) rfl (by kernel_rfl) (by kernel_rfl) (by kernel_rfl) (fun _ _ _ h => h) (Or.inl ⟨by rfl, ?hy1⟩) (by assumption) ?rest2
        case hy1 => ((intro w hSw; (try dsimp only at hSw); go_simp) <;> with_reducible rfl)
        case rest2 =>
        try simp only [Act.put, List.getElem_toArray, List.getElem_cons_zero, List.getElem_cons_succ, List.setIfInBounds_toArray, List.set_cons_zero, List.set_cons_succ]
        refine wpAnyH_take (i := 2) (v := ?v2) rfl (by kernel_rfl) (by kernel_rfl) (by kernel_rfl) (fun _ _ _ h => h) (Or.inl ⟨by rfl, ?hy2⟩) (by assumption) ?rest3
        case hy2 => ((intro w hSw; (try dsimp only at hSw); go_simp) <;> with_reducible rfl)
        case rest3 =>
        try simp only [Act.put, List.getElem_toArray, List.getElem_cons_zero, List.getElem_cons_succ, List.setIfInBounds_toArray, List.set_cons_zero, List.set_cons_succ]
        refine wpAnyH_take (i := 3) (v := ?v3) rfl (by kernel_rfl) (by kernel_rfl) (by kernel_rfl) (fun _ _ _ h => h) (Or.inl ⟨by rfl, ?hy3⟩) (by assumption) ?rest4
        case hy3 => ((intro w hSw; (try dsimp only at hSw); go_simp) <;> with_reducible rfl)
        case rest4 =>
        try simp only [Act.put, List.getElem_toArray, List.getElem_cons_zero, List.getElem_cons_succ, List.setIfInBounds_toArray, List.set_cons_zero, List.set_cons_succ]
        refine wpAnyH_take (i := 4) (v := ?v4) rfl (by kernel_rfl) (by kernel_rfl) (by kernel_rfl) (fun _ _ _ h => h) (Or.inl ⟨by rfl, ?hy4⟩) (by assumption) ?rest5
        case hy4 => ((intro w hSw; (try dsimp only at hSw); go_simp) <;> with_reducible rfl)
        case rest5 =>
        try simp only [Act.put, List.getElem_toArray, List.getElem_cons_zero, List.getElem_cons_succ, List.setIfInBounds_toArray, List.set_cons_zero, List.set_cons_succ]
        refine wpAnyH_take (i := 5) (v := ?v5) rfl (by kernel_rfl) (by kernel_rfl) (by kernel_rfl) (fun _ _ _ h => h) (Or.inl ⟨by rfl, ?hy5⟩) (by assumption) ?rest6
        case hy5 => ((intro w hSw; (try dsimp only at hSw); go_simp) <;> with_reducible rfl)
        case rest6 =>
        try simp only [Act.put, List.getElem_toArray, List.getElem_cons_zero, List.getElem_cons_succ, List.setIfInBounds_toArray, List.set_cons_zero, List.set_cons_succ]
        refine wpAnyH_take (i := 6) (v := ?v6) rfl (by kernel_rfl) (by kernel_rfl) (by kernel_rfl) (fun _ _ _ h => h) (Or.inl ⟨by rfl, ?hy6⟩) (by assumption) ?rest7
        case hy6 => ((intro w hSw; (try dsimp only at hSw); go_simp) <;> with_reducible rfl)
        case rest7 =>
        try simp only [Act.put, List.getElem_toArray, List.getElem_cons_zero, List.getElem_cons_succ, List.setIfInBounds_toArray, List.set_cons_zero, List.set_cons_succ]
        refine wpAnyH_take (i := 7) (v := ?v7) rfl (by kernel_rfl) (by kernel_rfl) (by kernel_rfl) (fun _ _ _ h => h) (Or.inl ⟨by rfl, ?hy7⟩) (by assumption) ?rest8
        case hy7 => ((intro w hSw; (try dsimp only at hSw); go_simp) <;> with_reducible rfl)
        case rest8 =>
        try simp only [Act.put, List.getElem_toArray, List.getElem_cons_zero, List.getElem_cons_succ, List.setIfInBounds_toArray, List.set_cons_zero, List.set_cons_succ]
        refine wpAnyH_take (i := 8) (v := ?v8) rfl (by kernel_rfl) (by kernel_rfl) (by kernel_rfl) (fun _ _ _ h => h) (Or.inl ⟨by rfl, ?hy8⟩) (by assumption) ?rest9
        case hy8 => ((intro w hSw; (try dsimp only at hSw); go_simp) <;> with_reducible rfl)
        case rest9 =>
        try simp only [Act.put, List.getElem_toArray, List.getElem_cons_zero, List.getElem_cons_succ, List.setIfInBounds_toArray, List.set_cons_zero, List.set_cons_succ]
        refine wpAnyH_take (i := 9) (v := ?v9) rfl (by kernel_rfl) (by kernel_rfl) (by kernel_rfl) (fun _ _ _ h => h) (Or.inl ⟨by rfl, ?hy9⟩) (by assumption) ?rest10
        case hy9 => ((intro w hSw; (try dsimp only at hSw); go_simp) <;> with_reducible rfl)
        case rest10 =>
        try simp only [Act.put, List.getElem_toArray, List.getElem_cons_zero, List.getElem_cons_succ, List.setIfInBounds_toArray, List.set_cons_zero, List.set_cons_succ]
        refine wpAnyH_take (i := 10) (v := ?v10) rfl (by kernel_rfl) (by kernel_rfl) (by kernel_rfl) (fun _ _ _ h => h) (Or.inl ⟨by rfl, ?hy10⟩) (by assumption) ?rest11
        case hy10 => ((intro w hSw; (try dsimp only at hSw); go_simp) <;> with_reducible rfl)
        case rest11 =>
        try simp only [Act.put, List.getElem_toArray, List.getElem_cons_zero, List.getElem_cons_succ, List.setIfInBounds_toArray, List.set_cons_zero, List.set_cons_succ]
        refine wpAnyH_ready (rs := [11]) (by kernel_rfl) (by simp) ?_
        refine AllReadyH.cons rfl (fun K hK => ?_) AllReadyH.nil
        go_simp
        (go_at_call 21; refine (punhide HA2 _ hS).mono ?_; rintro e u1 ⟨rfl, bn⟩; replace hS := hS.trans (bn.mono hS.size); clear bn)
        refine hK.out _ _ ?hS12 (fun hHeld2 => ?rest12)
        case hS12 => first | (dsimp only; (exact punhide HS _ hS)) | (exact punhide HS _ hS)
        case rest12 =>
        clear hK K hHeld
        try simp only [Act.put, List.getElem_toArray, List.getElem_cons_zero, List.getElem_cons_succ, List.setIfInBounds_toArray, List.set_cons_zero, List.set_cons_succ]
        refine wpAnyH_take (i := 12) (v := ?v12) rfl (by kernel_rfl) (by kernel_rfl) (by kernel_rfl) (fun _ _ _ h => h) (Or.inl ⟨by rfl, ?hy12⟩) (by assumption) ?rest13
        case hy12 => ((intro w hSw; (try dsimp only at hSw); go_simp) <;> with_reducible rfl)
        case rest13 =>
        try simp only [Act.put, List.getElem_toArray, List.getElem_cons_zero, List.getElem_cons_succ, List.setIfInBounds_toArray, List.set_cons_zero, List.set_cons_succ]
        refine wpAnyH_take (i := 13) (v := ?v13) rfl (by kernel_rfl) (by kernel_rfl) (by kernel_rfl) (fun _ _ _ h => h) (Or.inl ⟨by rfl, ?hy13⟩) (by assumption) ?rest14
        case hy13 => ((intro w hSw; (try dsimp only at hSw); go_simp) <;> with_reducible rfl)
        case rest14 =>
        try simp only [Act.put, List.getElem_toArray, List.getElem_cons_zero, List.getElem_cons_succ, List.setIfInBounds_toArray, List.set_cons_zero, List.set_cons_succ]
        refine wpAnyH_take (i := 14) (v := ?v14) rfl (by kernel_rfl) (by kernel_rfl) (by kernel_rfl) (fun _ _ _ h => h) (Or.inl ⟨by rfl, ?hy14⟩) (by assumption) ?rest15
        case hy14 => ((intro w hSw; (try dsimp only at hSw); go_simp) <;> with_reducible rfl)
        case rest15 =>
        try simp only [Act.put, List.getElem_toArray, List.getElem_cons_zero, List.getElem_cons_succ, List.setIfInBounds_toArray, List.set_cons_zero, List.set_cons_succ]
        refine wpAnyH_take (i := 15) (v := ?v15) rfl (by kernel_rfl) (by kernel_rfl) (by kernel_rfl) (fun _ _ _ h => h) (Or.inl ⟨by rfl, ?hy15⟩) (by assumption) ?rest16
        case hy15 => ((intro w hSw; (try dsimp only at hSw); go_simp) <;> with_reducible rfl)
        case rest16 =>
        try simp only [Act.put, List.getElem_toArray, List.getElem_cons_zero, List.getElem_cons_succ, List.setIfInBounds_toArray, List.set_cons_zero, List.set_cons_succ]
        refine wpAnyH_take (i := 16) (v := ?v16) rfl (by kernel_rfl) (by kernel_rfl) (by kernel_rfl) (fun _ _ _ h => h) (Or.inl ⟨by rfl, ?hy16⟩) (by assumption) ?rest17
        case hy16 => ((intro w hSw; (try dsimp only at hSw); go_simp) <;> with_reducible rfl)
        case rest17 =>
        try simp only [Act.put, List.getElem_toArray, List.getElem_cons_zero, List.getElem_cons_succ, List.setIfInBounds_toArray, List.set_cons_zero, List.set_cons_succ]
        refine wpAnyH_take (i := 17) (v := ?v17) rfl (by kernel_rfl) (by kernel_rfl) (by kernel_rfl) (fun _ _ _ h => h) (Or.inl ⟨by rfl, ?hy17⟩) (by assumption) ?rest18
        case hy17 => ((intro w hSw; (try dsimp only at hSw); go_simp) <;> with_reducible rfl)
        case rest18 =>
        try simp only [Act.put, List.getElem_toArray, List.getElem_cons_zero, List.getElem_cons_succ, List.setIfInBounds_toArray, List.set_cons_zero, List.set_cons_succ]
        refine wpAnyH_take (i := 18) (v := ?v18) rfl (by kernel_rfl) (by kernel_rfl) (by kernel_rfl) (fun _ _ _ h => h) (Or.inl ⟨by rfl, ?hy18⟩) (by assumption) ?rest19
        case hy18 => ((intro w hSw; (try dsimp only at hSw); go_simp) <;> with_reducible rfl)
        case rest19 =>
        try simp only [Act.put, List.getElem_toArray, List.getElem_cons_zero, List.getElem_cons_succ, List.setIfInBounds_toArray, List.set_cons_zero, List.set_cons_succ]
        refine wpAnyH_take (i := 19) (v := ?v19) rfl (by kernel_rfl) (by kernel_rfl) (by kernel_rfl) (fun _ _ _ h => h) (Or.inl ⟨by rfl, ?hy19⟩) (by assumption) ?rest20
        case hy19 => ((intro w hSw; (try dsimp only at hSw); go_simp) <;> with_reducible rfl)
        case rest20 =>
        try simp only [Act.put, List.getElem_toArray, List.getElem_cons_zero, List.getElem_cons_succ, List.setIfInBounds_toArray, List.set_cons_zero, List.set_cons_succ]
        refine wpAnyH_take (i := 20) (v := ?v20) rfl (by kernel_rfl) (by kernel_rfl) (by kernel_rfl) (fun _ _ _ h => h) (Or.inl ⟨by rfl, ?hy20⟩) (by assumption) ?rest21
        case hy20 => ((intro w hSw; (try dsimp only at hSw); go_simp) <;> with_reducible rfl)
        case rest21 =>
        try simp only [Act.put, List.getElem_toArray, List.getElem_cons_zero, List.getElem_cons_succ, List.setIfInBounds_toArray, List.set_cons_zero, List.set_cons_succ]
        refine wpAnyH_take (i := 21) (v := ?v21) rfl (by kernel_rfl) (by kernel_rfl) (by kernel_rfl) (fun _ _ _ h => h) (Or.inl ⟨by rfl, ?hy21⟩) (by assumption) ?rest22
        case hy21 => ((intro w hSw; (try dsimp only at hSw); go_simp) <;> with_reducible rfl)
        case rest22 =>
        try simp only [Act.put, List.getElem_toArray, List.getElem_cons_zero, List.getElem_cons_succ, List.setIfInBounds_toArray, List.set_cons_zero, List.set_cons_succ]
        refine wpAnyH_take (i := 22) (v := ?v22) rfl (by kernel_rfl) (by kernel_rfl) (by kernel_rfl) (fun _ _ _ h => h) (Or.inl ⟨by rfl, ?hy22⟩) (by assumption) ?rest23
        case hy22 => ((intro w hSw; (try dsimp only at hSw); go_simp) <;> with_reducible rfl)
        case rest23 =>
        try simp only [Act.put, List.getElem_toArray, List.getElem_cons_zero, List.getElem_cons_succ, List.setIfInBounds_toArray, List.set_cons_zero, List.set_cons_succ]
        refine wpAnyH_take (i := 23) (v := undef) rfl (by kernel_rfl) (by kernel_rfl) (by kernel_rfl) (fun _ _ _ h => h) (Or.inr ⟨by kernel_rfl, rfl⟩) (by assumption) ?_
        try simp only [Act.put, List.getElem_toArray, List.getElem_cons_zero, List.getElem_cons_succ, List.setIfInBounds_toArray, List.set_cons_zero, List.set_cons_succ]
        refine wpAnyH_take (i := 24) (v := undef) rfl (by kernel_rfl) (by kernel_rfl) (by kernel_rfl) (fun _ _ _ h => h) (Or.inr ⟨by kernel_rfl, rfl⟩) (by assumption) ?_
        try simp only [Act.put, List.getElem_toArray, List.getElem_cons_zero, List.getElem_cons_succ, List.setIfInBounds_toArray, List.set_cons_zero, List.set_cons_succ]
        refine wpAnyH_take (i := 25) (v := undef) rfl (by kernel_rfl) (by kernel_rfl) (by kernel_rfl) (fun _ _ _ h => h) (Or.inr ⟨by kernel_rfl, rfl⟩) (by assumption) ?_
        try simp only [Act.put, List.getElem_toArray, List.getElem_cons_zero, List.getElem_cons_succ, List.setIfInBounds_toArray, List.set_cons_zero, List.set_cons_succ]
        refine wpAnyH_take (i := 26) (v := undef) rfl (by kernel_rfl) (by kernel_rfl) (by kernel_rfl) (fun _ _ _ h => h) (Or.inr ⟨by kernel_rfl, rfl⟩) (by assumption) ?_
        try simp only [Act.put, List.getElem_toArray, List.getElem_cons_zero, List.getElem_cons_succ, List.setIfInBounds_toArray, List.set_cons_zero, List.set_cons_succ]
        refine wpAnyH_take (i := 27) (v := undef) rfl (by kernel_rfl) (by kernel_rfl) (by kernel_rfl) (fun _ _ _ h => h) (Or.inr ⟨by kernel_rfl, rfl⟩) (by assumption) ?_
        try simp only [Act.put, List.getElem_toArray, List.getElem_cons_zero, List.getElem_cons_succ, List.setIfInBounds_toArray, List.set_cons_zero, List.set_cons_succ]
        refine wpAnyH_take (i := 28) (v := ?v28) rfl (by kernel_rfl) (by kernel_rfl) (by kernel_rfl) (fun _ _ _ h => h) (Or.inl ⟨by rfl, ?hy28⟩) (by assumption) ?rest29
        case hy28 => ((intro w hSw; (try dsimp only at hSw); go_simp) <;> with_reducible rfl)
        case rest29 =>
        try simp only [Act.put, List.getElem_toArray, List.getElem_cons_zero, List.getElem_cons_succ, List.setIfInBounds_toArray, List.set_cons_zero, List.set_cons_succ]
        refine wpAnyH_take (i := 29) (v := ?v29) rfl (by kernel_rfl) (by kernel_rfl) (by kernel_rfl) (fun _ _ _ h => h) (Or.inl ⟨by rfl, ?hy29⟩) (by assumption) ?rest30
        case hy29 => ((intro w hSw; (try dsimp only at hSw); go_simp) <;> with_reducible rfl)
        case rest30 =>
        try simp only [Act.put, List.getElem_toArray, List.getElem_cons_zero, List.getElem_cons_succ, List.setIfInBounds_toArray, List.set_cons_zero, List.set_cons_succ]
        refine wpAnyH_take (i := 30) (v := ?v30) rfl (by kernel_rfl) (by kernel_rfl) (by kernel_rfl) (fun _ _ _ h => h) (Or.inl ⟨by rfl, ?hy30⟩) (by assumption) ?rest31
        case hy30 => ((intro w hSw; (try dsimp only at hSw); go_simp) <;> with_reducible rfl)
        case rest31 =>
        try simp only [Act.put, List.getElem_toArray, List.getElem_cons_zero, List.getElem_cons_succ, List.setIfInBounds_toArray, List.set_cons_zero, List.set_cons_succ]
        refine wpAnyH_done (by kernel_rfl) ?_ _
        go_wp2
        go_ret
        exact ⟨rfl, punhide HBW _ hS⟩
end Go.Proofs.YtppkknmgdahniaaDoor.Pol
