/- What is proved here: RedactAlike, walked; conditions: the rows of items lie, the table of powers of ten lies. Written by alike9_gen.py. -/
import Derived.Test.YtppkknmgdahniaaDoorZIa
import Derived.Test.YtppkknmgdahniaaDoorZIf
namespace Go.Proofs.YtppkknmgdahniaaDoor.Pol
set_option maxRecDepth 100000
open Go.RowKit Go.Proofs.YtppkknmgdahniaaDoor.Nc Go.Proofs.YtppkknmgdahniaaDoor.Np Go.Proofs.YtppkknmgdahniaaDoor.Nq
set_option maxRecDepth 100000
set_option linter.unusedVariables false
set_option linter.unusedSimpArgs false

set_option maxHeartbeats 8000000 in
theorem alike9 (a0 : Option Addr) (n0 c0 : Nat) (a1 : Option Addr) (n1 c1 cl : Nat) (w : World) (hn0 : n0 ≤ 140737488355328) (hit0 : ∀ i, i < n0 → i < 80 → ItemAt w a0 i) (hn1 : n1 ≤ 140737488355328) (hit1 : ∀ i, i < n1 → i < 80 → ItemAt w a1 i) (hcl : cl < 18446744073709551616) (hP : Pow w) :
    Calls Tryd.prog 4 #[.slice a0 n0 c0, .slice a1 n1 c1, .int .u64 (cl : Int)] w fun e w' => e = .returned (.bool true) ∧ Below w.heap.size w w' := by
  have HSH := phide (shown9_any w hP)
  have HP := phide hP
  have HBU : Hid (∀ W, Below w.heap.size w W → _) := phide (fun W hW => built_any a0 n0 c0 W hn0 (fun i h1 h2 => (hit0 i h1 h2).below hW))
  have HBV : Hid (∀ W, Below w.heap.size w W → _) := phide (fun W hW => built_any a1 n1 c1 W hn1 (fun i h1 h2 => (hit1 i h1 h2).below hW))
  clear hit0 hit1 hP
  go_enter Tryd.func4, Tryd.ntmps4
  go_wp2_with fail
  refine (punhide HSH).mono ?_
  rintro e9 w1 ⟨rfl, b1⟩
  go_wp2_with fail
  refine (punhide HBU _ b1).mono ?_
  rintro e9 w2 ⟨va, ta, rfl, hla, hga, hsza, b2⟩
  have b12 := below_next b1 b2
  obtain ⟨ha, kaa, kna, kca, daa, dna, dca, rfl⟩ := hla.shape
  obtain ⟨w3, e3, z3, g3, xa⟩ := alloc_facts w2 #[.int .i64 ha.k, .int .u64 (ha.m : Int), .bool ha.ng, .string ha.dg, .int .i64 ha.sc, .string ha.tx, .slice kaa kna kca, .slice daa dna dca, .int .i64 ha.cd] 31
  have b13 : Below w.heap.size w w3 := below_next b12 g3
  have hla3 := hla.any.below g3
  have HE := phide e3
  have HF3 := phide (And.intro b13 (And.intro hla3 xa))
  clear e3 z3 g3 xa b13 hla3 hla b12 b1 b2 HSH HBU
  go_upto_region 3 with fail
  rw [punhide HE]
  clear HE
  go_wp2_with fail
  refine (punhide HBV _ (punhide HF3).1).mono ?_
  rintro e9 w4 ⟨vb, tb, rfl, hlb, hgb, hszb, b4⟩
  obtain ⟨hb, kab, knb, kcb, dab, dnb, dcb, rfl⟩ := hlb.shape
  obtain ⟨w5, e5, z5, g5, xb⟩ := alloc_facts w4 #[.int .i64 hb.k, .int .u64 (hb.m : Int), .bool hb.ng, .string hb.dg, .int .i64 hb.sc, .string hb.tx, .slice kab knb kcb, .slice dab dnb dcb, .int .i64 hb.cd] 31
  obtain ⟨b13, hla3, xa⟩ := punhide HF3
  have b35 : Below w3.heap.size w3 w5 := below_next b4 g5
  have b15 : Below w.heap.size w w5 := below_next b13 b35
  have hla5 := hla3.below b35
  have hlb5 := hlb.any.below g5
  have xa5 := xa.below b35
  have HE := phide e5
  obtain ⟨q3, hq3⟩ : ∃ q, likeB (hidU cl) 100 ta tb = q := ⟨_, rfl⟩
  have hq4 : likeB (hidU cl) 100 tb ta = q3 := by rw [like_symm]; exact hq3
  obtain ⟨s1, hs1⟩ := txt_of (showL (hidU cl) [35] 100 ta)
  obtain ⟨s2, hs2⟩ := txt_of (showL (hidU cl) [35] 100 tb)
  have hlen : ∀ (t : Tr) (s : ByteArray), goodT 100 t → sizeT 100 t ≤ 80 → showL (hidU cl) [35] 100 t = s.data.toList → s.size ≤ 1000000000 := fun t s hg hsz hs => by
    have := show_len (hidU cl) [35] 100 t hg
    rw [hs, len_size] at this
    have h2 := Nat.mul_le_mul_left (1300 + [(35 : UInt8)].length) hsz
    simp only [List.length_cons, List.length_nil] at this h2
    omega
  have hv1 := hlen ta s1 hga hsza hs1
  have hv2 := hlen tb s2 hgb hszb hs2
  have him : q3 = true → s1 = s2 := fun h => by
    have := like_show (hidU cl) [35] 100 ta tb (by rw [hq3]; exact h)
    rw [hs1, hs2] at this
    exact ByteArray.ext (Array.toList_inj.1 this)
  have hPP : Hid (∀ W, Below w5.heap.size w5 W → Pow W) := phide (fun W hW => (punhide HP).next (below_next b15 hW))
  have HBW : Hid (∀ W, Below w5.heap.size w5 W → Below w.heap.size w W) := phide (fun W hW => below_next b15 hW)
  have HXA : Hid (∀ W, Below w5.heap.size w5 W → Bx W w2.heap.size #[.int .i64 ha.k, .int .u64 (ha.m : Int), .bool ha.ng, .string ha.dg, .int .i64 ha.sc, .string ha.tx, .slice kaa kna kca, .slice daa dna dca, .int .i64 ha.cd] 31) := phide (fun W hW => xa5.below hW)
  have HXB : Hid (∀ W, Below w5.heap.size w5 W → Bx W w4.heap.size #[.int .i64 hb.k, .int .u64 (hb.m : Int), .bool hb.ng, .string hb.dg, .int .i64 hb.sc, .string hb.tx, .slice kab knb kcb, .slice dab dnb dcb, .int .i64 hb.cd] 31) := phide (fun W hW => xb.below hW)
  have HA1 : Hid (∀ W, Below w5.heap.size w5 W → Calls Tryd.prog 21 #[.agg #[.int .i64 ha.k, .int .u64 (ha.m : Int), .bool ha.ng, .string ha.dg, .int .i64 ha.sc, .string ha.tx, .slice kaa kna kca, .slice daa dna dca, .int .i64 ha.cd], .agg #[.int .i64 hb.k, .int .u64 (hb.m : Int), .bool hb.ng, .string hb.dg, .int .i64 hb.sc, .string hb.tx, .slice kab knb kcb, .slice dab dnb dcb, .int .i64 hb.cd], .int .u64 (cl : Int)] W fun e w' => e = .returned (.bool q3) ∧ Below W.heap.size W w') := phide (fun W hW => alike_any _ _ cl hcl 100 _ _ ta tb q3 W hq3 (hla5.below hW) (hlb5.below hW) (good_ok 100 ta hga) (good_ok 100 tb hgb))
  have HA2 : Hid (∀ W, Below w5.heap.size w5 W → Calls Tryd.prog 21 #[.agg #[.int .i64 hb.k, .int .u64 (hb.m : Int), .bool hb.ng, .string hb.dg, .int .i64 hb.sc, .string hb.tx, .slice kab knb kcb, .slice dab dnb dcb, .int .i64 hb.cd], .agg #[.int .i64 ha.k, .int .u64 (ha.m : Int), .bool ha.ng, .string ha.dg, .int .i64 ha.sc, .string ha.tx, .slice kaa kna kca, .slice daa dna dca, .int .i64 ha.cd], .int .u64 (cl : Int)] W fun e w' => e = .returned (.bool q3) ∧ Below W.heap.size W w') := phide (fun W hW => alike_any _ _ cl hcl 100 _ _ tb ta q3 W hq4 (hlb5.below hW) (hla5.below hW) (good_ok 100 tb hgb) (good_ok 100 ta hga))
  have HA3 : Hid (∀ W, Below w5.heap.size w5 W → Calls Tryd.prog 21 #[.agg #[.int .i64 ha.k, .int .u64 (ha.m : Int), .bool ha.ng, .string ha.dg, .int .i64 ha.sc, .string ha.tx, .slice kaa kna kca, .slice daa dna dca, .int .i64 ha.cd], .agg #[.int .i64 ha.k, .int .u64 (ha.m : Int), .bool ha.ng, .string ha.dg, .int .i64 ha.sc, .string ha.tx, .slice kaa kna kca, .slice daa dna dca, .int .i64 ha.cd], .int .u64 (cl : Int)] W fun e w' => e = .returned (.bool true) ∧ Below W.heap.size W w') := phide (fun W hW => alike_any _ _ cl hcl 100 _ _ ta ta true W (like_self _ 100 ta) (hla5.below hW) (hla5.below hW) (good_ok 100 ta hga) (good_ok 100 ta hga))
  have HAR : Hid (∀ W, Below w5.heap.size w5 W → Calls Tryd.prog 22 #[.agg #[.int .i64 ha.k, .int .u64 (ha.m : Int), .bool ha.ng, .string ha.dg, .int .i64 ha.sc, .string ha.tx, .slice kaa kna kca, .slice daa dna dca, .int .i64 ha.cd], .agg #[.int .i64 hb.k, .int .u64 (hb.m : Int), .bool hb.ng, .string hb.dg, .int .i64 hb.sc, .string hb.tx, .slice kab knb kcb, .slice dab dnb dcb, .int .i64 hb.cd], .int .u64 (cl : Int)] W fun e w' => e = .returned (.bool q3) ∧ Below W.heap.size W w') := phide (fun W hW => ralike_any _ _ cl hcl 100 _ _ ta tb q3 W hq3 (hla5.below hW) (hlb5.below hW) (good_ok 100 ta hga) (good_ok 100 tb hgb))
  have HV1 : Hid (∀ W, Below w5.heap.size w5 W → Calls Tryd.prog 20 #[.agg #[.int .i64 ha.k, .int .u64 (ha.m : Int), .bool ha.ng, .string ha.dg, .int .i64 ha.sc, .string ha.tx, .slice kaa kna kca, .slice daa dna dca, .int .i64 ha.cd], .int .u64 (cl : Int)] W fun e w' => e = .returned (.string s1) ∧ Below W.heap.size W w') := phide (fun W hW => view_any _ 100 _ ta cl hcl s1 hs1 hv1 W (hla5.below hW) hga (punhide hPP W hW))
  have HV2 : Hid (∀ W, Below w5.heap.size w5 W → Calls Tryd.prog 20 #[.agg #[.int .i64 hb.k, .int .u64 (hb.m : Int), .bool hb.ng, .string hb.dg, .int .i64 hb.sc, .string hb.tx, .slice kab knb kcb, .slice dab dnb dcb, .int .i64 hb.cd], .int .u64 (cl : Int)] W fun e w' => e = .returned (.string s2) ∧ Below W.heap.size W w') := phide (fun W hW => view_any _ 100 _ tb cl hcl s2 hs2 hv2 W (hlb5.below hW) hgb (punhide hPP W hW))
  have HS : Hid (∀ W, Below w5.heap.size w5 W → (W.cell? ⟨w2.heap.size, 0, none⟩ = some (.int .i64 ha.k) ∧ W.cell? ⟨w2.heap.size, 1, none⟩ = some (.int .u64 (ha.m : Int)) ∧ W.cell? ⟨w2.heap.size, 2, none⟩ = some (.bool ha.ng) ∧ W.cell? ⟨w2.heap.size, 3, none⟩ = some (.string ha.dg) ∧ W.cell? ⟨w2.heap.size, 4, none⟩ = some (.int .i64 ha.sc) ∧ W.cell? ⟨w2.heap.size, 5, none⟩ = some (.string ha.tx) ∧ W.cell? ⟨w2.heap.size, 6, none⟩ = some (.slice kaa kna kca) ∧ W.cell? ⟨w2.heap.size, 7, none⟩ = some (.slice daa dna dca) ∧ W.cell? ⟨w2.heap.size, 8, none⟩ = some (.int .i64 ha.cd) ∧ W.cell? ⟨w4.heap.size, 0, none⟩ = some (.int .i64 hb.k) ∧ W.cell? ⟨w4.heap.size, 1, none⟩ = some (.int .u64 (hb.m : Int)) ∧ W.cell? ⟨w4.heap.size, 2, none⟩ = some (.bool hb.ng) ∧ W.cell? ⟨w4.heap.size, 3, none⟩ = some (.string hb.dg) ∧ W.cell? ⟨w4.heap.size, 4, none⟩ = some (.int .i64 hb.sc) ∧ W.cell? ⟨w4.heap.size, 5, none⟩ = some (.string hb.tx) ∧ W.cell? ⟨w4.heap.size, 6, none⟩ = some (.slice kab knb kcb) ∧ W.cell? ⟨w4.heap.size, 7, none⟩ = some (.slice dab dnb dcb) ∧ W.cell? ⟨w4.heap.size, 8, none⟩ = some (.int .i64 hb.cd))) := phide (fun W hW => ⟨(xa5.below hW).cell 0, (xa5.below hW).cell 1, (xa5.below hW).cell 2, (xa5.below hW).cell 3, (xa5.below hW).cell 4, (xa5.below hW).cell 5, (xa5.below hW).cell 6, (xa5.below hW).cell 7, (xa5.below hW).cell 8, (xb.below hW).cell 0, (xb.below hW).cell 1, (xb.below hW).cell 2, (xb.below hW).cell 3, (xb.below hW).cell 4, (xb.below hW).cell 5, (xb.below hW).cell 6, (xb.below hW).cell 7, (xb.below hW).cell 8⟩)
  have hB : Below w5.heap.size w5 w5 := Below.refl _ _
  clear e5 z5 g5 xb b13 hla3 xa b35 b15 hla5 hlb5 xa5 hlb b4 HBV HF3 hq3 hq4 hs1 hs2 hlen hv1 hv2 hga hgb hsza hszb HP hPP
  go_upto_region 4 with fail
  rw [punhide HE]
  clear HE
  obtain ⟨v0, v1, v2, v3, v4, v5, v6, v7, v8⟩ : _ ∧ _ ∧ _ ∧ _ ∧ _ ∧ _ ∧ _ ∧ _ ∧ _ := ⟨(punhide HXA _ hB).cell 0, (punhide HXA _ hB).cell 1, (punhide HXA _ hB).cell 2, (punhide HXA _ hB).cell 3, (punhide HXA _ hB).cell 4, (punhide HXA _ hB).cell 5, (punhide HXA _ hB).cell 6, (punhide HXA _ hB).cell 7, (punhide HXA _ hB).cell 8⟩
  obtain ⟨u0, u1, u2, u3, u4, u5, u6, u7, u8⟩ : _ ∧ _ ∧ _ ∧ _ ∧ _ ∧ _ ∧ _ ∧ _ ∧ _ := ⟨(punhide HXB _ hB).cell 0, (punhide HXB _ hB).cell 1, (punhide HXB _ hB).cell 2, (punhide HXB _ hB).cell 3, (punhide HXB _ hB).cell 4, (punhide HXB _ hB).cell 5, (punhide HXB _ hB).cell 6, (punhide HXB _ hB).cell 7, (punhide HXB _ hB).cell 8⟩
  go_wp2_with fail
  refine (punhide HA1 _ hB).mono ?_
  rintro e9 w6 ⟨rfl, bb⟩
  clear v0 v1 v2 v3 v4 v5 v6 v7 v8 u0 u1 u2 u3 u4 u5 u6 u7 u8
  replace hB := below_next hB bb
  clear bb
  obtain ⟨x0, x1, x2, x3, x4, x5, x6, x7, x8, y0, y1, y2, y3, y4, y5, y6, y7, y8⟩ := punhide HS _ hB
  have HB0 := phide hB
  clear hB HXA HXB
  cases q3 with
  | true =>
    obtain rfl : s1 = s2 := him rfl
    have hsb := beq_selfB s1
    clear him
    go_upto_region 5 with fail
    have hS := (punhide HB0).drew
    go_region_held3 (fun W => W.cell? ⟨w2.heap.size, 0, none⟩ = some (.int .i64 ha.k) ∧ W.cell? ⟨w2.heap.size, 1, none⟩ = some (.int .u64 (ha.m : Int)) ∧ W.cell? ⟨w2.heap.size, 2, none⟩ = some (.bool ha.ng) ∧ W.cell? ⟨w2.heap.size, 3, none⟩ = some (.string ha.dg) ∧ W.cell? ⟨w2.heap.size, 4, none⟩ = some (.int .i64 ha.sc) ∧ W.cell? ⟨w2.heap.size, 5, none⟩ = some (.string ha.tx) ∧ W.cell? ⟨w2.heap.size, 6, none⟩ = some (.slice kaa kna kca) ∧ W.cell? ⟨w2.heap.size, 7, none⟩ = some (.slice daa dna dca) ∧ W.cell? ⟨w2.heap.size, 8, none⟩ = some (.int .i64 ha.cd) ∧ W.cell? ⟨w4.heap.size, 0, none⟩ = some (.int .i64 hb.k) ∧ W.cell? ⟨w4.heap.size, 1, none⟩ = some (.int .u64 (hb.m : Int)) ∧ W.cell? ⟨w4.heap.size, 2, none⟩ = some (.bool hb.ng) ∧ W.cell? ⟨w4.heap.size, 3, none⟩ = some (.string hb.dg) ∧ W.cell? ⟨w4.heap.size, 4, none⟩ = some (.int .i64 hb.sc) ∧ W.cell? ⟨w4.heap.size, 5, none⟩ = some (.string hb.tx) ∧ W.cell? ⟨w4.heap.size, 6, none⟩ = some (.slice kab knb kcb) ∧ W.cell? ⟨w4.heap.size, 7, none⟩ = some (.slice dab dnb dcb) ∧ W.cell? ⟨w4.heap.size, 8, none⟩ = some (.int .i64 hb.cd)) (exact punhide HS _ hS)
      (first
        | (go_at_call 22; refine (punhide HAR _ hS).mono ?_; rintro e u1 ⟨rfl, bn⟩; replace hS := hS.trans (bn.mono hS.size); clear bn)
        | (go_at_call_of 20 (Value.int IntKind.i64 ha.k); refine (punhide HV1 _ hS).mono ?_; rintro e u2 ⟨rfl, bn⟩; replace hS := hS.trans (bn.mono hS.size); clear bn)
        | (go_at_call_of 20 (Value.int IntKind.i64 hb.k); refine (punhide HV2 _ hS).mono ?_; rintro e u3 ⟨rfl, bn⟩; replace hS := hS.trans (bn.mono hS.size); clear bn)
        | (go_at_call_of 21 (Value.int IntKind.i64 hb.k); refine (punhide HA2 _ hS).mono ?_; rintro e u4 ⟨rfl, bn⟩; replace hS := hS.trans (bn.mono hS.size); clear bn)
        | (go_at_call_of 21 (Value.int IntKind.i64 ha.k); refine (punhide HA3 _ hS).mono ?_; rintro e u5 ⟨rfl, bn⟩; replace hS := hS.trans (bn.mono hS.size); clear bn))
    go_wp2
    go_ret
    exact ⟨rfl, punhide HBW _ hS⟩
  | false =>
    clear him HV1 HV2
    go_upto_region 5 with fail
    have hS := (punhide HB0).drew
    refine wp_region_held_drew (S := (fun W => W.cell? ⟨w2.heap.size, 0, none⟩ = some (.int .i64 ha.k) ∧ W.cell? ⟨w2.heap.size, 1, none⟩ = some (.int .u64 (ha.m : Int)) ∧ W.cell? ⟨w2.heap.size, 2, none⟩ = some (.bool ha.ng) ∧ W.cell? ⟨w2.heap.size, 3, none⟩ = some (.string ha.dg) ∧ W.cell? ⟨w2.heap.size, 4, none⟩ = some (.int .i64 ha.sc) ∧ W.cell? ⟨w2.heap.size, 5, none⟩ = some (.string ha.tx) ∧ W.cell? ⟨w2.heap.size, 6, none⟩ = some (.slice kaa kna kca) ∧ W.cell? ⟨w2.heap.size, 7, none⟩ = some (.slice daa dna dca) ∧ W.cell? ⟨w2.heap.size, 8, none⟩ = some (.int .i64 ha.cd) ∧ W.cell? ⟨w4.heap.size, 0, none⟩ = some (.int .i64 hb.k) ∧ W.cell? ⟨w4.heap.size, 1, none⟩ = some (.int .u64 (hb.m : Int)) ∧ W.cell? ⟨w4.heap.size, 2, none⟩ = some (.bool hb.ng) ∧ W.cell? ⟨w4.heap.size, 3, none⟩ = some (.string hb.dg) ∧ W.cell? ⟨w4.heap.size, 4, none⟩ = some (.int .i64 hb.sc) ∧ W.cell? ⟨w4.heap.size, 5, none⟩ = some (.string hb.tx) ∧ W.cell? ⟨w4.heap.size, 6, none⟩ = some (.slice kab knb kcb) ∧ W.cell? ⟨w4.heap.size, 7, none⟩ = some (.slice dab dnb dcb) ∧ W.cell? ⟨w4.heap.size, 8, none⟩ = some (.int .i64 hb.cd))) (by kernel_rfl) ?hS0 (fun hHeld => ?rest0)
    case hS0 => first | (dsimp only; (exact punhide HS _ hS)) | (exact punhide HS _ hS)
    case rest0 =>
    refine wpAnyH_take (i := 0) (v := ?v0) rfl (by kernel_rfl) (by kernel_rfl) (by kernel_rfl) (fun _ _ _ h => h) (Or.inl ⟨by rfl, ?hy0⟩) (by assumption) ?rest1
    case hy0 => ((intro w hSw; (try dsimp only at hSw); go_simp) <;> with_reducible rfl)
    case rest1 =>
    try simp only [Act.put, List.getElem_toArray, List.getElem_cons_zero, List.getElem_cons_succ, List.setIfInBounds_toArray, List.set_cons_zero, List.set_cons_succ]
    refine wpAnyH_take (i := 1) (v := ?v1) rfl (by kernel_rfl) (by kernel_rfl) (by kernel_rfl) (fun _ _ _ h => h) (Or.inl ⟨by rfl, ?hy1⟩) (by assumption) ?rest2
    case hy1 => ((intro w hSw; (try dsimp only at hSw); go_simp) <;> with_reducible rfl)
    case rest2 =>
    try simp only [Act.put, List.getElem_toArray, List.getElem_cons_zero, List.getElem_cons_succ, List.setIfInBounds_toArray, List.set_cons_zero, List.set_cons_succ]
    refine wpAnyH_take (i := 2) (v := ?v2) rfl (by kernel_rfl) (by kernel_rfl) (by kernel_rfl) (fun _ _ _ h => h) (Or.inl ⟨by rfl, ?hy2⟩) (by assumption) ?rest3
    case hy2 => ((intro w hSw; (try dsimp only at hSw); go_simp) <;> with_reducible rfl)
    case rest3 =>
    try simp only [Act.put, List.getElem_toArray, List.getElem_cons_zero, List.getElem_cons_succ, List.setIfInBounds_toArray, List.set_cons_zero, List.set_cons_succ]
    refine wpAnyH_take (i := 3) (v := ?v3) rfl (by kernel_rfl) (by kernel_rfl) (by kernel_rfl) (fun _ _ _ h => h) (Or.inl ⟨by rfl, ?hy3⟩) (by assumption) ?rest4
    case hy3 => ((intro w hSw; (try dsimp only at hSw); go_simp) <;> with_reducible rfl)
    case rest4 =>
    try simp only [Act.put, List.getElem_toArray, List.getElem_cons_zero, List.getElem_cons_succ, List.setIfInBounds_toArray, List.set_cons_zero, List.set_cons_succ]
    refine wpAnyH_take (i := 4) (v := ?v4) rfl (by kernel_rfl) (by kernel_rfl) (by kernel_rfl) (fun _ _ _ h => h) (Or.inl ⟨by rfl, ?hy4⟩) (by assumption) ?rest5
    case hy4 => ((intro w hSw; (try dsimp only at hSw); go_simp) <;> with_reducible rfl)
    case rest5 =>
    try simp only [Act.put, List.getElem_toArray, List.getElem_cons_zero, List.getElem_cons_succ, List.setIfInBounds_toArray, List.set_cons_zero, List.set_cons_succ]
    refine wpAnyH_take (i := 5) (v := ?v5) rfl (by kernel_rfl) (by kernel_rfl) (by kernel_rfl) (fun _ _ _ h => h) (Or.inl ⟨by rfl, ?hy5⟩) (by assumption) ?rest6
    case hy5 => ((intro w hSw; (try dsimp only at hSw); go_simp) <;> with_reducible rfl)
    case rest6 =>
    try simp only [Act.put, List.getElem_toArray, List.getElem_cons_zero, List.getElem_cons_succ, List.setIfInBounds_toArray, List.set_cons_zero, List.set_cons_succ]
    refine wpAnyH_ready (rs := [6]) (by kernel_rfl) (by simp) ?_
    refine AllReadyH.cons rfl (fun K hK => ?_) AllReadyH.nil
    go_simp
    (go_at_call 22; refine (punhide HAR _ hS).mono ?_; rintro e u1 ⟨rfl, bn⟩; replace hS := hS.trans (bn.mono hS.size); clear bn)
    refine hK.out _ _ ?hS7 (fun hHeld7 => ?rest7)
    case hS7 => first | (dsimp only; (exact punhide HS _ hS)) | (exact punhide HS _ hS)
    case rest7 =>
    clear hK K hHeld
    try simp only [Act.put, List.getElem_toArray, List.getElem_cons_zero, List.getElem_cons_succ, List.setIfInBounds_toArray, List.set_cons_zero, List.set_cons_succ]
    refine wpAnyH_take (i := 7) (v := ?v7) rfl (by kernel_rfl) (by kernel_rfl) (by kernel_rfl) (fun _ _ _ h => h) (Or.inl ⟨by rfl, ?hy7⟩) (by assumption) ?rest8
    case hy7 => ((intro w hSw; (try dsimp only at hSw); go_simp) <;> with_reducible rfl)
    case rest8 =>
    try simp only [Act.put, List.getElem_toArray, List.getElem_cons_zero, List.getElem_cons_succ, List.setIfInBounds_toArray, List.set_cons_zero, List.set_cons_succ]
    refine wpAnyH_take (i := 8) (v := ?v8) rfl (by kernel_rfl) (by kernel_rfl) (by kernel_rfl) (fun _ _ _ h => h) (Or.inl ⟨by rfl, ?hy8⟩) (by assumption) ?rest9
    case hy8 => ((intro w hSw; (try dsimp only at hSw); go_simp) <;> with_reducible rfl)
    case rest9 =>
    try simp only [Act.put, List.getElem_toArray, List.getElem_cons_zero, List.getElem_cons_succ, List.setIfInBounds_toArray, List.set_cons_zero, List.set_cons_succ]
    refine wpAnyH_take (i := 9) (v := ?v9) rfl (by kernel_rfl) (by kernel_rfl) (by kernel_rfl) (fun _ _ _ h => h) (Or.inl ⟨by rfl, ?hy9⟩) (by assumption) ?rest10
    case hy9 => ((intro w hSw; (try dsimp only at hSw); go_simp) <;> with_reducible rfl)
    case rest10 =>
    try simp only [Act.put, List.getElem_toArray, List.getElem_cons_zero, List.getElem_cons_succ, List.setIfInBounds_toArray, List.set_cons_zero, List.set_cons_succ]
    refine wpAnyH_take (i := 10) (v := ?v10) rfl (by kernel_rfl) (by kernel_rfl) (by kernel_rfl) (fun _ _ _ h => h) (Or.inl ⟨by rfl, ?hy10⟩) (by assumption) ?rest11
    case hy10 => ((intro w hSw; (try dsimp only at hSw); go_simp) <;> with_reducible rfl)
    case rest11 =>
    try simp only [Act.put, List.getElem_toArray, List.getElem_cons_zero, List.getElem_cons_succ, List.setIfInBounds_toArray, List.set_cons_zero, List.set_cons_succ]
    refine wpAnyH_take (i := 11) (v := ?v11) rfl (by kernel_rfl) (by kernel_rfl) (by kernel_rfl) (fun _ _ _ h => h) (Or.inl ⟨by rfl, ?hy11⟩) (by assumption) ?rest12
    case hy11 => ((intro w hSw; (try dsimp only at hSw); go_simp) <;> with_reducible rfl)
    case rest12 =>
    try simp only [Act.put, List.getElem_toArray, List.getElem_cons_zero, List.getElem_cons_succ, List.setIfInBounds_toArray, List.set_cons_zero, List.set_cons_succ]
    refine wpAnyH_take (i := 12) (v := ?v12) rfl (by kernel_rfl) (by kernel_rfl) (by kernel_rfl) (fun _ _ _ h => h) (Or.inl ⟨by rfl, ?hy12⟩) (by assumption) ?rest13
    case hy12 => ((intro w hSw; (try dsimp only at hSw); go_simp) <;> with_reducible rfl)
    case rest13 =>
    try simp only [Act.put, List.getElem_toArray, List.getElem_cons_zero, List.getElem_cons_succ, List.setIfInBounds_toArray, List.set_cons_zero, List.set_cons_succ]
    refine wpAnyH_take (i := 13) (v := undef) rfl (by kernel_rfl) (by kernel_rfl) (by kernel_rfl) (fun _ _ _ h => h) (Or.inr ⟨by kernel_rfl, rfl⟩) (by assumption) ?_
    try simp only [Act.put, List.getElem_toArray, List.getElem_cons_zero, List.getElem_cons_succ, List.setIfInBounds_toArray, List.set_cons_zero, List.set_cons_succ]
    refine wpAnyH_take (i := 14) (v := undef) rfl (by kernel_rfl) (by kernel_rfl) (by kernel_rfl) (fun _ _ _ h => h) (Or.inr ⟨by kernel_rfl, rfl⟩) (by assumption) ?_
    try simp only [Act.put, List.getElem_toArray, List.getElem_cons_zero, List.getElem_cons_succ, List.setIfInBounds_toArray, List.set_cons_zero, List.set_cons_succ]
    refine wpAnyH_take (i := 15) (v := undef) rfl (by kernel_rfl) (by kernel_rfl) (by kernel_rfl) (fun _ _ _ h => h) (Or.inr ⟨by kernel_rfl, rfl⟩) (by assumption) ?_
    try simp only [Act.put, List.getElem_toArray, List.getElem_cons_zero, List.getElem_cons_succ, List.setIfInBounds_toArray, List.set_cons_zero, List.set_cons_succ]
    refine wpAnyH_take (i := 16) (v := undef) rfl (by kernel_rfl) (by kernel_rfl) (by kernel_rfl) (fun _ _ _ h => h) (Or.inr ⟨by kernel_rfl, rfl⟩) (by assumption) ?_
    try simp only [Act.put, List.getElem_toArray, List.getElem_cons_zero, List.getElem_cons_succ, List.setIfInBounds_toArray, List.set_cons_zero, List.set_cons_succ]
    refine wpAnyH_take (i := 17) (v := undef) rfl (by kernel_rfl) (by kernel_rfl) (by kernel_rfl) (fun _ _ _ h => h) (Or.inr ⟨by kernel_rfl, rfl⟩) (by assumption) ?_
    try simp only [Act.put, List.getElem_toArray, List.getElem_cons_zero, List.getElem_cons_succ, List.setIfInBounds_toArray, List.set_cons_zero, List.set_cons_succ]
    refine wpAnyH_take (i := 18) (v := undef) rfl (by kernel_rfl) (by kernel_rfl) (by kernel_rfl) (fun _ _ _ h => h) (Or.inr ⟨by kernel_rfl, rfl⟩) (by assumption) ?_
    try simp only [Act.put, List.getElem_toArray, List.getElem_cons_zero, List.getElem_cons_succ, List.setIfInBounds_toArray, List.set_cons_zero, List.set_cons_succ]
    refine wpAnyH_take (i := 19) (v := undef) rfl (by kernel_rfl) (by kernel_rfl) (by kernel_rfl) (fun _ _ _ h => h) (Or.inr ⟨by kernel_rfl, rfl⟩) (by assumption) ?_
    try simp only [Act.put, List.getElem_toArray, List.getElem_cons_zero, List.getElem_cons_succ, List.setIfInBounds_toArray, List.set_cons_zero, List.set_cons_succ]
    refine wpAnyH_take (i := 20) (v := ?v20) rfl (by kernel_rfl) (by kernel_rfl) (by kernel_rfl) (fun _ _ _ h => h) (Or.inl ⟨by rfl, ?hy20⟩) (by assumption) ?rest21
    case hy20 => ((intro w hSw; (try dsimp only at hSw); go_simp) <;> with_reducible rfl)
    case rest21 =>
    try simp only [Act.put, List.getElem_toArray, List.getElem_cons_zero, List.getElem_cons_succ, List.setIfInBounds_toArray, List.set_cons_zero, List.set_cons_succ]
    refine wpAnyH_take (i := 21) (v := ?v21) rfl (by kernel_rfl) (by kernel_rfl) (by kernel_rfl) (fun _ _ _ h => h) (Or.inl ⟨by rfl, ?hy21⟩) (by assumption) ?rest22
    case hy21 => ((intro w hSw; (try dsimp only at hSw); go_simp) <;> with_reducible rfl)
    case rest22 =>
    try simp only [Act.put, List.getElem_toArray, List.getElem_cons_zero, List.getElem_cons_succ, List.setIfInBounds_toArray, List.set_cons_zero, List.set_cons_succ]
    refine wpAnyH_take (i := 22) (v := ?v22) rfl (by kernel_rfl) (by kernel_rfl) (by kernel_rfl) (fun _ _ _ h => h) (Or.inl ⟨by rfl, ?hy22⟩) (by assumption) ?rest23
    case hy22 => ((intro w hSw; (try dsimp only at hSw); go_simp) <;> with_reducible rfl)
    case rest23 =>
    try simp only [Act.put, List.getElem_toArray, List.getElem_cons_zero, List.getElem_cons_succ, List.setIfInBounds_toArray, List.set_cons_zero, List.set_cons_succ]
    refine wpAnyH_take (i := 23) (v := ?v23) rfl (by kernel_rfl) (by kernel_rfl) (by kernel_rfl) (fun _ _ _ h => h) (Or.inl ⟨by rfl, ?hy23⟩) (by assumption) ?rest24
    case hy23 => ((intro w hSw; (try dsimp only at hSw); go_simp) <;> with_reducible rfl)
    case rest24 =>
    try simp only [Act.put, List.getElem_toArray, List.getElem_cons_zero, List.getElem_cons_succ, List.setIfInBounds_toArray, List.set_cons_zero, List.set_cons_succ]
    refine wpAnyH_take (i := 24) (v := ?v24) rfl (by kernel_rfl) (by kernel_rfl) (by kernel_rfl) (fun _ _ _ h => h) (Or.inl ⟨by rfl, ?hy24⟩) (by assumption) ?rest25
    case hy24 => ((intro w hSw; (try dsimp only at hSw); go_simp) <;> with_reducible rfl)
    case rest25 =>
    try simp only [Act.put, List.getElem_toArray, List.getElem_cons_zero, List.getElem_cons_succ, List.setIfInBounds_toArray, List.set_cons_zero, List.set_cons_succ]
    refine wpAnyH_take (i := 25) (v := ?v25) rfl (by kernel_rfl) (by kernel_rfl) (by kernel_rfl) (fun _ _ _ h => h) (Or.inl ⟨by rfl, ?hy25⟩) (by assumption) ?rest26
    case hy25 => ((intro w hSw; (try dsimp only at hSw); go_simp) <;> with_reducible rfl)
    case rest26 =>
    try simp only [Act.put, List.getElem_toArray, List.getElem_cons_zero, List.getElem_cons_succ, List.setIfInBounds_toArray, List.set_cons_zero, List.set_cons_succ]
    refine wpAnyH_take (i := 26) (v := ?v26) rfl (by kernel_rfl) (by kernel_rfl) (by kernel_rfl) (fun _ _ _ h => h) (Or.inl ⟨by rfl, ?hy26⟩) (by assumption) ?rest27
    case hy26 => ((intro w hSw; (try dsimp only at hSw); go_simp) <;> with_reducible rfl)
    case rest27 =>
    try simp only [Act.put, List.getElem_toArray, List.getElem_cons_zero, List.getElem_cons_succ, List.setIfInBounds_toArray, List.set_cons_zero, List.set_cons_succ]
    refine wpAnyH_ready (rs := [27]) (by kernel_rfl) (by simp) ?_
    refine AllReadyH.cons rfl (fun K hK => ?_) AllReadyH.nil
    go_simp
    (go_at_call 21; refine (punhide HA2 _ hS).mono ?_; rintro e u4 ⟨rfl, bn⟩; replace hS := hS.trans (bn.mono hS.size); clear bn)
    refine hK.out _ _ ?hS28 (fun hHeld28 => ?rest28)
    case hS28 => first | (dsimp only; (exact punhide HS _ hS)) | (exact punhide HS _ hS)
    case rest28 =>
    clear hK K hHeld7
    try simp only [Act.put, List.getElem_toArray, List.getElem_cons_zero, List.getElem_cons_succ, List.setIfInBounds_toArray, List.set_cons_zero, List.set_cons_succ]
    refine wpAnyH_take (i := 28) (v := ?v28) rfl (by kernel_rfl) (by kernel_rfl) (by kernel_rfl) (fun _ _ _ h => h) (Or.inl ⟨by rfl, ?hy28⟩) (by assumption) ?rest29
    case hy28 => ((intro w hSw; (try dsimp only at hSw); go_simp) <;> with_reducible rfl)
    case rest29 =>
    try simp only [Act.put, List.getElem_toArray, List.getElem_cons_zero, List.getElem_cons_succ, List.setIfInBounds_toArray, List.set_cons_zero, List.set_cons_succ]
    refine wpAnyH_take (i := 29) (v := ?v29) rfl (by kernel_rfl) (by kernel_rfl) (by kernel_rfl) (fun _ _ _ h => h) (Or.inl ⟨by rfl, ?hy29⟩) (by assumption) ?rest30
    case hy29 => ((intro w hSw; (try dsimp only at hSw); go_simp) <;> with_reducible rfl)
    case rest30 =>
    try simp only [Act.put, List.getElem_toArray, List.getElem_cons_zero, List.getElem_cons_succ, List.setIfInBounds_toArray, List.set_cons_zero, List.set_cons_succ]
    refine wpAnyH_take (i := 30) (v := ?v30) rfl (by kernel_rfl) (by kernel_rfl) (by kernel_rfl) (fun _ _ _ h => h) (Or.inl ⟨by rfl, ?hy30⟩) (by assumption) ?rest31
    case hy30 => ((intro w hSw; (try dsimp only at hSw); go_simp) <;> with_reducible rfl)
    case rest31 =>
    try simp only [Act.put, List.getElem_toArray, List.getElem_cons_zero, List.getElem_cons_succ, List.setIfInBounds_toArray, List.set_cons_zero, List.set_cons_succ]
    refine wpAnyH_take (i := 31) (v := ?v31) rfl (by kernel_rfl) (by kernel_rfl) (by kernel_rfl) (fun _ _ _ h => h) (Or.inl ⟨by rfl, ?hy31⟩) (by assumption) ?rest32
    case hy31 => ((intro w hSw; (try dsimp only at hSw); go_simp) <;> with_reducible rfl)
    case rest32 =>
    try simp only [Act.put, List.getElem_toArray, List.getElem_cons_zero, List.getElem_cons_succ, List.setIfInBounds_toArray, List.set_cons_zero, List.set_cons_succ]
    refine wpAnyH_take (i := 32) (v := ?v32) rfl (by kernel_rfl) (by kernel_rfl) (by kernel_rfl) (fun _ _ _ h => h) (Or.inl ⟨by rfl, ?hy32⟩) (by assumption) ?rest33
    case hy32 => ((intro w hSw; (try dsimp only at hSw); go_simp) <;> with_reducible rfl)
    case rest33 =>
    try simp only [Act.put, List.getElem_toArray, List.getElem_cons_zero, List.getElem_cons_succ, List.setIfInBounds_toArray, List.set_cons_zero, List.set_cons_succ]
    refine wpAnyH_take (i := 33) (v := ?v33) rfl (by kernel_rfl) (by kernel_rfl) (by kernel_rfl) (fun _ _ _ h => h) (Or.inl ⟨by rfl, ?hy33⟩) (by assumption) ?rest34
    case hy33 => ((intro w hSw; (try dsimp only at hSw); go_simp) <;> with_reducible rfl)
    case rest34 =>
    try simp only [Act.put, List.getElem_toArray, List.getElem_cons_zero, List.getElem_cons_succ, List.setIfInBounds_toArray, List.set_cons_zero, List.set_cons_succ]
    refine wpAnyH_ready (rs := [34]) (by kernel_rfl) (by simp) ?_
    refine AllReadyH.cons rfl (fun K hK => ?_) AllReadyH.nil
    go_simp
    (go_at_call 21; refine (punhide HA3 _ hS).mono ?_; rintro e u5 ⟨rfl, bn⟩; replace hS := hS.trans (bn.mono hS.size); clear bn)
    refine hK.out _ _ ?hS35 (fun hHeld35 => ?rest35)
    case hS35 => first | (dsimp only; (exact punhide HS _ hS)) | (exact punhide HS _ hS)
    case rest35 =>
    clear hK K hHeld28
    try simp only [Act.put, List.getElem_toArray, List.getElem_cons_zero, List.getElem_cons_succ, List.setIfInBounds_toArray, List.set_cons_zero, List.set_cons_succ]
    refine wpAnyH_take (i := 35) (v := ?v35) rfl (by kernel_rfl) (by kernel_rfl) (by kernel_rfl) (fun _ _ _ h => h) (Or.inl ⟨by rfl, ?hy35⟩) (by assumption) ?rest36
    case hy35 => ((intro w hSw; (try dsimp only at hSw); go_simp) <;> with_reducible rfl)
    case rest36 =>
    try simp only [Act.put, List.getElem_toArray, List.getElem_cons_zero, List.getElem_cons_succ, List.setIfInBounds_toArray, List.set_cons_zero, List.set_cons_succ]
    refine wpAnyH_take (i := 36) (v := ?v36) rfl (by kernel_rfl) (by kernel_rfl) (by kernel_rfl) (fun _ _ _ h => h) (Or.inl ⟨by rfl, ?hy36⟩) (by assumption) ?rest37
    case hy36 => ((intro w hSw; (try dsimp only at hSw); go_simp) <;> with_reducible rfl)
    case rest37 =>
    try simp only [Act.put, List.getElem_toArray, List.getElem_cons_zero, List.getElem_cons_succ, List.setIfInBounds_toArray, List.set_cons_zero, List.set_cons_succ]
    refine wpAnyH_done (by kernel_rfl) ?_ _
    go_wp2
    go_ret
    exact ⟨rfl, punhide HBW _ hS⟩
end Go.Proofs.YtppkknmgdahniaaDoor.Pol
