/- What is proved here: RedactMore, walked; conditions: the row of items lies, the table of powers of ten lies. -/
import Derived.Test.YtjjagpebpnmniaaDoorZYg
import Derived.Test.YtjjagpebpnmniaaDoorZYe
import Derived.Test.YtjjagpebpnmniaaDoorZYj
namespace Go.Proofs.YtjjagpebpnmniaaDoor.Pol
set_option maxRecDepth 100000
open Go.RowKit Go.Proofs.YtjjagpebpnmniaaDoor.Nc Go.Proofs.YtjjagpebpnmniaaDoor.Np Go.Proofs.YtjjagpebpnmniaaDoor.Nq
set_option maxRecDepth 100000
set_option linter.unusedVariables false
set_option linter.unusedSimpArgs false

theorem txt_of (l : List UInt8) : ∃ s : ByteArray, l = s.data.toList := ⟨⟨l.toArray⟩, by simp⟩
theorem u64_and (a b : Nat) (ha : a < 18446744073709551616) (hb : b < 18446744073709551616) : bits BinOp.and IntKind.u64 (a : Int) (b : Int) = ((a &&& b : Nat) : Int) := u64_and_nat _ _ ha hb
set_option maxHeartbeats 8000000 in
theorem more9 (a0 : Option Addr) (n0 c0 a b : Nat) (w : World) (hn0 : n0 ≤ 140737488355328) (hit : ∀ i, i < n0 → i < 80 → ItemAt w a0 i) (ha : a < 18446744073709551616) (hb : b < 18446744073709551616) (hP : Pow w) :
    Calls Tryd.prog 8 #[.slice a0 n0 c0, .int .u64 (a : Int), .int .u64 (b : Int)] w fun e w' => e = .returned (.bool true) ∧ Below w.heap.size w w' := by
  have HSH := phide (shown9_any w hP)
  have HBU : Hid (∀ W, Below w.heap.size w W → _) := phide (fun W hW => built_any a0 n0 c0 W hn0 (fun i h1 h2 => (hit i h1 h2).below hW))
  have HP := phide hP
  obtain ⟨ab, hab⟩ : ∃ ab, a &&& b = ab := ⟨_, rfl⟩
  have hab64 : ab < 18446744073709551616 := by rw [← hab]; exact Nat.lt_of_le_of_lt Nat.and_le_left ha
  have hand := u64_and a b ha hb
  rw [hab] at hand
  have HAB := phide hab
  clear hit hP hab
  go_enter Tryd.func8, Tryd.ntmps8
  go_wp2_with fail
  refine (punhide HSH).mono ?_
  rintro e9 w1 ⟨rfl, b1⟩
  go_wp2_with fail
  refine (punhide HBU _ b1).mono ?_
  rintro e9 w2 ⟨v, t, rfl, hl, hg, hsz, b2⟩
  have b12 := below_next b1 b2
  obtain ⟨h, ka, kn, kc, da, dn, dc, rfl⟩ := hl.shape
  obtain ⟨w3, e3, z3, g3, x3⟩ := alloc_facts w2 #[.int .i64 h.k, .int .u64 (h.m : Int), .bool h.ng, .string h.dg, .int .i64 h.sc, .string h.tx, .slice ka kn kc, .slice da dn dc, .int .i64 h.cd] 31
  have hbx0 : Below w.heap.size w w3 := below_next b12 g3
  have hl3 := hl.below g3
  obtain ⟨s1, hs1⟩ := txt_of (showL (hidU ab) [35] 100 t)
  obtain ⟨s2, hs2⟩ := txt_of (showL (hidU a) [35] 100 t)
  obtain ⟨s3, hs3⟩ := txt_of (showL (hidU 18446744073709551615) [35] 100 t)
  have hlen : ∀ (cl : Nat) (s : ByteArray), showL (hidU cl) [35] 100 t = s.data.toList → s.size ≤ 1000000000 := fun cl s hs => by
    have := show_len (hidU cl) [35] 100 t hg
    rw [hs, len_size] at this
    have h2 := Nat.mul_le_mul_left (1300 + [(35 : UInt8)].length) hsz
    simp only [List.length_cons, List.length_nil] at this h2
    omega
  have hv1 := hlen _ _ hs1
  have hv2 := hlen _ _ hs2
  have hv3 := hlen _ _ hs3
  obtain ⟨q1, hq1⟩ : ∃ q, hidU a (Tr.hd t).m = q := ⟨_, rfl⟩
  obtain ⟨q2, hq2⟩ : ∃ q, hidU ab (Tr.hd t).m = q := ⟨_, rfl⟩
  have hsg : (s2.toList == (⟨#[35]⟩ : ByteArray).toList) = q1 := by
    rw [txt_beq, ← hq1, ← show_sign (hid := hidU a) (n := 99) hg]
    have e : (s2 = ⟨#[35]⟩) ↔ (showL (hidU a) [35] 100 t = [35]) := by
      rw [hs2]
      constructor
      · rintro rfl; rfl
      · intro e; exact ByteArray.ext (Array.toList_inj.1 e)
    exact decide_eq_decide.2 e
  have e35 : (⟨#[35]⟩ : ByteArray).toList = [35] := by decide +kernel
  rw [e35] at hsg
  clear e35
  have hle1 : s1.size ≤ s2.size := by
    have := show_less (hid := hidU ab) (hid' := hidU a) (fun m hm => by rw [← punhide HAB]; exact hid_and hm) 100 t hg
    rw [hs1, hs2, len_size, len_size] at this; exact this
  have hle2 : s2.size ≤ s3.size := by
    have hsm := Lies_sm hl
    have h1 := show_less (hid := hidU a) (hid' := noneHid) (fun m hm => by cases hm) 100 t hg
    rw [← show_all [35] 100 t hsm, hs2, hs3, len_size, len_size] at h1; exact h1
  have himp : q1 = true → q2 = true := by rw [← hq1, ← hq2, ← punhide HAB]; exact hid_and
  have hPP : Hid (∀ W, Below w3.heap.size w3 W → Pow W) := phide (fun W hW => (punhide HP).next (below_next hbx0 hW))
  have HBX : Hid (∀ W, Below w3.heap.size w3 W → Bx W w2.heap.size #[.int .i64 h.k, .int .u64 (h.m : Int), .bool h.ng, .string h.dg, .int .i64 h.sc, .string h.tx, .slice ka kn kc, .slice da dn dc, .int .i64 h.cd] 31) := phide (fun W hW => x3.below hW)
  have HV1 : Hid (∀ W, Below w3.heap.size w3 W → _) := phide (fun W hW => view_any _ 100 _ t ab hab64 s1 hs1 hv1 W (hl3.below hW) hg (punhide hPP W hW))
  have HV2 : Hid (∀ W, Below w3.heap.size w3 W → _) := phide (fun W hW => view_any _ 100 _ t a ha s2 hs2 hv2 W (hl3.below hW) hg (punhide hPP W hW))
  have HV3 : Hid (∀ W, Below w3.heap.size w3 W → Calls Tryd.prog 20 #[.agg #[.int .i64 h.k, .int .u64 (h.m : Int), .bool h.ng, .string h.dg, .int .i64 h.sc, .string h.tx, .slice ka kn kc, .slice da dn dc, .int .i64 h.cd], .int .u64 18446744073709551615] W fun e w' => e = .returned (.string s3) ∧ Below W.heap.size W w') := phide (fun W hW => view_any _ 100 _ t 18446744073709551615 (by decide) s3 hs3 hv3 W (hl3.below hW) hg (punhide hPP W hW))
  have HH1 : Hid (∀ W, Below w3.heap.size w3 W → _) := phide (fun W hW => hidden_any _ 100 _ t a ha q1 hq1 W (hl3.below hW))
  have HH2 : Hid (∀ W, Below w3.heap.size w3 W → _) := phide (fun W hW => hidden_any _ 100 _ t ab hab64 q2 hq2 W (hl3.below hW))
  have HA1 : Hid (∀ W, Below w3.heap.size w3 W → _) := phide (fun W hW => alike_any _ _ a ha 100 _ _ t t true W (like_self _ 100 t) (hl3.below hW) (hl3.below hW) (good_ok 100 t hg) (good_ok 100 t hg))
  have HFB : Hid (∀ W, Below w3.heap.size w3 W → Below w.heap.size w W) := phide (fun W hW => below_next hbx0 hW)
  have hB : Below w3.heap.size w3 w3 := Below.refl _ _
  have HE := phide e3
  have hl1i : (s1.size : Int) ≤ (s2.size : Int) := by omega
  have hl2i : (s2.size : Int) ≤ (s3.size : Int) := by omega
  clear hq1 hq2 hs1 hs2 hs3 hlen hl hl3 hg hsz e3 z3 g3 x3 hbx0 b12 b1 b2 HSH HBU HP HAB
  go_upto_region 3 with fail
  rw [punhide HE]
  clear HE
  obtain ⟨v0, v1, v2, v3, v4, v5, v6, v7, v8⟩ : _ ∧ _ ∧ _ ∧ _ ∧ _ ∧ _ ∧ _ ∧ _ ∧ _ := ⟨(punhide HBX _ hB).cell 0, (punhide HBX _ hB).cell 1, (punhide HBX _ hB).cell 2, (punhide HBX _ hB).cell 3, (punhide HBX _ hB).cell 4, (punhide HBX _ hB).cell 5, (punhide HBX _ hB).cell 6, (punhide HBX _ hB).cell 7, (punhide HBX _ hB).cell 8⟩
  go_wp2_with fail
  refine (punhide HV1 _ hB).mono ?_
  rintro e9 w4 ⟨rfl, bb⟩
  clear v0 v1 v2 v3 v4 v5 v6 v7 v8
  replace hB := below_next hB bb
  clear bb
  obtain ⟨v0, v1, v2, v3, v4, v5, v6, v7, v8⟩ : _ ∧ _ ∧ _ ∧ _ ∧ _ ∧ _ ∧ _ ∧ _ ∧ _ := ⟨(punhide HBX _ hB).cell 0, (punhide HBX _ hB).cell 1, (punhide HBX _ hB).cell 2, (punhide HBX _ hB).cell 3, (punhide HBX _ hB).cell 4, (punhide HBX _ hB).cell 5, (punhide HBX _ hB).cell 6, (punhide HBX _ hB).cell 7, (punhide HBX _ hB).cell 8⟩
  go_wp2_with fail
  refine (punhide HV2 _ hB).mono ?_
  rintro e9 w5 ⟨rfl, bb⟩
  clear v0 v1 v2 v3 v4 v5 v6 v7 v8
  replace hB := below_next hB bb
  clear bb
  obtain ⟨v0, v1, v2, v3, v4, v5, v6, v7, v8⟩ : _ ∧ _ ∧ _ ∧ _ ∧ _ ∧ _ ∧ _ ∧ _ ∧ _ := ⟨(punhide HBX _ hB).cell 0, (punhide HBX _ hB).cell 1, (punhide HBX _ hB).cell 2, (punhide HBX _ hB).cell 3, (punhide HBX _ hB).cell 4, (punhide HBX _ hB).cell 5, (punhide HBX _ hB).cell 6, (punhide HBX _ hB).cell 7, (punhide HBX _ hB).cell 8⟩
  go_wp2_with fail
  refine (punhide HV3 _ hB).mono ?_
  rintro e9 w6 ⟨rfl, bb⟩
  clear v0 v1 v2 v3 v4 v5 v6 v7 v8
  replace hB := below_next hB bb
  clear bb
  obtain ⟨v0, v1, v2, v3, v4, v5, v6, v7, v8⟩ : _ ∧ _ ∧ _ ∧ _ ∧ _ ∧ _ ∧ _ ∧ _ ∧ _ := ⟨(punhide HBX _ hB).cell 0, (punhide HBX _ hB).cell 1, (punhide HBX _ hB).cell 2, (punhide HBX _ hB).cell 3, (punhide HBX _ hB).cell 4, (punhide HBX _ hB).cell 5, (punhide HBX _ hB).cell 6, (punhide HBX _ hB).cell 7, (punhide HBX _ hB).cell 8⟩
  cases q1 with
  | false =>
    clear himp
    go_wp2_with fail
    refine (punhide HH1 _ hB).mono ?_
    rintro e9 w7 ⟨rfl, bb⟩
    clear v0 v1 v2 v3 v4 v5 v6 v7 v8
    replace hB := below_next hB bb
    clear bb
    obtain ⟨v0, v1, v2, v3, v4, v5, v6, v7, v8⟩ : _ ∧ _ ∧ _ ∧ _ ∧ _ ∧ _ ∧ _ ∧ _ ∧ _ := ⟨(punhide HBX _ hB).cell 0, (punhide HBX _ hB).cell 1, (punhide HBX _ hB).cell 2, (punhide HBX _ hB).cell 3, (punhide HBX _ hB).cell 4, (punhide HBX _ hB).cell 5, (punhide HBX _ hB).cell 6, (punhide HBX _ hB).cell 7, (punhide HBX _ hB).cell 8⟩
    go_wp2_with fail
    refine (punhide HA1 _ hB).mono ?_
    rintro e9 w8 ⟨rfl, bb⟩
    clear v0 v1 v2 v3 v4 v5 v6 v7 v8
    replace hB := below_next hB bb
    clear bb
    obtain ⟨v0, v1, v2, v3, v4, v5, v6, v7, v8⟩ : _ ∧ _ ∧ _ ∧ _ ∧ _ ∧ _ ∧ _ ∧ _ ∧ _ := ⟨(punhide HBX _ hB).cell 0, (punhide HBX _ hB).cell 1, (punhide HBX _ hB).cell 2, (punhide HBX _ hB).cell 3, (punhide HBX _ hB).cell 4, (punhide HBX _ hB).cell 5, (punhide HBX _ hB).cell 6, (punhide HBX _ hB).cell 7, (punhide HBX _ hB).cell 8⟩
    go_wp2_with fail
    refine (punhide HH1 _ hB).mono ?_
    rintro e9 w9 ⟨rfl, bb⟩
    clear v0 v1 v2 v3 v4 v5 v6 v7 v8
    replace hB := below_next hB bb
    clear bb
    obtain ⟨v0, v1, v2, v3, v4, v5, v6, v7, v8⟩ : _ ∧ _ ∧ _ ∧ _ ∧ _ ∧ _ ∧ _ ∧ _ ∧ _ := ⟨(punhide HBX _ hB).cell 0, (punhide HBX _ hB).cell 1, (punhide HBX _ hB).cell 2, (punhide HBX _ hB).cell 3, (punhide HBX _ hB).cell 4, (punhide HBX _ hB).cell 5, (punhide HBX _ hB).cell 6, (punhide HBX _ hB).cell 7, (punhide HBX _ hB).cell 8⟩
    go_wp2_with fail
    go_returns
    exact ⟨rfl, punhide HFB _ hB⟩
  | true =>
    obtain rfl : q2 = true := himp rfl
    clear himp
    go_wp2_with fail
    refine (punhide HH1 _ hB).mono ?_
    rintro e9 w7 ⟨rfl, bb⟩
    clear v0 v1 v2 v3 v4 v5 v6 v7 v8
    replace hB := below_next hB bb
    clear bb
    obtain ⟨v0, v1, v2, v3, v4, v5, v6, v7, v8⟩ : _ ∧ _ ∧ _ ∧ _ ∧ _ ∧ _ ∧ _ ∧ _ ∧ _ := ⟨(punhide HBX _ hB).cell 0, (punhide HBX _ hB).cell 1, (punhide HBX _ hB).cell 2, (punhide HBX _ hB).cell 3, (punhide HBX _ hB).cell 4, (punhide HBX _ hB).cell 5, (punhide HBX _ hB).cell 6, (punhide HBX _ hB).cell 7, (punhide HBX _ hB).cell 8⟩
    go_wp2_with fail
    refine (punhide HH2 _ hB).mono ?_
    rintro e9 w8 ⟨rfl, bb⟩
    clear v0 v1 v2 v3 v4 v5 v6 v7 v8
    replace hB := below_next hB bb
    clear bb
    obtain ⟨v0, v1, v2, v3, v4, v5, v6, v7, v8⟩ : _ ∧ _ ∧ _ ∧ _ ∧ _ ∧ _ ∧ _ ∧ _ ∧ _ := ⟨(punhide HBX _ hB).cell 0, (punhide HBX _ hB).cell 1, (punhide HBX _ hB).cell 2, (punhide HBX _ hB).cell 3, (punhide HBX _ hB).cell 4, (punhide HBX _ hB).cell 5, (punhide HBX _ hB).cell 6, (punhide HBX _ hB).cell 7, (punhide HBX _ hB).cell 8⟩
    go_wp2_with fail
    refine (punhide HA1 _ hB).mono ?_
    rintro e9 w9 ⟨rfl, bb⟩
    clear v0 v1 v2 v3 v4 v5 v6 v7 v8
    replace hB := below_next hB bb
    clear bb
    obtain ⟨v0, v1, v2, v3, v4, v5, v6, v7, v8⟩ : _ ∧ _ ∧ _ ∧ _ ∧ _ ∧ _ ∧ _ ∧ _ ∧ _ := ⟨(punhide HBX _ hB).cell 0, (punhide HBX _ hB).cell 1, (punhide HBX _ hB).cell 2, (punhide HBX _ hB).cell 3, (punhide HBX _ hB).cell 4, (punhide HBX _ hB).cell 5, (punhide HBX _ hB).cell 6, (punhide HBX _ hB).cell 7, (punhide HBX _ hB).cell 8⟩
    go_wp2_with fail
    refine (punhide HH1 _ hB).mono ?_
    rintro e9 w10 ⟨rfl, bb⟩
    clear v0 v1 v2 v3 v4 v5 v6 v7 v8
    replace hB := below_next hB bb
    clear bb
    obtain ⟨v0, v1, v2, v3, v4, v5, v6, v7, v8⟩ : _ ∧ _ ∧ _ ∧ _ ∧ _ ∧ _ ∧ _ ∧ _ ∧ _ := ⟨(punhide HBX _ hB).cell 0, (punhide HBX _ hB).cell 1, (punhide HBX _ hB).cell 2, (punhide HBX _ hB).cell 3, (punhide HBX _ hB).cell 4, (punhide HBX _ hB).cell 5, (punhide HBX _ hB).cell 6, (punhide HBX _ hB).cell 7, (punhide HBX _ hB).cell 8⟩
    go_wp2_with fail
    go_returns
    exact ⟨rfl, punhide HFB _ hB⟩
end Go.Proofs.YtjjagpebpnmniaaDoor.Pol
