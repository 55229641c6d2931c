/- What is proved here: the document's own Deep, and all and joined of the laws, walked; conditions: the values lie, and not too many keys and kids anywhere. -/
import Derived.Test.YtppkknmgdahniaaDoorZVw
namespace Go.Proofs.YtppkknmgdahniaaDoor.Pol
set_option maxRecDepth 100000
open Go.RowKit Go.Proofs.YtppkknmgdahniaaDoor.Nc Go.Proofs.YtppkknmgdahniaaDoor.Np Go.Proofs.YtppkknmgdahniaaDoor.Nq
set_option linter.unusedVariables false
set_option linter.unusedSimpArgs false

theorem deep_take {n : Nat} {a : Nat} {l : List Tr} {k : Nat} (h : k < l.length) : (l.take (k + 1)).foldl (fun a k => a ||| deepT n k) a = (l.take k).foldl (fun a k => a ||| deepT n k) a ||| deepT n (l[k]'h) := by
  rw [List.take_succ_eq_append_getElem h, List.foldl_append]
  rfl
set_option maxHeartbeats 4000000 in
theorem rdeep_any : ∀ (n : Nat) (v : Value) (t : Tr) (w : World), Lies anyB w n v t → okT n t →
    Calls Tryd.prog 64 #[v] w fun e w' => e = .returned (.int .u64 (deepT n t : Int)) ∧ deepT n t < 18446744073709551616 ∧ Below w.heap.size w w'
  | 0, _, _, _, h, _ => h.elim
  | n + 1, v, t, w, hl, ho => by
    obtain ⟨h, l, ka, kc, da, dc, rfl, rfl, hm64, hkc, hdc, hks, hkid⟩ := hl.node
    have hlen : l.length ≤ 1000000 := ho.2.1
    have IH := phide (fun (W : World) (v : Value) (t : Tr) (ht : t ∈ l) (hv : Lies anyB W n v t) => rdeep_any n v t W hv (ho.2.2 t ht))
    have HKID := phide hkid
    obtain ⟨q, hq⟩ : ∃ q, deepT (n + 1) (Tr.mk h l) = q := ⟨_, rfl⟩
    have HQ : Hid (l.foldl (fun a k => a ||| deepT n k) h.m = q) := hq
    rw [hq]
    have hB1 : Below w.heap.size w (w.alloc (.cells #[.int .i64 h.k, .int .u64 (h.m : Int), .bool h.ng, .string h.dg, .int .i64 h.sc, .string h.tx, .slice ka h.ks.length kc, .slice da l.length dc, .int .i64 h.cd] 31)) := (Below.refl _ _).alloc (Nat.le_refl _) _
    have x1 : (w.alloc (.cells #[.int .i64 h.k, .int .u64 (h.m : Int), .bool h.ng, .string h.dg, .int .i64 h.sc, .string h.tx, .slice ka h.ks.length kc, .slice da l.length dc, .int .i64 h.cd] 31)).cell? ⟨w.heap.size, 1, none⟩ = some (.int .u64 (h.m : Int)) := World.cell?_alloc_at _ _ _ _ rfl
    have x7 : (w.alloc (.cells #[.int .i64 h.k, .int .u64 (h.m : Int), .bool h.ng, .string h.dg, .int .i64 h.sc, .string h.tx, .slice ka h.ks.length kc, .slice da l.length dc, .int .i64 h.cd] 31)).cell? ⟨w.heap.size, 7, none⟩ = some (.slice da l.length dc) := World.cell?_alloc_at _ _ _ _ rfl
    have hlt0 : w.heap.size < (w.alloc (.cells #[.int .i64 h.k, .int .u64 (h.m : Int), .bool h.ng, .string h.dg, .int .i64 h.sc, .string h.tx, .slice ka h.ks.length kc, .slice da l.length dc, .int .i64 h.cd] 31)).heap.size := by simp
    have HBB := phide hB1
    clear hl ho hkid hq hks hkc hdc
    go_enter Tryd.func64, Tryd.ntmps64
    go_upto_region 2 with fail
    have hB1 := punhide HBB
    clear HBB
    generalize w.alloc (.cells #[.int .i64 h.k, .int .u64 (h.m : Int), .bool h.ng, .string h.dg, .int .i64 h.sc, .string h.tx, .slice ka h.ks.length kc, .slice da l.length dc, .int .i64 h.cd] 31) = w1 at hB1 x1 x7 hlt0 ⊢
    go_wp2_with fail
    go_loopw [3, 4] (fun acc i wr => ∃ (k A : Nat), i = .int .i64 (k : Int) ∧ acc = .int .u64 (A : Int) ∧ k ≤ l.length ∧ Hid ((l.take k).foldl (fun a k => a ||| deepT n k) h.m = A) ∧ A < 18446744073709551616 ∧ Below w1.heap.size w1 wr) (fun _ i _ => l.length - (intOf i).toNat)
    case atStart => exact ⟨0, h.m, rfl, rfl, Nat.zero_le _, phide rfl, hm64, Below.refl _ _⟩
    case round =>
      obtain ⟨k, A, rfl, rfl, hk, HK, hA, hBr⟩ := hrel
      have y7 := (hBr.cell (p := ⟨w.heap.size, 7, none⟩) hlt0).trans x7
      by_cases hlt : k < l.length
      case pos =>
        have hBw : Below w.heap.size w wr := hB1.trans (hBr.mono hB1.size)
        obtain ⟨b, o, hd2, ka3, kn3, kc3, da3, dn3, dc3, hao, hb, ⟨c0, c1, c2, c3, c4, c5, c6, c7, c8⟩, hlies⟩ := kid_at (punhide HKID) hBw k hlt
        subst hao
        have C := punhide IH wr _ _ (List.getElem_mem hlt) hlies
        have HT := phide (deep_take (n := n) (a := h.m) hlt)
        obtain ⟨D, hD⟩ : ∃ D, deepT n (l[k]'hlt) = D := ⟨_, rfl⟩
        rw [hD] at C HT
        have HBR := phide hBr
        have HAA := phide hA
        have hi1 : (k : Int) < (l.length : Int) := by omega
        clear hD hlies hBr hBw hA
        go_wp2_with fail
        refine C.mono ?_
        rintro e w2 ⟨rfl, hD64, b2⟩
        have hor : bits BinOp.or IntKind.u64 (A : Int) (D : Int) = ((A ||| D : Nat) : Int) := u64_or_nat _ _ (punhide HAA) hD64
        obtain ⟨A2, hA2⟩ : ∃ A2, A ||| D = A2 := ⟨_, rfl⟩
        rw [hA2] at hor
        have HK2 : Hid ((l.take (k + 1)).foldl (fun a k => a ||| deepT n k) h.m = A2) := phide ((punhide HT).trans (by rw [punhide HK]; exact hA2))
        have HA2 : Hid (A2 < 18446744073709551616) := phide (by rw [← hA2]; exact Nat.or_lt_two_pow (n := 64) (punhide HAA) hD64)
        have HB2 := phide ((punhide HBR).trans (b2.mono (punhide HBR).size))
        clear C hA2 hD64 b2 c0 c1 c2 c3 c4 c5 c6 c7 c8 y7
        go_wp2
        go_roundw
        case rel => exact ⟨k + 1, A2, by go_num, rfl, hlt, HK2, punhide HA2, punhide HB2⟩
        case measure => simp [intOf]; omega
      case neg =>
        have hkl : k = l.length := by omega
        have hAq : A = q := by
          rw [← punhide HK, List.take_of_length_le (by omega)]
          exact punhide HQ
        subst hAq
        have hd : decide ((k : Int) < (l.length : Int)) = false := decide_eq_false (by omega)
        go_wp2
        go_ret
        exact ⟨rfl, hA, hB1.trans (hBr.mono hB1.size)⟩
end Go.Proofs.YtppkknmgdahniaaDoor.Pol
