/- What is proved here: what Int of the document's own answers does, walked; conditions: the number is an int. -/
import Derived.Test.YtmlmplmghlbdmaaGreatDoorUf
import Derived.Test.YtmlmplmghlbdmaaGreatDoorMg
namespace Go.Proofs.YtmlmplmghlbdmaaGreatDoor
open Go.RowKit
set_option linter.unusedVariables false
set_option linter.unusedSimpArgs false

/-- What the digits have come to. -/
def IntInv (U v : Nat) (L : List UInt8) : Prop := Dm.allD L ∧ Dm.num L + v * 10 ^ L.length = U ∧ L.length ≤ 20
theorem IntInv.next {U v : Nat} {L : List UInt8} (h : IntInv U v L) (hU : U < 18446744073709551616) (hv : 0 < v) {c : UInt8} (hc : c.toNat = 48 + v % 10) : IntInv U (v / 10) (c :: L) := by
  obtain ⟨h1, h2, h3⟩ := h
  have hd : Dm.isD c = true := Dm.isD_iff.2 (by omega)
  have hdv : Dm.dv c = v % 10 := by unfold Dm.dv; omega
  refine ⟨Dm.allD_cons.2 ⟨hd, h1⟩, ?_, ?_⟩
  · rw [Dm.num_cons, hdv, List.length_cons, Nat.pow_succ]
    have e : v % 10 * 10 ^ L.length + v / 10 * (10 ^ L.length * 10) = v * 10 ^ L.length := by
      rw [Nat.mul_comm (10 ^ L.length) 10, ← Nat.mul_assoc, ← Nat.add_mul]; congr 1; omega
    omega
  · have g1 : 10 ^ L.length ≤ v * 10 ^ L.length := Nat.le_mul_of_pos_left _ hv
    have g2 : 10 ^ L.length < 10 ^ 20 := by
      have : (18446744073709551616 : Nat) ≤ 10 ^ 20 := by decide
      omega
    have := (Nat.pow_lt_pow_iff_right (by decide : 1 < 10)).1 g2
    simp; omega
theorem norm_int (n : Int) (L : List UInt8) (b : Bool) (w : World) (hb : b = decide (n < 0)) (hL : L.length ≤ 20) (hd : Dm.allD L) (hn : Dm.num L = n.natAbs) (h64 : n.natAbs < 18446744073709551616) :
    Calls Tryz.prog 43 #[.bool b, .string ⟨L.toArray⟩, .int .i64 0] w fun e w' => e = .returned (.tuple #[.agg #[.bool (Dm.ofInt n).ng, .string ⟨(Dm.ofInt n).ds.toArray⟩, .int .i64 0], .int .i64 0]) ∧ Below w.heap.size w w' := by
  refine (norm_r b L 0 n w (by omega) (by omega) hd ?_).mono ?_
  · rw [hn, hb]; unfold Dm.sgn
    by_cases g : n < 0
    · rw [if_pos (decide_eq_true g)]; omega
    · rw [if_neg (by simpa using g)]; omega
  · rintro e w' ⟨r, rfl, hr, hB⟩
    obtain rfl := (Dm.ofInt_rep h64).1 hr
    exact ⟨rfl, hB⟩
set_option maxRecDepth 100000 in
set_option maxHeartbeats 2000000 in
theorem rint_any (n : Int) (w : World) (h0 : -9223372036854775808 ≤ n) (h1 : n ≤ 9223372036854775807) :
    Calls Tryz.prog 29 #[.int .i64 n] w fun e w' => e = .returned (.agg #[.bool (Dm.ofInt n).ng, .string ⟨(Dm.ofInt n).ds.toArray⟩, .int .i64 0]) ∧ Below w.heap.size w w' := by
  obtain ⟨o1, o2, o3, o4, o5, o6⟩ := (Own.start w).facts
  have hO := Own.start w
  clear o1 o2 o3 o4 o5 o6
  by_cases hneg : n < 0
  · obtain ⟨U, hU⟩ : ∃ U : Nat, -(n + 1) = (U : Int) := ⟨(-(n + 1)).toNat, by omega⟩
    have hUb : (U : Int) ≤ 9223372036854775807 := by omega
    obtain ⟨V, hV2⟩ : ∃ V : Nat, U + 1 = V := ⟨_, rfl⟩
    have hV : (U : Int) + 1 = (V : Int) := by omega
    have hVn : V = n.natAbs := by omega
    have hV64 : V ≤ 9223372036854775808 := by omega
    have HV := hide hVn
    clear hV2 hVn
    go_enter Tryz.func29, Tryz.ntmps29
    go_wp2
    go_loopw [3, 4] (fun u s wr => ∃ (v : Nat) (L : List UInt8), u = .int .u64 (v : Int) ∧ v ≤ V ∧ s = .string ⟨L.toArray⟩ ∧ IntInv V v L ∧ Own w wr) (fun u _ _ => (intOf u).toNat)
    case atStart => exact ⟨V, [], rfl, Nat.le_refl _, rfl, ⟨Dm.allD_nil, by simp [Dm.num], by simp⟩, hO⟩
    case round =>
      clear hO
      obtain ⟨v, L, rfl, hvU, rfl, hI, hO⟩ := hrel
      have hLl := hI.2.2
      have hv64 : (v : Int) ≤ 9223372036854775808 := by omega
      by_cases hv : (0 : Int) < (v : Int)
      · obtain ⟨c, hc⟩ : ∃ c : UInt8, c.toNat = 48 + v % 10 := ⟨_, byte_of (by omega)⟩
        have hI2 := hI.next (by omega) (by omega) hc
        have cv := conv_v (48 + (v : Int) % 10) c (by omega) wr
        have HC := hide hc
        clear hc hI
        go_wp2
        go_roundw
        case rel => exact ⟨v / 10, _, rfl, by omega, congrArg Value.string (cons_join _ _), hI2, hO.step ((Below.refl _ _).alloc (Nat.le_refl _) _)⟩
        case measure => simp only [intOf]; omega
      · have hn : Hid (Dm.num L = n.natAbs) := by
          have := hI.2.1
          obtain rfl : v = 0 := by omega
          have := unhide HV
          show _ = _; omega
        have hd := hI.1
        clear hI
        go_wp2_with (go_at_call 43; refine (norm_int n L _ _ (by simp [hneg]) hLl hd (unhide hn) (by have := unhide HV; omega)).mono ?_; rintro e w5 ⟨rfl, hb5⟩; have hO5 := (hO.step hb5).step ((Below.refl _ _).alloc (Nat.le_refl _) (.cells #[.bool (Dm.ofInt n).ng, .string ⟨(Dm.ofInt n).ds.toArray⟩, .int .i64 0] 23)); obtain ⟨o1, o2, o3, o4, o5, o6⟩ := hO5.facts)
        refine bodyPost_ret (v := .agg #[.bool (Dm.ofInt n).ng, .string ⟨(Dm.ofInt n).ds.toArray⟩, .int .i64 0]) (by simp [results, Tryz.results29, go_sem, o1, o2, o3]) rfl ⟨rfl, hO5.end _ _ _⟩
  · obtain ⟨U, rfl⟩ : ∃ U : Nat, n = (U : Int) := ⟨n.toNat, by omega⟩
    go_enter Tryz.func29, Tryz.ntmps29
    go_wp2
    go_loopw [3, 4] (fun u s wr => ∃ (v : Nat) (L : List UInt8), u = .int .u64 (v : Int) ∧ v ≤ U ∧ s = .string ⟨L.toArray⟩ ∧ IntInv U v L ∧ Own w wr) (fun u _ _ => (intOf u).toNat)
    case atStart => exact ⟨U, [], rfl, Nat.le_refl _, rfl, ⟨Dm.allD_nil, by simp [Dm.num], by simp⟩, hO⟩
    case round =>
      clear hO
      obtain ⟨v, L, rfl, hvU, rfl, hI, hO⟩ := hrel
      have hLl := hI.2.2
      have hv64 : (v : Int) ≤ 9223372036854775808 := by omega
      by_cases hv : (0 : Int) < (v : Int)
      · obtain ⟨c, hc⟩ : ∃ c : UInt8, c.toNat = 48 + v % 10 := ⟨_, byte_of (by omega)⟩
        have hI2 := hI.next (by omega) (by omega) hc
        have cv := conv_v (48 + (v : Int) % 10) c (by omega) wr
        have HC := hide hc
        clear hc hI
        go_wp2
        go_roundw
        case rel => exact ⟨v / 10, _, rfl, by omega, congrArg Value.string (cons_join _ _), hI2, hO.step ((Below.refl _ _).alloc (Nat.le_refl _) _)⟩
        case measure => simp only [intOf]; omega
      · have hn : Hid (Dm.num L = (U : Int).natAbs) := by
          have := hI.2.1
          obtain rfl : v = 0 := by omega
          show _ = _; omega
        have hd := hI.1
        clear hI
        go_wp2_with (go_at_call 43; refine (norm_int (U : Int) L _ _ (by simp) hLl hd (unhide hn) (by omega)).mono ?_; rintro e w5 ⟨rfl, hb5⟩; have hO5 := (hO.step hb5).step ((Below.refl _ _).alloc (Nat.le_refl _) (.cells #[.bool (Dm.ofInt (U : Int)).ng, .string ⟨(Dm.ofInt (U : Int)).ds.toArray⟩, .int .i64 0] 23)); obtain ⟨o1, o2, o3, o4, o5, o6⟩ := hO5.facts)
        refine bodyPost_ret (v := .agg #[.bool (Dm.ofInt (U : Int)).ng, .string ⟨(Dm.ofInt (U : Int)).ds.toArray⟩, .int .i64 0]) (by simp [results, Tryz.results29, go_sem, o1, o2, o3]) rfl ⟨rfl, hO5.end _ _ _⟩
end Go.Proofs.YtmlmplmghlbdmaaGreatDoor
