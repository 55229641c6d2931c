/- What is proved here: what strings.IndexAny finds in any text for the three bytes that begin a step, walked; conditions: as each theorem states. What is proved here: what strings.IndexAny finds in any text for the three bytes that begin a step, walked; conditions: as each theorem states. -/
import Derived.Test.YtnagecbepidfiaaGreatDoorZBg
import Derived.Laws.RangeAny
import Derived.Deep.LoopGhost
import Derived.Deep.RegionHeld3
import Derived.BigQuiet
import Derived.WalkMore
import Derived.Handy
import Derived.Shelf.Small.Strs
import Derived.Lib.OthersKept
namespace Go.Proofs.YtnagecbepidfiaaGreatDoor.Np
set_option maxRecDepth 100000
open Go.Proofs.YtnagecbepidfiaaGreatDoor.Nq
open Go.RowKit
set_option linter.unusedVariables false
set_option linter.unusedSimpArgs false
set_option maxRecDepth 100000

theorem validRune_any (r : Nat) (h : Qm.Sc r) (w : World) : Calls Tryz.prog 183 #[.int .i32 (r : Int)] w fun e w' => e = .returned (.bool true) ∧ w' = w := by
  obtain ⟨h1, h2⟩ := h
  have d0 : decide (0 ≤ (r : Int)) = true := decide_eq_true (by omega)
  by_cases h3 : r < 55296
  · have d1 : decide ((r : Int) < 55296) = true := decide_eq_true (by omega)
    clear h1 h2 h3
    go_enter Tryz.func183, Tryz.ntmps183
    go_wp2
    go_ret
    exact ⟨rfl, rfl⟩
  · have d1 : decide ((r : Int) < 55296) = false := decide_eq_false (by omega)
    have d2 : decide (57343 < (r : Int)) = true := decide_eq_true (by omega)
    have d3 : decide ((r : Int) ≤ 1114111) = true := decide_eq_true (by omega)
    clear h1 h2 h3
    go_enter Tryz.func183, Tryz.ntmps183
    go_wp2
    go_ret
    exact ⟨rfl, rfl⟩
theorem valid_sc {r : Nat} (h : Qm.Sc r) : Utf8.valid (r : Int) = true := by
  obtain ⟨h1, h2⟩ := h
  unfold Utf8.valid
  simp
  omega
set_option maxHeartbeats 2000000 in
theorem rune_err (w : World) : Calls Tryz.prog 178 #[.string ⟨#[46, 91, 42]⟩, .int .i32 65533] w fun e w' => e = .returned (.int .i64 (-1)) ∧ Below w.heap.size w w' := by
  have n0 := fun ty => run_next_ascii (P := Tryz.prog) w ⟨#[46, 91, 42]⟩ 0 ty (by decide) (by decide)
  have n1 := fun ty => run_next_ascii (P := Tryz.prog) w ⟨#[46, 91, 42]⟩ 1 ty (by decide) (by decide)
  have n2 := fun ty => run_next_ascii (P := Tryz.prog) w ⟨#[46, 91, 42]⟩ 2 ty (by decide) (by decide)
  have n3 := fun ty => run_next_end (P := Tryz.prog) w ⟨#[46, 91, 42]⟩ 3 ty (by decide)
  have e0 : ((⟨#[46, 91, 42]⟩ : ByteArray)[0]'(by decide)).toNat = 46 := rfl
  have e1 : ((⟨#[46, 91, 42]⟩ : ByteArray)[1]'(by decide)).toNat = 91 := rfl
  have e2 : ((⟨#[46, 91, 42]⟩ : ByteArray)[2]'(by decide)).toNat = 42 := rfl
  rw [e0] at n0
  rw [e1] at n1
  rw [e2] at n2
  go_enter Tryz.func178, Tryz.ntmps178
  go_wp2
  go_rounds 4
  all_goals
    go_ret
    exact ⟨rfl, (Below.refl _ _).alloc (Nat.le_refl _) _⟩
theorem byte_none (t : ByteArray) (x : UInt8) (ht : ∀ c ∈ t.data.toList, c.toNat < 128) (hx : 128 ≤ x.toNat) (w : World) : Calls Tryz.prog 182 #[.string t, .int .u8 (x.toNat : Int)] w fun e w' => e = .returned (.int .i64 (-1)) ∧ w' = w := by
  refine (Any.strings_IndexByte (show Go.Proofs.Lays.n137 Tryz.prog Tryz.laysI_ren from { Tryz.laysI_Lays_153 with }) t (x.toNat : Int) w).mono ?_
  rintro e w' ⟨rfl, rfl⟩
  refine ⟨?_, rfl⟩
  have hb : ((x.toNat : Int)).toNat.toUInt8 = x := by simp
  have hno : ∀ l : List UInt8, (∀ c ∈ l, c.toNat < 128) → Lib.indexByte l x = -1 := by
    intro l
    induction l with
    | nil => intro _; rfl
    | cons c r ih =>
      intro h
      have h1 := h c (by simp)
      unfold Lib.indexByte
      rw [if_neg (by intro e; rw [eq_of_beq e] at h1; omega), ih (fun d hd => h d (by simp [hd]))]
      rfl
  rw [hb, hno _ ht]
set_option maxRecDepth 1000000 in
set_option maxHeartbeats 4000000 in
theorem rune_high (r : Nat) (h128 : 128 ≤ r) (hsc : Qm.Sc r) (w : World) : Calls Tryz.prog 178 #[.string ⟨#[46, 91, 42]⟩, .int .i32 (r : Int)] w fun e w' => e = .returned (.int .i64 (-1)) ∧ Below w.heap.size w w' := by
  by_cases hE : r = 65533
  · subst hE
    exact rune_err w
  have CV := fun W => validRune_any r hsc W
  obtain ⟨f1, f2, f3⟩ := encode_facts (r : Int) (valid_sc hsc) (by omega)
  obtain ⟨rs, hrs⟩ : ∃ rs, Utf8.encode (r : Int) = rs := ⟨_, rfl⟩
  rw [hrs] at f1 f2
  have f4 : ∀ h : rs.size - 1 < rs.size, 128 ≤ (rs[rs.size - 1]'h).toNat := by rw [← hrs]; exact f3
  have d0 : decide (0 ≤ (r : Int)) = true := decide_eq_true (by omega)
  have d1 : decide ((r : Int) < 128) = false := decide_eq_false (by omega)
  have d2 : ((r : Int) == 65533) = false := beq_eq_false_iff_ne.2 (by omega)
  have hcv : ∀ W, (convert 21 9 (.int .i32 (r : Int))).run Tryz.prog W = .ok (.string rs) W := fun W => by rw [run_convert_int_string W 21 9 .i32 (r : Int) (by kernel_rfl) Tryz.underlying9, hrs]
  obtain ⟨L, hL⟩ : ∃ L, rs.size = L := ⟨_, rfl⟩
  obtain ⟨x, hx⟩ : ∃ x, rs[rs.size - 1]'(by omega) = x := ⟨_, rfl⟩
  have hx8 : 128 ≤ x.toNat := by rw [← hx]; exact f4 (by omega)
  clear f3 f4 h128 hsc hE
  have hI2 := fun W => byte_none ⟨#[42]⟩ x (by intro c hc; simp at hc; rw [hc]; decide) hx8 W
  have hI3 := fun W => byte_none ⟨#[]⟩ x (by intro c hc; simp at hc) hx8 W
  rcases (show L = 2 ∨ L = 3 ∨ L = 4 by omega) with rfl | rfl | rfl
  · have hg : rs[1]'(by omega) = x := by rw [← hx]; simp only [hL]
    have e1 : ((⟨#[46, 91, 42]⟩ : ByteArray)[1]'(by decide)).toNat = 91 := rfl
    have nx : ¬ (91 : Int) = (x.toNat : Int) := by omega
    have nb : ((91 : Int) == (x.toNat : Int)) = false := beq_eq_false_iff_ne.2 nx
    have nb2 : ((91 : Int) != (x.toNat : Int)) = true := by simp; omega
    have ex2 : (⟨#[46, 91, 42]⟩ : ByteArray).extract 2 3 = ⟨#[42]⟩ := by decide +kernel
    clear hx f1 f2
    go_enter Tryz.func178, Tryz.ntmps178
    go_wp2_with (go_at_call 183; refine (CV _).mono ?_; rintro e9 w9 ⟨rfl, rfl⟩)
    go_step3
    go_wp2
    refine wp_loop_rounds 1 ?_
    rw [rounds_succ]
    go_wp2_with fail
    go_step3
    go_wp2_with fail
    go_quiet (fail)
    go_wp2_with fail
    have hS : Below w9.heap.size w9 (w9.drewN nq).drew := ⟨rfl, rfl, rfl, Nat.le_refl _, fun _ _ => rfl⟩
    refine wp_region_held_drew (S := fun w' => True) (by kernel_rfl) ?hS0 (fun hHeld => ?rest0)
    case hS0 => first | (dsimp only; (trivial)) | (trivial)
    case rest0 =>
    refine wpAnyH_take (i := 0) (v := .string ⟨#[46, 91, 42]⟩) rfl (by kernel_rfl) (by kernel_rfl) (by kernel_rfl) (fun _ _ _ h => h) (Or.inl ⟨by rfl, ?hy0⟩) (by assumption) ?rest1
    case hy0 => ((intro w hSw; (try dsimp only at hSw); go_simp) <;> (first | with_reducible rfl | rfl))
    case rest1 =>
    try simp only [Act.put, List.getElem_toArray, List.getElem_cons_zero, List.getElem_cons_succ, List.setIfInBounds_toArray, List.set_cons_zero, List.set_cons_succ]
    refine wpAnyH_take (i := 1) (v := .int .i64 1) rfl (by kernel_rfl) (by kernel_rfl) (by kernel_rfl) (fun _ _ _ h => h) (Or.inl ⟨by rfl, ?hy1⟩) (by assumption) ?rest2
    case hy1 => ((intro w hSw; (try dsimp only at hSw); go_simp) <;> (first | with_reducible rfl | rfl))
    case rest2 =>
    try simp only [Act.put, List.getElem_toArray, List.getElem_cons_zero, List.getElem_cons_succ, List.setIfInBounds_toArray, List.set_cons_zero, List.set_cons_succ]
    refine wpAnyH_take (i := 2) (v := .int .i64 2) rfl (by kernel_rfl) (by kernel_rfl) (by kernel_rfl) (fun _ _ _ h => h) (Or.inl ⟨by rfl, ?hy2⟩) (by assumption) ?rest3
    case hy2 => ((intro w hSw; (try dsimp only at hSw); go_simp) <;> (first | with_reducible rfl | rfl))
    case rest3 =>
    try simp only [Act.put, List.getElem_toArray, List.getElem_cons_zero, List.getElem_cons_succ, List.setIfInBounds_toArray, List.set_cons_zero, List.set_cons_succ]
    refine wpAnyH_take (i := 3) (v := .string ⟨#[42]⟩) rfl (by kernel_rfl) (by kernel_rfl) (by kernel_rfl) (fun _ _ _ h => h) (Or.inl ⟨by rfl, ?hy3⟩) (by assumption) ?rest4
    case hy3 => ((intro w hSw; (try dsimp only at hSw); go_simp) <;> (first | with_reducible rfl | rfl))
    case rest4 =>
    try simp only [Act.put, List.getElem_toArray, List.getElem_cons_zero, List.getElem_cons_succ, List.setIfInBounds_toArray, List.set_cons_zero, List.set_cons_succ]
    refine wpAnyH_take (i := 4) (v := .string rs) rfl (by kernel_rfl) (by kernel_rfl) (by kernel_rfl) (fun _ _ _ h => h) (Or.inl ⟨by rfl, ?hy4⟩) (by assumption) ?rest5
    case hy4 => ((intro w hSw; (try dsimp only at hSw); go_simp) <;> (first | with_reducible rfl | rfl))
    case rest5 =>
    try simp only [Act.put, List.getElem_toArray, List.getElem_cons_zero, List.getElem_cons_succ, List.setIfInBounds_toArray, List.set_cons_zero, List.set_cons_succ]
    refine wpAnyH_take (i := 5) (v := .int .i64 1) rfl (by kernel_rfl) (by kernel_rfl) (by kernel_rfl) (fun _ _ _ h => h) (Or.inl ⟨by rfl, ?hy5⟩) (by assumption) ?rest6
    case hy5 => ((intro w hSw; (try dsimp only at hSw); go_simp) <;> (first | with_reducible rfl | rfl))
    case rest6 =>
    try simp only [Act.put, List.getElem_toArray, List.getElem_cons_zero, List.getElem_cons_succ, List.setIfInBounds_toArray, List.set_cons_zero, List.set_cons_succ]
    refine wpAnyH_take (i := 6) (v := .int .u8 (x.toNat : Int)) rfl (by kernel_rfl) (by kernel_rfl) (by kernel_rfl) (fun _ _ _ h => h) (Or.inl ⟨by rfl, ?hy6⟩) (by assumption) ?rest7
    case hy6 => ((intro w hSw; (try dsimp only at hSw); go_simp) <;> (first | with_reducible rfl | rfl))
    case rest7 =>
    try simp only [Act.put, List.getElem_toArray, List.getElem_cons_zero, List.getElem_cons_succ, List.setIfInBounds_toArray, List.set_cons_zero, List.set_cons_succ]
    refine wpAnyH_ready (rs := [7]) (by kernel_rfl) (by simp) ?_
    refine AllReadyH.cons rfl (fun K hK => ?_) AllReadyH.nil
    go_simp
    go_at_call 182; refine (hI2 _).mono ?_; rintro e9 w8 ⟨rfl, rfl⟩
    refine hK.out _ _ ?hS8 (fun hHeld2 => ?rest8)
    case hS8 => first | (dsimp only; (trivial)) | (trivial)
    case rest8 =>
    clear hK K
    try clear hHeld
    have hHeld := hHeld2
    clear hHeld2
    try simp only [Act.put, List.getElem_toArray, List.getElem_cons_zero, List.getElem_cons_succ, List.setIfInBounds_toArray, List.set_cons_zero, List.set_cons_succ]
    refine wpAnyH_take (i := 8) (v := .int .i64 (-1)) rfl (by kernel_rfl) (by kernel_rfl) (by kernel_rfl) (fun _ _ _ h => h) (Or.inl ⟨by rfl, ?hy8⟩) (by assumption) ?rest9
    case hy8 => ((intro w hSw; (try dsimp only at hSw); go_simp) <;> (first | with_reducible rfl | rfl))
    case rest9 =>
    try simp only [Act.put, List.getElem_toArray, List.getElem_cons_zero, List.getElem_cons_succ, List.setIfInBounds_toArray, List.set_cons_zero, List.set_cons_succ]
    refine wpAnyH_done (by kernel_rfl) ?_ _
    go_wp2
    (try simp only [Exit.inBlock, Exit.then, Exit.noGoto_ret])
    go_ret
    exact ⟨rfl, hS⟩
  · have hg : rs[2]'(by omega) = x := by rw [← hx]; simp only [hL]
    have e1 : ((⟨#[46, 91, 42]⟩ : ByteArray)[2]'(by decide)).toNat = 42 := rfl
    have nx : ¬ (42 : Int) = (x.toNat : Int) := by omega
    have nb : ((42 : Int) == (x.toNat : Int)) = false := beq_eq_false_iff_ne.2 nx
    have nb2 : ((42 : Int) != (x.toNat : Int)) = true := by simp; omega
    have ex2 : (⟨#[46, 91, 42]⟩ : ByteArray).extract 3 3 = ⟨#[]⟩ := by decide +kernel
    clear hx f1 f2
    go_enter Tryz.func178, Tryz.ntmps178
    go_wp2_with (go_at_call 183; refine (CV _).mono ?_; rintro e9 w9 ⟨rfl, rfl⟩)
    go_step3
    go_wp2
    refine wp_loop_rounds 1 ?_
    rw [rounds_succ]
    go_wp2_with fail
    go_step3
    go_wp2_with fail
    go_quiet (fail)
    go_wp2_with fail
    have hS : Below w9.heap.size w9 (w9.drewN nq).drew := ⟨rfl, rfl, rfl, Nat.le_refl _, fun _ _ => rfl⟩
    refine wp_region_held_drew (S := fun w' => True) (by kernel_rfl) ?hS0 (fun hHeld => ?rest0)
    case hS0 => first | (dsimp only; (trivial)) | (trivial)
    case rest0 =>
    refine wpAnyH_take (i := 0) (v := .string ⟨#[46, 91, 42]⟩) rfl (by kernel_rfl) (by kernel_rfl) (by kernel_rfl) (fun _ _ _ h => h) (Or.inl ⟨by rfl, ?hy0⟩) (by assumption) ?rest1
    case hy0 => ((intro w hSw; (try dsimp only at hSw); go_simp) <;> (first | with_reducible rfl | rfl))
    case rest1 =>
    try simp only [Act.put, List.getElem_toArray, List.getElem_cons_zero, List.getElem_cons_succ, List.setIfInBounds_toArray, List.set_cons_zero, List.set_cons_succ]
    refine wpAnyH_take (i := 1) (v := .int .i64 2) rfl (by kernel_rfl) (by kernel_rfl) (by kernel_rfl) (fun _ _ _ h => h) (Or.inl ⟨by rfl, ?hy1⟩) (by assumption) ?rest2
    case hy1 => ((intro w hSw; (try dsimp only at hSw); go_simp) <;> (first | with_reducible rfl | rfl))
    case rest2 =>
    try simp only [Act.put, List.getElem_toArray, List.getElem_cons_zero, List.getElem_cons_succ, List.setIfInBounds_toArray, List.set_cons_zero, List.set_cons_succ]
    refine wpAnyH_take (i := 2) (v := .int .i64 3) rfl (by kernel_rfl) (by kernel_rfl) (by kernel_rfl) (fun _ _ _ h => h) (Or.inl ⟨by rfl, ?hy2⟩) (by assumption) ?rest3
    case hy2 => ((intro w hSw; (try dsimp only at hSw); go_simp) <;> (first | with_reducible rfl | rfl))
    case rest3 =>
    try simp only [Act.put, List.getElem_toArray, List.getElem_cons_zero, List.getElem_cons_succ, List.setIfInBounds_toArray, List.set_cons_zero, List.set_cons_succ]
    refine wpAnyH_take (i := 3) (v := .string ⟨#[]⟩) rfl (by kernel_rfl) (by kernel_rfl) (by kernel_rfl) (fun _ _ _ h => h) (Or.inl ⟨by rfl, ?hy3⟩) (by assumption) ?rest4
    case hy3 => ((intro w hSw; (try dsimp only at hSw); go_simp) <;> (first | with_reducible rfl | rfl))
    case rest4 =>
    try simp only [Act.put, List.getElem_toArray, List.getElem_cons_zero, List.getElem_cons_succ, List.setIfInBounds_toArray, List.set_cons_zero, List.set_cons_succ]
    refine wpAnyH_take (i := 4) (v := .string rs) rfl (by kernel_rfl) (by kernel_rfl) (by kernel_rfl) (fun _ _ _ h => h) (Or.inl ⟨by rfl, ?hy4⟩) (by assumption) ?rest5
    case hy4 => ((intro w hSw; (try dsimp only at hSw); go_simp) <;> (first | with_reducible rfl | rfl))
    case rest5 =>
    try simp only [Act.put, List.getElem_toArray, List.getElem_cons_zero, List.getElem_cons_succ, List.setIfInBounds_toArray, List.set_cons_zero, List.set_cons_succ]
    refine wpAnyH_take (i := 5) (v := .int .i64 2) rfl (by kernel_rfl) (by kernel_rfl) (by kernel_rfl) (fun _ _ _ h => h) (Or.inl ⟨by rfl, ?hy5⟩) (by assumption) ?rest6
    case hy5 => ((intro w hSw; (try dsimp only at hSw); go_simp) <;> (first | with_reducible rfl | rfl))
    case rest6 =>
    try simp only [Act.put, List.getElem_toArray, List.getElem_cons_zero, List.getElem_cons_succ, List.setIfInBounds_toArray, List.set_cons_zero, List.set_cons_succ]
    refine wpAnyH_take (i := 6) (v := .int .u8 (x.toNat : Int)) rfl (by kernel_rfl) (by kernel_rfl) (by kernel_rfl) (fun _ _ _ h => h) (Or.inl ⟨by rfl, ?hy6⟩) (by assumption) ?rest7
    case hy6 => ((intro w hSw; (try dsimp only at hSw); go_simp) <;> (first | with_reducible rfl | rfl))
    case rest7 =>
    try simp only [Act.put, List.getElem_toArray, List.getElem_cons_zero, List.getElem_cons_succ, List.setIfInBounds_toArray, List.set_cons_zero, List.set_cons_succ]
    refine wpAnyH_ready (rs := [7]) (by kernel_rfl) (by simp) ?_
    refine AllReadyH.cons rfl (fun K hK => ?_) AllReadyH.nil
    go_simp
    go_at_call 182; refine (hI3 _).mono ?_; rintro e9 w8 ⟨rfl, rfl⟩
    refine hK.out _ _ ?hS8 (fun hHeld2 => ?rest8)
    case hS8 => first | (dsimp only; (trivial)) | (trivial)
    case rest8 =>
    clear hK K
    try clear hHeld
    have hHeld := hHeld2
    clear hHeld2
    try simp only [Act.put, List.getElem_toArray, List.getElem_cons_zero, List.getElem_cons_succ, List.setIfInBounds_toArray, List.set_cons_zero, List.set_cons_succ]
    refine wpAnyH_take (i := 8) (v := .int .i64 (-1)) rfl (by kernel_rfl) (by kernel_rfl) (by kernel_rfl) (fun _ _ _ h => h) (Or.inl ⟨by rfl, ?hy8⟩) (by assumption) ?rest9
    case hy8 => ((intro w hSw; (try dsimp only at hSw); go_simp) <;> (first | with_reducible rfl | rfl))
    case rest9 =>
    try simp only [Act.put, List.getElem_toArray, List.getElem_cons_zero, List.getElem_cons_succ, List.setIfInBounds_toArray, List.set_cons_zero, List.set_cons_succ]
    refine wpAnyH_done (by kernel_rfl) ?_ _
    go_wp2
    (try simp only [Exit.inBlock, Exit.then, Exit.noGoto_ret])
    go_ret
    exact ⟨rfl, hS⟩
  · clear hx f1 f2
    go_enter Tryz.func178, Tryz.ntmps178
    go_wp2_with (go_at_call 183; refine (CV _).mono ?_; rintro e9 w9 ⟨rfl, rfl⟩)
    go_step3
    go_wp2
    go_rounds 1
    rw [Exit.noGoto_ret]
    go_ret
    exact ⟨rfl, Below.refl _ _⟩
end Go.Proofs.YtnagecbepidfiaaGreatDoor.Np

namespace Go.Proofs.YtnagecbepidfiaaGreatDoor.Np
set_option maxRecDepth 100000
open Go.Proofs.YtnagecbepidfiaaGreatDoor.Nq
open Go.RowKit
set_option linter.unusedVariables false
set_option linter.unusedSimpArgs false
set_option maxRecDepth 100000

theorem enc_high {r : Nat} (hr : Qm.Sc r) (h : 128 ≤ r) : ∀ b ∈ Lib.encodeRune (r : Int), 128 ≤ b.toNat := by
  obtain ⟨h1, h2⟩ := hr
  have key : ∀ z : Int, 128 ≤ z → z < 256 → 128 ≤ (z.toNat.toUInt8).toNat := fun z a b => by rw [Qm.byteN z (by omega) b]; omega
  intro b hb
  unfold Lib.encodeRune at hb
  obtain ⟨z, hz, rfl⟩ := List.mem_map.1 hb
  have hz2 : 128 ≤ z ∧ z < 256 := by
    by_cases a : r ≤ 2047
    · rw [Lib.encodeRuneZ_two (by omega) (by omega)] at hz
      simp only [List.mem_cons, List.mem_nil_iff, or_false] at hz
      rcases hz with rfl | rfl <;> omega
    · by_cases c : r ≤ 65535
      · rw [Lib.encodeRuneZ_three (by omega)] at hz
        simp only [List.mem_cons, List.mem_nil_iff, or_false] at hz
        rcases hz with rfl | rfl | rfl <;> omega
      · rw [Lib.encodeRuneZ_four (by omega) (by omega)] at hz
        simp only [List.mem_cons, List.mem_nil_iff, or_false] at hz
        rcases hz with rfl | rfl | rfl | rfl <;> omega
  exact key z hz2.1 hz2.2
theorem wide_high (l : List UInt8) (hne : l ≠ []) (h : 128 ≤ (l.getD 0 0).toNat) : ∀ b ∈ l.take (Lib.decodeL l).2, 128 ≤ b.toNat := by
  by_cases hg : Qm.good l
  · rw [← Qm.piece l hne hg]
    exact enc_high (Qm.decode_sc l) (dec_high l h)
  · unfold Qm.good at hg
    rw [Classical.not_not] at hg
    rw [hg.2]
    cases l with
    | nil => exact absurd rfl hne
    | cons c t =>
      intro b hb
      simp at hb
      rw [hb]; exact h
theorem noAny_more {s : List UInt8} {p d : Nat} (h : Lib.NoAny s [46, 91, 42] p) (hd : ∀ b ∈ (s.drop p).take d, 128 ≤ b.toNat) : Lib.NoAny s [46, 91, 42] (p + d) := by
  intro j b hj hb
  by_cases hp : j < p
  · exact h j b hp hb
  · have h1 : b ∈ (s.drop p).take d := by
      rw [List.mem_iff_getElem?]
      refine ⟨j - p, ?_⟩
      rw [List.getElem?_take, if_pos (by omega), List.getElem?_drop, show p + (j - p) = j by omega]
      exact hb
    have h2 := hd b h1
    rw [← Bool.not_eq_true]
    intro hc
    have h3 := List.contains_iff_mem.1 hc
    simp at h3
    rcases h3 with rfl | rfl | rfl <;> exact absurd h2 (by decide)

set_option maxHeartbeats 8000000 in
theorem idx_any8 (s : ByteArray) (h8 : s.size ≤ 8) (i : Int) (hi : Lib.indexAny s.data.toList [46, 91, 42] = i) (w : World) :
    Calls Tryz.prog 174 #[.string s, .string ⟨#[46, 91, 42]⟩] w fun e w' => e = .returned (.int .i64 i) ∧ Below w.heap.size w w' := by
  have HI := phide hi
  have CU : ∀ W, Calls Tryz.prog 179 #[.int .i64 (s.size : Int)] W fun e w' => e = .returned (.bool false) ∧ w' = W := fun W => by
    refine (Any.strings_shouldUseASCIISet (show Go.Proofs.Lays.n226 Tryz.prog Tryz.laysI_ren from { Tryz.laysI_Lays_153 with }) (s.size : Int) W).mono ?_
    rintro e w' ⟨rfl, rfl⟩
    exact ⟨by rw [decide_eq_false (by omega)], rfl⟩
  clear hi
  go_enter Tryz.func174, Tryz.ntmps174
  go_wp2_with (go_at_call 179; refine (CU _).mono ?_; rintro e w ⟨rfl, rfl⟩)
  go_loopw [9, 10] (fun _ _ wr => ∃ pos : Nat, wr.heap[w.heap.size]? = some (.stringIter s pos) ∧ Below w.heap.size w wr ∧ Hid (Lib.NoAny s.data.toList [46, 91, 42] pos) ∧ pos ≤ s.size) (fun _ _ wr => s.size - wr.iterPos w.heap.size)
  case atStart =>
    refine ⟨0, ?_, (Below.refl _ w).alloc (Nat.le_refl _) _, phide (Lib.NoAny.zero _ _), by omega⟩
    have := World.iter_heap w s 0
    simpa using this
  case round =>
    obtain ⟨pos, hit, hbw, HN, hps⟩ := hrel
    have hsz : w.heap.size < wr.heap.size := (Array.getElem?_eq_some_iff.1 hit).1
    by_cases hp : pos < s.size
    · obtain ⟨hne, hd, hdd, hw1, hw2⟩ := at_step s pos hp
      have hg : (s.data.toList.drop pos).getD 0 0 = s[pos]'hp := by
        rw [List.getD, List.getElem?_drop, Nat.add_zero, List.getElem?_eq_getElem (by rw [Array.length_toList]; exact hp)]; rfl
      have hxl : s.data.toList[pos]? = some (s[pos]'hp) := by rw [List.getElem?_eq_getElem (by rw [Array.length_toList]; exact hp)]; rfl
      by_cases ha : (s[pos]'hp).toNat < 128
      · obtain ⟨x, hx⟩ : ∃ x, s[pos]'hp = x := ⟨_, rfl⟩
        have hnx : ∀ ty, (Instr.next (.pointer (some ⟨w.heap.size, 0, none⟩)) true ty).run Tryz.prog wr = _ := fun ty => Lib.run_next_ascii_at wr w.heap.size s pos ty hit hp ha
        rw [hx] at hnx ha hxl
        have hit2 := Lib.iterAt_heap wr w.heap.size s pos (pos + 1) hit
        have hbw2 := Lib.below_iterAt hbw (k := w.heap.size) (by omega) s (pos + 1)
        have hcon := Lib.contains_iff_indexByte [46, 91, 42] x
        have hback : ((x.toNat : Int)).toNat.toUInt8 = x := by simp
        obtain ⟨z, hz⟩ : ∃ z, Lib.indexByte [46, 91, 42] x = z := ⟨_, rfl⟩
        rw [hz] at hcon
        have CR : ∀ W, Calls Tryz.prog 178 #[.string ⟨#[46, 91, 42]⟩, .int .i32 (x.toNat : Int)] W fun e w' => e = .returned (.int .i64 z) ∧ w' = W := fun W => by
          refine (Any.strings_IndexRune_ascii (show Go.Proofs.Lays.n152 Tryz.prog Tryz.laysI_ren from { Tryz.laysI_Lays_153 with }) ⟨#[46, 91, 42]⟩ (x.toNat : Int) W (by omega) (by omega)).mono ?_
          rintro e w' ⟨rfl, rfl⟩
          exact ⟨by rw [hback, ← hz], rfl⟩
        cases hin : List.contains ([46, 91, 42] : List UInt8) x
        · rw [hin] at hcon
          have d1 : decide (0 ≤ z) = false := hcon.symm
          have HN2 := phide ((punhide HN).succ hxl hin)
          clear hne hd hdd hw1 hw2 hg hxl hx ha hcon hback hz hin HN
          go_wp2_with (go_at_call 178; refine (CR _).mono ?_; rintro e w9 ⟨rfl, rfl⟩)
          go_roundw
          case rel => exact ⟨pos + 1, hit2, hbw2, HN2, by omega⟩
          case measure =>
            simp only [World.iterPos, hit2, hit]
            omega
        · rw [hin] at hcon
          have d1 : decide (0 ≤ z) = true := hcon.symm
          have HF : Hid (i = (pos : Int)) := phide (by rw [← punhide HI]; exact Lib.indexAny_hit (punhide HN) hxl hin)
          clear hne hd hdd hw1 hw2 hg hxl hx ha hcon hback hz hin HN
          go_wp2_with (go_at_call 178; refine (CR _).mono ?_; rintro e w9 ⟨rfl, rfl⟩)
          go_ret
          exact ⟨by rw [punhide HF]; rfl, hbw2⟩
      · have hnx : ∀ ty, (Instr.next (.pointer (some ⟨w.heap.size, 0, none⟩)) true ty).run Tryz.prog wr = _ := fun ty => Lib.run_next_any_at wr w.heap.size s pos ty hit hp
        have hh : 128 ≤ ((s.data.toList.drop pos).getD 0 0).toNat := by rw [hg]; omega
        have hsc := Qm.decode_sc (s.data.toList.drop pos)
        have hhi := dec_high (s.data.toList.drop pos) hh
        have hwd := wide_high (s.data.toList.drop pos) hne hh
        rw [hd] at hsc hhi hwd
        obtain ⟨r, hr⟩ : ∃ r, (Utf8.decode s pos).1 = r := ⟨_, rfl⟩
        obtain ⟨d, hdd2⟩ : ∃ d, (Utf8.decode s pos).2 = d := ⟨_, rfl⟩
        rw [hr, hdd2] at hnx
        rw [hr] at hsc hhi
        rw [hdd2] at hwd hw2 hw1
        have hit2 := Lib.iterAt_heap wr w.heap.size s pos (pos + d) hit
        have hbw2 := Lib.below_iterAt hbw (k := w.heap.size) (by omega) s (pos + d)
        have CR := fun W => rune_high r hhi hsc W
        have HN2 := phide (noAny_more (punhide HN) hwd)
        clear hne hd hdd hg hxl ha hh hsc hhi hwd hr hdd2 HN
        go_wp2_with (go_at_call 178; refine (CR _).mono ?_; rintro e w9 ⟨rfl, b9⟩)
        go_roundw
        case rel => exact ⟨pos + d, (b9.block _ (by have := (Array.getElem?_eq_some_iff.1 hit2).1; exact this)).trans hit2, hbw2.trans (b9.mono hbw2.size), HN2, hw2⟩
        case measure =>
          have hit3 := (b9.block _ ((Array.getElem?_eq_some_iff.1 hit2).1)).trans hit2
          simp only [World.iterPos, hit3, hit]
          omega
    · have hnx : ∀ ty, (Instr.next (.pointer (some ⟨w.heap.size, 0, none⟩)) true ty).run Tryz.prog wr = _ := fun ty => Lib.run_next_end_at wr w.heap.size s pos ty hit hp
      have HF : Hid (i = -1) := phide (by
        rw [← punhide HI]
        refine Lib.indexAny_none ?_
        rw [← Lib.size_eq, show s.size = pos by omega]
        exact punhide HN)
      clear HN
      go_wp2
      go_ret
      exact ⟨by rw [punhide HF]; rfl, hbw⟩
theorem idx_any (s : ByteArray) (hs : s.size ≤ 100000) (i : Int) (hi : Lib.indexAny s.data.toList [46, 91, 42] = i) (w : World) :
    Calls Tryz.prog 174 #[.string s, .string ⟨#[46, 91, 42]⟩] w fun e w' => e = .returned (.int .i64 i) ∧ Below w.heap.size w w' := by
  by_cases h8 : s.size ≤ 8
  · exact idx_any8 s h8 i hi w
  · refine (Tryz.strings_IndexAny_long s ⟨#[46, 91, 42]⟩ w (by decide) (by omega) (by omega) (by decide) ?_).mono ?_
    · intro j b hj
      have := List.mem_of_getElem? hj
      simp at this
      rcases this with rfl | rfl | rfl <;> decide
    · rintro e w' ⟨rfl, hb⟩
      exact ⟨by rw [← hi], hb⟩
end Go.Proofs.YtnagecbepidfiaaGreatDoor.Np
