/- What is proved here: what mayStep and May of package path, and the document's own may and May, do with steps that lie, walked; conditions: the tables of unicode/utf8 lie, and as each theorem states. What is proved here: what the document's own may, May, one and Match do with steps that lie, walked; conditions: as each theorem states. -/
import Derived.Test.YtnagecbepidfiaaGreatDoorZBe
import Derived.Test.YtnagecbepidfiaaGreatDoorZBc
import Derived.Deep.OwnRows
import Derived.Deep.DeepCutAuto
import Derived.Deep.CutRange
import Derived.Deep.CutBlock
import Derived.Deep.RegionWith
namespace Go.Proofs.YtnagecbepidfiaaGreatDoor.Np
set_option maxRecDepth 100000
open Go.RowKit
set_option linter.unusedVariables false
set_option linter.unusedSimpArgs false

/-- Whether a step may be. -/
def mayB (t : Pm.St) : Bool := decide (t = Pm.bareS t) && (if t.k = 1 then decide (t.s.size ≤ 24) && Lib.validD t.s.data.toList else if t.k = 2 then decide (0 ≤ t.n) && decide (t.n ≤ 9999) else decide (3 ≤ t.k) && decide (t.k ≤ 5))
def mayE (L : List Pm.St) : Int := if 8 < L.length then 3 else if L.all mayB then 0 else 21
theorem mayB_cl {t : Pm.St} (h : mayB t = true) : Pm.Cl t := by
  unfold mayB at h
  rw [Bool.and_eq_true, decide_eq_true_eq] at h
  refine ⟨h.1.symm, ?_⟩
  by_cases h1 : t.k = 1
  · omega
  by_cases h2 : t.k = 2
  · omega
  rw [if_neg h1, if_neg h2, Bool.and_eq_true, decide_eq_true_eq, decide_eq_true_eq] at h
  omega
theorem mayE_len {L : List Pm.St} (h : mayE L = 0) : L.length ≤ 8 ∧ ∀ t ∈ L, mayB t = true := by
  unfold mayE at h
  split at h
  · cases h
  · split at h
    · rename_i h1 h2
      exact ⟨by omega, List.all_eq_true.1 h2⟩
    · cases h
theorem tabs_step {w w' : World} (h : Tabs w) (hb : Below w.heap.size w w') : Tabs w' := Utf8Tabs_below h hb

theorem pempty_yes {s : ByteArray} (h : s.size = 0) : s.toList.isEmpty = true := by
  rw [ByteArray.toList_eq, List.isEmpty_iff]
  exact List.eq_nil_of_length_eq_zero h
theorem pempty_no {s : ByteArray} (h : s.size ≠ 0) : s.toList.isEmpty = false := by
  rw [ByteArray.toList_eq]
  cases e : s.data.toList with
  | nil => exact absurd (congrArg List.length e) h
  | cons => rfl
theorem ret_b {a b : Bool} (h : b = a) : Ending.returned (.bool a) = .returned (.bool b) := by rw [h]
set_option maxRecDepth 100000 in
set_option maxHeartbeats 2000000 in
theorem mayStep_any (t : Pm.St) (q : Bool) (hq : mayB t = q) (w : World) (hT : Tabs w) : Calls Tryz.prog 114 #[valS t] w fun e w' => e = .returned (.bool q) ∧ Below w.heap.size w w' := by
  have hT2 : Hid (∀ W, Below w.heap.size w W → Tabs W) := phide (fun W hB => tabs_step hT hB)
  obtain ⟨b, hb⟩ : ∃ b, Pm.bareS t = b := ⟨_, rfl⟩
  have CB := fun W => bare_any t b hb W
  obtain ⟨y, hy⟩ : ∃ y, (!decide (t = b)) = y := ⟨_, rfl⟩
  have hNE := fun W => neq_step' t b y hy W
  have hGD := guard_stepN
  have HQ : Hid (q = (!y && (if t.k = 1 then decide (t.s.size ≤ 24) && Lib.validD t.s.data.toList else if t.k = 2 then decide (0 ≤ t.n) && decide (t.n ≤ 9999) else decide (3 ≤ t.k) && decide (t.k ≤ 5)))) := phide (by
    rw [← hq, ← hy, ← hb]; unfold mayB; rw [Bool.not_not])
  have CV : t.s.size ≤ 24 → ∀ W, Tabs W → _ := fun h W hT => valid_any t.s W (by omega) hT
  obtain ⟨k, s, n⟩ := t
  obtain ⟨bk, bs, bn⟩ := b
  unfold valS at *
  simp only [] at *
  clear hq hb hy hT
  go_enter Tryz.func114, Tryz.ntmps114
  go_wp2_with fail
  have hB0 : Below w.heap.size w (w.alloc (.cells #[.int .i64 k, .string s, .int .i64 n] 57)) := (Below.refl _ _).alloc (Nat.le_refl _) _
  have b0 : (w.alloc (.cells #[.int .i64 k, .string s, .int .i64 n] 57)).cell? ⟨w.heap.size, 0, none⟩ = some (.int .i64 k) := by go_simp
  have b1 : (w.alloc (.cells #[.int .i64 k, .string s, .int .i64 n] 57)).cell? ⟨w.heap.size, 1, none⟩ = some (.string s) := by go_simp
  have b2 : (w.alloc (.cells #[.int .i64 k, .string s, .int .i64 n] 57)).cell? ⟨w.heap.size, 2, none⟩ = some (.int .i64 n) := by go_simp
  have hlt : w.heap.size < (w.alloc (.cells #[.int .i64 k, .string s, .int .i64 n] 57)).heap.size := by simp
  generalize w.alloc (.cells #[.int .i64 k, .string s, .int .i64 n] 57) = W4 at *
  have HT : Hid (∀ W, Below W4.heap.size W4 W → Tabs W) := phide (fun W hB => punhide hT2 W (hB0.trans (hB.mono (Nat.le_of_lt hlt))))
  generalize hbb : w.heap.size = B at *
  have HSB : Hid (∀ W, Below W4.heap.size W4 W → (W.cell? ⟨B, 0, none⟩ = some (.int .i64 k) ∧ W.cell? ⟨B, 1, none⟩ = some (.string s) ∧ W.cell? ⟨B, 2, none⟩ = some (.int .i64 n))) :=
    phide (fun W hB => ⟨(hB.cell (p := ⟨B, 0, none⟩) hlt).trans b0, (hB.cell (p := ⟨B, 1, none⟩) hlt).trans b1, (hB.cell (p := ⟨B, 2, none⟩) hlt).trans b2⟩)
  have HE : Hid (∀ W, Below W4.heap.size W4 W → Below B w W) := phide (fun W hB => hB0.trans (hB.mono (Nat.le_of_lt hlt)))
  have hS : Below W4.heap.size W4 W4.drew := (Below.refl _ _).drew
  have HBB := phide hbb
  clear b0 b1 b2 hB0 hlt hbb hT2
  cases y
  · replace HQ := phide ((punhide HQ).trans (Bool.true_and _))
    by_cases h1 : k = 1
    · subst h1
      replace HQ := phide ((punhide HQ).trans (if_pos rfl))
      by_cases h24 : s.size ≤ 24
      · have d1 : decide ((s.size : Int) ≤ 24) = true := decide_eq_true (by omega)
        replace HQ := phide ((punhide HQ).trans (by rw [decide_eq_true h24, Bool.true_and]))
        go_region_held3 (fun w' => w'.cell? ⟨B, 0, none⟩ = some (.int .i64 1) ∧ w'.cell? ⟨B, 1, none⟩ = some (.string s) ∧ w'.cell? ⟨B, 2, none⟩ = some (.int .i64 n)) (exact punhide HSB _ hS)
          (first | (go_at_call 120; refine (CB _).mono ?_; rintro e w2 ⟨rfl, b9⟩; replace hS := hS.trans (b9.mono hS.size); clear b9))
        all_goals
          obtain ⟨a0, a1, a2⟩ := punhide HSB _ hS
          have hT := punhide HT _ hS
          go_wp2_with (go_at_call 44; refine (CV h24 _ hT).mono ?_; rintro e w2 ⟨rfl, b9⟩; replace hS := hS.trans (b9.mono hS.size); clear b9)
          go_ret
          exact ⟨ret_b (punhide HQ), by rw [punhide HBB]; exact punhide HE _ hS⟩
      · have d1 : decide ((s.size : Int) ≤ 24) = false := decide_eq_false (by omega)
        replace HQ := phide ((punhide HQ).trans (by rw [decide_eq_false h24, Bool.false_and]))
        go_region_held3 (fun w' => w'.cell? ⟨B, 0, none⟩ = some (.int .i64 1) ∧ w'.cell? ⟨B, 1, none⟩ = some (.string s) ∧ w'.cell? ⟨B, 2, none⟩ = some (.int .i64 n)) (exact punhide HSB _ hS)
          (first | (go_at_call 120; refine (CB _).mono ?_; rintro e w2 ⟨rfl, b9⟩; replace hS := hS.trans (b9.mono hS.size); clear b9))
        all_goals
          obtain ⟨a0, a1, a2⟩ := punhide HSB _ hS
          go_wp2
          go_ret
          exact ⟨ret_b (punhide HQ), by rw [punhide HBB]; exact punhide HE _ hS⟩
    · have e1 : (k == 1) = false := beq_eq_false_iff_ne.2 h1
      replace HQ := phide ((punhide HQ).trans (if_neg h1))
      by_cases h2 : k = 2
      · subst h2
        replace HQ := phide ((punhide HQ).trans (if_pos rfl))
        by_cases h3 : 0 ≤ n
        · have d1 : decide (0 ≤ n) = true := decide_eq_true h3
          rw [d1] at HQ
          go_region_held3 (fun w' => w'.cell? ⟨B, 0, none⟩ = some (.int .i64 2) ∧ w'.cell? ⟨B, 1, none⟩ = some (.string s) ∧ w'.cell? ⟨B, 2, none⟩ = some (.int .i64 n)) (exact punhide HSB _ hS)
            (first | (go_at_call 120; refine (CB _).mono ?_; rintro e w2 ⟨rfl, b9⟩; replace hS := hS.trans (b9.mono hS.size); clear b9))
          all_goals
            obtain ⟨a0, a1, a2⟩ := punhide HSB _ hS
            go_wp2
            go_ret
            exact ⟨ret_b ((punhide HQ).trans (Bool.true_and _)), by rw [punhide HBB]; exact punhide HE _ hS⟩
        · have d1 : decide (0 ≤ n) = false := decide_eq_false h3
          rw [d1] at HQ
          go_region_held3 (fun w' => w'.cell? ⟨B, 0, none⟩ = some (.int .i64 2) ∧ w'.cell? ⟨B, 1, none⟩ = some (.string s) ∧ w'.cell? ⟨B, 2, none⟩ = some (.int .i64 n)) (exact punhide HSB _ hS)
            (first | (go_at_call 120; refine (CB _).mono ?_; rintro e w2 ⟨rfl, b9⟩; replace hS := hS.trans (b9.mono hS.size); clear b9))
          all_goals
            obtain ⟨a0, a1, a2⟩ := punhide HSB _ hS
            go_wp2
            go_ret
            exact ⟨ret_b ((punhide HQ).trans (Bool.false_and _)), by rw [punhide HBB]; exact punhide HE _ hS⟩
      · have e2 : (k == 2) = false := beq_eq_false_iff_ne.2 h2
        replace HQ := phide ((punhide HQ).trans (if_neg h2))
        by_cases h3 : 3 ≤ k
        · have d1 : decide (3 ≤ k) = true := decide_eq_true h3
          rw [d1] at HQ
          clear h1 h2
          go_region_held3 (fun w' => w'.cell? ⟨B, 0, none⟩ = some (.int .i64 k) ∧ w'.cell? ⟨B, 1, none⟩ = some (.string s) ∧ w'.cell? ⟨B, 2, none⟩ = some (.int .i64 n)) (exact punhide HSB _ hS)
            (first | (go_at_call 120; refine (CB _).mono ?_; rintro e w2 ⟨rfl, b9⟩; replace hS := hS.trans (b9.mono hS.size); clear b9))
          all_goals
            obtain ⟨a0, a1, a2⟩ := punhide HSB _ hS
            go_wp2
            go_ret
            exact ⟨ret_b ((punhide HQ).trans (Bool.true_and _)), by rw [punhide HBB]; exact punhide HE _ hS⟩
        · have d1 : decide (3 ≤ k) = false := decide_eq_false h3
          rw [d1] at HQ
          clear h1 h2
          go_region_held3 (fun w' => w'.cell? ⟨B, 0, none⟩ = some (.int .i64 k) ∧ w'.cell? ⟨B, 1, none⟩ = some (.string s) ∧ w'.cell? ⟨B, 2, none⟩ = some (.int .i64 n)) (exact punhide HSB _ hS)
            (first | (go_at_call 120; refine (CB _).mono ?_; rintro e w2 ⟨rfl, b9⟩; replace hS := hS.trans (b9.mono hS.size); clear b9))
          all_goals
            obtain ⟨a0, a1, a2⟩ := punhide HSB _ hS
            go_wp2
            go_ret
            exact ⟨ret_b ((punhide HQ).trans (Bool.false_and _)), by rw [punhide HBB]; exact punhide HE _ hS⟩
  · replace HQ := phide ((punhide HQ).trans (Bool.false_and _))
    go_region_held3 (fun w' => w'.cell? ⟨B, 0, none⟩ = some (.int .i64 k) ∧ w'.cell? ⟨B, 1, none⟩ = some (.string s) ∧ w'.cell? ⟨B, 2, none⟩ = some (.int .i64 n)) (exact punhide HSB _ hS)
      (first | (go_at_call 120; refine (CB _).mono ?_; rintro e w2 ⟨rfl, b9⟩; replace hS := hS.trans (b9.mono hS.size); clear b9))
    all_goals
      obtain ⟨a0, a1, a2⟩ := punhide HSB _ hS
      go_wp2
      go_ret
      exact ⟨ret_b (punhide HQ), by rw [punhide HBB]; exact punhide HE _ hS⟩

set_option maxRecDepth 100000 in
theorem may_any (a : Option Addr) (n c : Nat) (L : List Pm.St) (q : Int) (hq : mayE L = q) (hn2 : n ≤ 1000) (w : World) (hT : Tabs w) (hs : StepsIn w a n L) :
    Calls Tryz.prog 79 #[.slice a n c] w fun e w' => e = .returned (.int .i64 q) ∧ Below w.heap.size w w' := by
  have HQ := phide hq
  have hL := hs.1
  clear hq
  by_cases h8 : 8 < n
  · have d1 : (8 : Int) < (n : Int) := by omega
    have HF : Hid (q = 3) := phide (by rw [← punhide HQ]; unfold mayE; rw [if_pos (by omega)])
    go_enter Tryz.func79, Tryz.ntmps79
    go_wp2
    go_ret
    exact ⟨by rw [punhide HF]; rfl, Below.refl _ _⟩
  · have d1 : ¬ (8 : Int) < (n : Int) := by omega
    have HF : Hid (q = if L.all mayB then 0 else 21) := phide (by rw [← punhide HQ]; unfold mayE; rw [if_neg (by omega)])
    clear HQ
    go_enter Tryz.func79, Tryz.ntmps79
    go_wp2
    go_loopw [10] (fun i wr => ∃ k : Nat, i = .int .i64 (k : Int) ∧ k ≤ n ∧ Hid ((L.take k).all mayB = true) ∧ Below w.heap.size w wr) (fun i _ => n - (intOf i).toNat)
    case atStart => exact ⟨0, rfl, by omega, phide rfl, Below.refl _ _⟩
    case round =>
      obtain ⟨k, rfl, hk, HP, hB⟩ := hrel
      by_cases hlt : k < n
      · obtain ⟨b, o, rfl, hrow⟩ := hs.2.resolve_left (by omega)
        obtain ⟨c0, c1, c2⟩ := (hrow.step hB).2 k (by omega)
        obtain ⟨t, ht⟩ : ∃ t, L[k]'(by omega) = t := ⟨_, rfl⟩
        rw [ht] at c0 c1 c2
        have hall : (L.take (k + 1)).all mayB = mayB t := by rw [List.take_succ_eq_append_getElem (by omega), List.all_append, punhide HP, ht]; simp
        have hno : mayB t = false → q = 21 := by
          intro h
          rw [punhide HF, if_neg]
          rw [Bool.not_eq_true, List.all_eq_false]
          exact ⟨t, by rw [← ht]; exact List.getElem_mem _, by rw [h]; simp⟩
        obtain ⟨y, hy⟩ : ∃ y, mayB t = y := ⟨_, rfl⟩
        have CM := fun W => mayStep_any t y hy W
        rw [hy] at hall hno
        have HALL := phide hall
        have HNO := phide hno
        have hTr : Tabs (wr.alloc (.cells #[.int .i64 t.k, .string t.s, .int .i64 t.n] 57)) := tabs_step hT (hB.alloc hB.size _)
        obtain ⟨tk, ts, tn⟩ := t
        unfold valS at CM
        simp only [] at c0 c1 c2 CM hTr
        have hB2 := hB.alloc hB.size (.cells #[.int .i64 tk, .string ts, .int .i64 tn] 57)
        clear ht hy hall hno hs hrow HF HP hL h8
        cases y
        · have HN2 := phide (punhide HNO rfl)
          clear HNO HALL
          go_wp2_with (go_at_call 114; refine (CM _ hTr).mono ?_; rintro e w2 ⟨rfl, b9⟩; replace hB2 := hB2.trans (b9.mono hB2.size))
          go_ret
          exact ⟨by rw [punhide HN2]; rfl, hB2⟩
        · clear HNO
          go_wp2_with (go_at_call 114; refine (CM _ hTr).mono ?_; rintro e w2 ⟨rfl, b9⟩; replace hB2 := hB2.trans (b9.mono hB2.size))
          go_roundw
          case rel => exact ⟨k + 1, by go_num, by omega, HALL, hB2⟩
          case measure => simp [intOf]; omega
      · have HF2 : Hid (q = 0) := phide (by
          have h := punhide HP
          rw [List.take_of_length_le (by omega)] at h
          rw [punhide HF, if_pos h])
        have d1 : decide ((k : Int) < (n : Int)) = false := decide_eq_false (by omega)
        clear HF HP hs
        go_wp2
        go_ret
        exact ⟨by rw [punhide HF2]; rfl, hB⟩
end Go.Proofs.YtnagecbepidfiaaGreatDoor.Np

namespace Go.Proofs.YtnagecbepidfiaaGreatDoor.Np
set_option maxRecDepth 100000
open Go.RowKit
set_option linter.unusedVariables false
set_option linter.unusedSimpArgs false

theorem nul_iff (s : ByteArray) : s = Pm.nul ↔ s.size = 0 := by
  constructor
  · rintro rfl; rfl
  · intro h
    obtain ⟨⟨l⟩⟩ := s
    have : l = [] := List.eq_nil_of_length_eq_zero h
    subst this; rfl
theorem mayB_1 (s : ByteArray) (n : Int) : mayB ⟨1, s, n⟩ = (decide (n = 0) && (decide (s.size ≤ 24) && Lib.validD s.data.toList)) := by
  unfold mayB Pm.bareS
  simp only [if_pos]
  congr 1
  rw [Bool.eq_iff_iff]
  simp
theorem mayB_2 (s : ByteArray) (n : Int) : mayB ⟨2, s, n⟩ = (decide (s.size = 0) && (decide (0 ≤ n) && decide (n ≤ 9999))) := by
  unfold mayB Pm.bareS
  simp only [if_pos, show ¬ (2 : Int) = 1 by decide, if_false]
  congr 1
  rw [Bool.eq_iff_iff]
  simp [nul_iff]
theorem mayB_o (k : Int) (s : ByteArray) (n : Int) (h1 : k ≠ 1) (h2 : k ≠ 2) : mayB ⟨k, s, n⟩ = (decide (s.size = 0) && decide (n = 0) && (decide (3 ≤ k) && decide (k ≤ 5))) := by
  unfold mayB Pm.bareS
  simp only [if_neg h1, if_neg h2]
  congr 1
  rw [Bool.eq_iff_iff]
  simp [nul_iff]
theorem or_le (k : Int) (h1 : k ≠ 1) (h2 : k ≠ 2) : (decide (1 ≤ k) && decide (k ≤ 5)) = (decide (3 ≤ k) && decide (k ≤ 5)) := by
  rw [Bool.eq_iff_iff]; simp; omega

set_option maxRecDepth 100000 in
set_option maxHeartbeats 2000000 in
theorem rmay1_any (t : Pm.St) (q : Bool) (hq : mayB t = q) (w : World) : Calls Tryz.prog 65 #[valS t] w fun e w' => e = .returned (.bool q) ∧ Below w.heap.size w w' := by
  obtain ⟨k, s, n⟩ := t
  have hB0 : Below w.heap.size w (w.alloc (.cells #[.int .i64 k, .string s, .int .i64 n] 57)) := (Below.refl _ _).alloc (Nat.le_refl _) _
  unfold valS
  by_cases h1 : k = 1
  · subst h1
    rw [mayB_1] at hq
    have CV : s.size ≤ 24 → ∀ W, _ := fun h W => ref_valid s (by omega) _ rfl W
    obtain ⟨v, hv⟩ : ∃ v, Lib.validD s.data.toList = v := ⟨_, rfl⟩
    rw [hv] at CV hq
    have HQ := phide hq
    by_cases h24 : s.size ≤ 24
    · have d1 : decide ((s.size : Int) ≤ 24) = true := decide_eq_true (by omega)
      have CV2 := CV h24
      have HD : Hid (decide (s.size ≤ 24) = true) := phide (decide_eq_true h24)
      obtain ⟨z, hz⟩ : ∃ z, (n == 0) = z := ⟨_, rfl⟩
      have HZ := phide hz
      cases v <;> cases z <;> (
        clear hq hv CV h24
        go_enter Tryz.func65, Tryz.ntmps65
        go_wp2_with (go_at_call 40; refine (CV2 _).mono ?_; rintro e w2 ⟨rfl, rfl⟩)
        go_ret
        exact ⟨ret_b (by rw [← punhide HQ, punhide HD]; have := punhide HZ; simp at this; simp [this]), hB0⟩)
    · have d1 : decide ((s.size : Int) ≤ 24) = false := decide_eq_false (by omega)
      go_enter Tryz.func65, Tryz.ntmps65
      go_wp2
      go_ret
      exact ⟨ret_b (by rw [← punhide HQ, decide_eq_false h24]; simp), hB0⟩
  · have e1 : (k == 1) = false := beq_eq_false_iff_ne.2 h1
    obtain ⟨y, hy⟩ : ∃ y, s.toList.isEmpty = y := ⟨_, rfl⟩
    have hy2 : decide (s.size = 0) = y := by
      rw [← hy]
      by_cases h0 : s.size = 0
      · rw [pempty_yes h0, decide_eq_true h0]
      · rw [pempty_no h0, decide_eq_false h0]
    by_cases h2 : k = 2
    · subst h2
      rw [mayB_2, hy2] at hq
      have HQ := phide hq
      clear hq hy2 h1
      by_cases h3 : 0 ≤ n
      · have d1 : decide (0 ≤ n) = true := decide_eq_true h3
        rw [d1] at HQ
        by_cases h4 : n ≤ 9999
        · have d2 : decide (n ≤ 9999) = true := decide_eq_true h4
          rw [d2] at HQ
          cases y <;> (
            go_enter Tryz.func65, Tryz.ntmps65
            go_wp2
            go_ret
            exact ⟨ret_b (by rw [← punhide HQ]; rfl), hB0⟩)
        · have d2 : decide (n ≤ 9999) = false := decide_eq_false h4
          rw [d2] at HQ
          cases y <;> (
            go_enter Tryz.func65, Tryz.ntmps65
            go_wp2
            go_ret
            exact ⟨ret_b (by rw [← punhide HQ]; rfl), hB0⟩)
      · have d1 : decide (0 ≤ n) = false := decide_eq_false h3
        rw [d1] at HQ
        cases y <;> (
          go_enter Tryz.func65, Tryz.ntmps65
          go_wp2
          go_ret
          exact ⟨ret_b (by rw [← punhide HQ]; rfl), hB0⟩)
    · have e2 : (k == 2) = false := beq_eq_false_iff_ne.2 h2
      rw [mayB_o k s n h1 h2, hy2, ← or_le k h1 h2] at hq
      have HQ := phide hq
      clear hq hy2
      obtain ⟨z, hz⟩ : ∃ z, (n == 0) = z := ⟨_, rfl⟩
      have HZ : Hid (decide (n = 0) = z) := phide (by rw [← hz]; rfl)
      by_cases h3 : 1 ≤ k
      · have d1 : decide (1 ≤ k) = true := decide_eq_true h3
        rw [d1] at HQ
        by_cases h4 : k ≤ 5
        · have d2 : decide (k ≤ 5) = true := decide_eq_true h4
          rw [d2] at HQ
          clear h1 h2 h3 h4
          cases y <;> cases z <;> (
            go_enter Tryz.func65, Tryz.ntmps65
            go_wp2
            go_ret
            exact ⟨ret_b (by rw [← punhide HQ, punhide HZ]; rfl), hB0⟩)
        · have d2 : decide (k ≤ 5) = false := decide_eq_false h4
          rw [d2] at HQ
          clear h1 h2 h3 h4 hy
          go_enter Tryz.func65, Tryz.ntmps65
          go_wp2
          go_ret
          exact ⟨ret_b (by rw [← punhide HQ]; simp), hB0⟩
      · have d1 : decide (1 ≤ k) = false := decide_eq_false h3
        rw [d1] at HQ
        clear h1 h2 h3 hy
        go_enter Tryz.func65, Tryz.ntmps65
        go_wp2
        go_ret
        exact ⟨ret_b (by rw [← punhide HQ]; simp), hB0⟩

set_option maxRecDepth 100000 in
theorem rmay_any (a : Option Addr) (n c : Nat) (L : List Pm.St) (q : Int) (hq : mayE L = q) (hn2 : n ≤ 1000) (w : World) (hs : StepsIn w a n L) :
    Calls Tryz.prog 24 #[.slice a n c] w fun e w' => e = .returned (.int .i64 q) ∧ Below w.heap.size w w' := by
  have HQ := phide hq
  have hL := hs.1
  clear hq
  by_cases h8 : 8 < n
  · have d1 : (8 : Int) < (n : Int) := by omega
    have HF : Hid (q = 3) := phide (by rw [← punhide HQ]; unfold mayE; rw [if_pos (by omega)])
    go_enter Tryz.func24, Tryz.ntmps24
    go_wp2
    go_ret
    exact ⟨by rw [punhide HF]; rfl, Below.refl _ _⟩
  · have d1 : ¬ (8 : Int) < (n : Int) := by omega
    have HF : Hid (q = if L.all mayB then 0 else 21) := phide (by rw [← punhide HQ]; unfold mayE; rw [if_neg (by omega)])
    clear HQ
    go_enter Tryz.func24, Tryz.ntmps24
    go_wp2
    go_loopw [3] (fun i wr => ∃ k : Nat, i = .int .i64 (k : Int) ∧ k ≤ n ∧ Hid ((L.take k).all mayB = true) ∧ Below w.heap.size w wr) (fun i _ => n - (intOf i).toNat)
    case atStart => exact ⟨0, rfl, by omega, phide rfl, Below.refl _ _⟩
    case round =>
      obtain ⟨k, rfl, hk, HP, hB⟩ := hrel
      by_cases hlt : k < n
      · obtain ⟨b, o, rfl, hrow⟩ := hs.2.resolve_left (by omega)
        obtain ⟨c0, c1, c2⟩ := (hrow.step hB).2 k (by omega)
        obtain ⟨t, ht⟩ : ∃ t, L[k]'(by omega) = t := ⟨_, rfl⟩
        rw [ht] at c0 c1 c2
        have hall : (L.take (k + 1)).all mayB = mayB t := by rw [List.take_succ_eq_append_getElem (by omega), List.all_append, punhide HP, ht]; simp
        have hno : mayB t = false → q = 21 := by
          intro h
          rw [punhide HF, if_neg]
          rw [Bool.not_eq_true, List.all_eq_false]
          exact ⟨t, by rw [← ht]; exact List.getElem_mem _, by rw [h]; simp⟩
        obtain ⟨y, hy⟩ : ∃ y, mayB t = y := ⟨_, rfl⟩
        have CM := fun W => rmay1_any t y hy W
        rw [hy] at hall hno
        have HALL := phide hall
        have HNO := phide hno
        obtain ⟨tk, ts, tn⟩ := t
        unfold valS at CM
        simp only [] at c0 c1 c2 CM
        clear ht hy hall hno hs hrow HF HP hL h8
        cases y
        · have HN2 := phide (punhide HNO rfl)
          clear HNO HALL
          go_wp2_with (go_at_call 65; refine (CM _).mono ?_; rintro e w2 ⟨rfl, b9⟩; replace hB := hB.trans (b9.mono hB.size))
          go_ret
          exact ⟨by rw [punhide HN2]; rfl, hB⟩
        · clear HNO
          go_wp2_with (go_at_call 65; refine (CM _).mono ?_; rintro e w2 ⟨rfl, b9⟩; replace hB := hB.trans (b9.mono hB.size))
          go_roundw
          case rel => exact ⟨k + 1, by go_num, by omega, HALL, hB⟩
          case measure => simp [intOf]; omega
      · have HF2 : Hid (q = 0) := phide (by
          have h := punhide HP
          rw [List.take_of_length_le (by omega)] at h
          rw [punhide HF, if_pos h])
        have d1 : decide ((k : Int) < (n : Int)) = false := decide_eq_false (by omega)
        clear HF HP hs
        go_wp2
        go_ret
        exact ⟨by rw [punhide HF2]; rfl, hB⟩
end Go.Proofs.YtnagecbepidfiaaGreatDoor.Np
