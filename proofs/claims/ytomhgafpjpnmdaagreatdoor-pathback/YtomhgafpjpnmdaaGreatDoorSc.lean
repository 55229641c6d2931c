/- What is proved here: what Parse of package path answers at any text: every row of steps that may be is read back from what it prints, and what is read prints what was read; conditions: the tables and the two errors lie. -/
import Derived.Test.YtomhgafpjpnmdaaGreatDoorSb
import Derived.Test.YtomhgafpjpnmdaaGreatDoorPo
namespace Go.Proofs.YtomhgafpjpnmdaaGreatDoor
open Go.RowKit
set_option linter.unusedVariables false
set_option linter.unusedSimpArgs false

theorem pr_head {t : Pm.St} (h : mayB t = true) : ∃ c u, prL t = c :: u ∧ (c = 46 ∨ c = 91 ∨ c = 42) := by
  rcases form_of h with ⟨c, k, _, _, _, _, p⟩ | ⟨q, _, _, _, _, p⟩ | ⟨d, ds, _, _, _, _, p⟩ | ⟨_, p⟩ | ⟨_, p⟩ | ⟨_, p⟩ <;> exact ⟨_, _, p, by simp⟩
theorem okR_flat (L : List Pm.St) (h : ∀ t ∈ L, mayB t = true) : OkR (L.flatMap prL) := by
  cases L with
  | nil => exact .inl rfl
  | cons t M =>
    obtain ⟨c, u, e, hc⟩ := pr_head (h t (by simp))
    exact .inr ⟨c, u ++ M.flatMap prL, by rw [List.flatMap_cons, e]; rfl, hc⟩
def RdAll (RD : ByteArray → Pm.St × Nat) : Prop := ∀ s : ByteArray, s.size ≠ 0 → s.size ≤ 4000 → RdOk s (RD s).1 (RD s).2
theorem rd_all : ∃ RD, RdAll RD := by
  have h : ∀ s : ByteArray, ∃ x : Pm.St × Nat, s.size ≠ 0 → s.size ≤ 4000 → RdOk s x.1 x.2 := by
    intro s
    by_cases h0 : s.size ≠ 0 ∧ s.size ≤ 4000
    · obtain ⟨t, n, h⟩ := readStep_ex s h0.1 h0.2
      exact ⟨(t, n), fun _ _ => h⟩
    · exact ⟨(Pm.deepS, 0), fun h1 h2 => absurd ⟨h1, h2⟩ h0⟩
  exact ⟨fun s => Classical.choose (h s), fun s => Classical.choose_spec (h s)⟩
theorem extr_to (s : ByteArray) (n : Nat) : (s.extract n s.size).data.toList = s.data.toList.drop n := by
  rw [Lib.extract_data, List.take_of_length_le]
  rw [List.length_drop, Array.length_toList]; show s.size - n ≤ _; omega
theorem size_of (s : ByteArray) : s.data.toList.length = s.size := by rw [Array.length_toList]; rfl
theorem gos_print {RD : ByteArray → Pm.St × Nat} (hRD : RdAll RD) : ∀ (f : Nat) (L : List Pm.St) (r : ByteArray), r.size ≤ f → r.size ≤ 4000 → (∀ t ∈ L, mayB t = true) → r.data.toList = L.flatMap prL → goS RD f r = (true, L)
  | f, [], r, hf, h4, hm, he => by
    have h0 : r.size = 0 := by rw [← size_of, he]; rfl
    cases f with
    | zero => rfl
    | succ f => unfold goS; rw [if_pos h0]
  | f, t :: M, r, hf, h4, hm, he => by
    have ht := hm t (by simp)
    have hM : ∀ t ∈ M, mayB t = true := fun x hx => hm x (by simp [hx])
    have hl : r.size = (prL t).length + (M.flatMap prL).length := by rw [← size_of, he, List.flatMap_cons, List.length_append]
    obtain ⟨c, u, e, _⟩ := pr_head ht
    have hpos : 1 ≤ (prL t).length := by rw [e]; simp
    cases f with
    | zero => omega
    | succ f =>
      obtain ⟨h1, _, h3⟩ := hRD r (by omega) h4
      obtain ⟨e1, e2⟩ := h3 t (M.flatMap prL) ht (okR_flat M hM) (by rw [he, List.flatMap_cons])
      have hd : (r.extract (prL t).length r.size).data.toList = M.flatMap prL := by rw [extr_to, he, List.flatMap_cons, List.drop_left]
      have hs : (r.extract (prL t).length r.size).size = (M.flatMap prL).length := by rw [← size_of, hd]
      unfold goS
      rw [if_neg (by omega), e1, e2, ht, he, List.flatMap_cons, List.take_left]
      rw [gos_print hRD f M _ (by omega) (by omega) hM hd]
      simp
theorem gos_back {RD : ByteArray → Pm.St × Nat} (hRD : RdAll RD) : ∀ (f : Nat) (L : List Pm.St) (r : ByteArray), r.size ≤ f → r.size ≤ 4000 → goS RD f r = (true, L) → (∀ t ∈ L, mayB t = true) ∧ r.data.toList = L.flatMap prL
  | 0, L, r, hf, h4, he => by
    have e0 : r.data.toList = [] := List.eq_nil_of_length_eq_zero (by rw [size_of]; omega)
    unfold goS at he
    obtain rfl := (Prod.mk.inj he).2
    exact ⟨fun t ht => (by cases ht), by rw [e0]; rfl⟩
  | f + 1, L, r, hf, h4, he => by
    unfold goS at he
    split at he
    · rename_i h0
      have e0 : r.data.toList = [] := List.eq_nil_of_length_eq_zero (by rw [size_of]; omega)
      obtain rfl := (Prod.mk.inj he).2
      exact ⟨fun t ht => (by cases ht), by rw [e0]; rfl⟩
    · rename_i h0
      split at he
      · rename_i hc
        rw [Bool.and_eq_true, decide_eq_true_eq] at hc
        obtain ⟨h1, _, _⟩ := hRD r h0 h4
        obtain ⟨q1, q2⟩ := pr_pos hc.2 h1
        obtain ⟨g1, g2⟩ := Prod.mk.inj he
        obtain ⟨i1, i2⟩ := gos_back hRD f (goS RD f (r.extract (RD r).2 r.size)).2 (r.extract (RD r).2 r.size) (by omega) (by omega) (by rw [← g1])
        rw [← g2]
        refine ⟨fun t ht => ?_, ?_⟩
        · rcases List.mem_cons.1 ht with rfl | ht
          · exact hc.1
          · exact i1 t ht
        · rw [List.flatMap_cons, ← i2, hc.2, extr_to, List.take_append_drop]
      · exact absurd (Prod.mk.inj he).1 (by simp)

/-- What Parse answers at any text. -/
def ParseOk (s : ByteArray) (ok : Bool) (L : List Pm.St) : Prop :=
  (ok = true → L.length ≤ 8 ∧ (∀ t ∈ L, mayB t = true) ∧ ptL L = s.data.toList) ∧ (∀ M : List Pm.St, M.length ≤ 8 → (∀ t ∈ M, mayB t = true) → ptL M = s.data.toList → ok = true ∧ L = M) ∧
  ∀ w, Tabs w → Pow w → Errs w → Calls Tryz.prog 15 #[.string s] w fun e w' => Below w.heap.size w w' ∧
    ((ok = false ∧ (e = .returned (.tuple #[.slice none 0 0, .int .i64 21]) ∨ e = .returned (.tuple #[.slice none 0 0, .int .i64 3]))) ∨ (ok = true ∧ ∃ a c, e = .returned (.tuple #[.slice a L.length c, .int .i64 0]) ∧ StepsIn w' a L.length L))
theorem parse_ex (s : ByteArray) (hs : s.size ≤ 4001) : ∃ ok L, ParseOk s ok L := by
  by_cases h36 : s.data.toList.getD 0 0 = 36
  · obtain ⟨r, hr⟩ : ∃ r : ByteArray, s.data.toList = 36 :: r.data.toList := by
      cases hd : s.data.toList with
      | nil => rw [hd] at h36; exact absurd h36 (by decide)
      | cons c t =>
        rw [hd] at h36
        obtain rfl : c = 36 := h36
        exact ⟨⟨t.toArray⟩, rfl⟩
    have hrs : r.size ≤ 4000 := by
      have := size_of s
      rw [hr, List.length_cons, size_of] at this; omega
    obtain ⟨RD, hRD⟩ := rd_all
    obtain ⟨⟨b, L⟩, hG⟩ : ∃ x, goS RD 4000 r = x := ⟨_, rfl⟩
    have hback : b = true → (∀ t ∈ L, mayB t = true) ∧ ptL L = s.data.toList := by
      rintro rfl
      obtain ⟨h1, h2⟩ := gos_back hRD 4000 L r hrs hrs hG
      exact ⟨h1, by unfold ptL; rw [← h2, hr]⟩
    have hprint : ∀ M : List Pm.St, (∀ t ∈ M, mayB t = true) → ptL M = s.data.toList → b = true ∧ L = M := by
      intro M hm he
      rw [hr] at he
      have := gos_print hRD 4000 M r hrs hrs hm (List.cons.inj he).2.symm
      rw [hG] at this
      exact Prod.mk.inj this
    have C := fun w hT hP hE => parse_any s r hr hrs RD (fun r => r.size ≤ 4000) Errs hrs (fun r h4 h0 => by
      obtain ⟨h1, h2, _⟩ := hRD r h0 h4
      exact ⟨h1, fun _ _ => by rw [ByteArray.size_extract]; omega, h2⟩) b L hG w hT hP (fun W hB => Errs.next hE hB)
    by_cases hok : b = true ∧ L.length ≤ 8
    · refine ⟨true, L, fun _ => ⟨hok.2, hback hok.1⟩, fun M h8 hm he => ⟨rfl, (hprint M hm he).2⟩, fun w hT hP hE => (C w hT hP hE).mono ?_⟩
      rintro e w' ⟨hB, _, _, h⟩
      exact ⟨hB, .inr ⟨rfl, h hok.1 hok.2⟩⟩
    · refine ⟨false, L, (fun h => by cases h), fun M h8 hm he => ?_, fun w hT hP hE => (C w hT hP hE).mono ?_⟩
      · obtain ⟨h1, h2⟩ := hprint M hm he
        exact absurd ⟨h1, by rw [h2]; exact h8⟩ hok
      · rintro e w' ⟨hB, h1, h2, _⟩
        cases b with
        | false => exact ⟨hB, .inl ⟨rfl, .inl (h1 rfl)⟩⟩
        | true => exact ⟨hB, .inl ⟨rfl, .inr (h2 rfl (Nat.lt_of_not_le (fun h => hok ⟨rfl, h⟩)))⟩⟩
  · refine ⟨false, [], (fun h => by cases h), fun M h8 hm he => ?_, fun w _ _ _ => (parse_no s h36 w).mono ?_⟩
    · rw [← he] at h36; exact absurd rfl h36
    · rintro e w' ⟨rfl, hB⟩
      exact ⟨hB, .inl ⟨rfl, .inl rfl⟩⟩
set_option maxRecDepth 100000 in
/-- Two rows without a step are the same. -/
theorem same_nil (a b : Option Addr) (c d : Nat) (w : World) :
    Calls Tryz.prog 17 #[.slice a 0 c, .slice b 0 d] w fun e w' => e = .returned (.bool true) ∧ Below w.heap.size w w' := by
  go_enter Tryz.func17, Tryz.ntmps17
  go_wp2
  go_loopw [5] (fun i wr => i = .int .i64 0 ∧ wr = w) (fun i _ => 0)
  case atStart => exact ⟨rfl, rfl⟩
  case round =>
    obtain ⟨rfl, rfl⟩ := hrel
    go_wp2
    go_ret
    exact ⟨rfl, Below.refl _ _⟩
end Go.Proofs.YtomhgafpjpnmdaaGreatDoor
