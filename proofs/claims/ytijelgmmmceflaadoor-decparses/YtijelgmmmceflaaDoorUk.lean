/- What is proved here: what Print of the document's own answers does, walked; conditions: the decimal may be. -/
import Derived.Test.YtijelgmmmceflaaDoorUd
namespace Go.Proofs.YtijelgmmmceflaaDoor
open Go.RowKit
set_option linter.unusedVariables false
set_option linter.unusedSimpArgs false

theorem dash_join (l : List UInt8) : (⟨#[45]⟩ ++ ⟨l.toArray⟩ : ByteArray) = ⟨(45 :: l).toArray⟩ := mk_join [45] l
theorem ret_sg {x : Bool} {l : List UInt8} {s : ByteArray} (h : s = ⟨(45 :: l).toArray⟩) (hx : x = true) : Ending.returned (.string s) = .returned (.string ⟨((if x then [45] else []) ++ l).toArray⟩) := by subst hx h; rfl
theorem ret_sg' {x : Bool} {l : List UInt8} {s : ByteArray} (h : s = ⟨l.toArray⟩) (hx : x = false) : Ending.returned (.string s) = .returned (.string ⟨((if x then [45] else []) ++ l).toArray⟩) := by subst hx h; rfl
/-- The digits with a point, as the text lays them. -/
theorem point_str (t : ByteArray) (l : List UInt8) (p : Nat) (h : t.data.toList = l) : (t.extract 0 p ++ ⟨#[46]⟩ ++ t.extract p t.size : ByteArray) = ⟨(l.take p ++ 46 :: l.drop p).toArray⟩ := by
  have e1 : t.extract 0 p = ⟨(l.take p).toArray⟩ := by
    apply str_ext
    rw [Go.Lib.extract_data, h, List.drop_zero, Nat.sub_zero]
  have e2 : t.extract p t.size = ⟨(l.drop p).toArray⟩ := by
    apply str_ext
    rw [Go.Lib.extract_to_end, h]
  rw [e1, e2, show (⟨#[46]⟩ : ByteArray) = ⟨[46].toArray⟩ from rfl, mk_join, mk_join]
  simp
theorem printL_low (x : Bool) (l : List UInt8) (j k : Nat) (h : l.length ≤ j) (hk : k = j - l.length + 1) : Dm.printL ⟨x, l, j⟩ = (if x then [45] else []) ++ ((List.replicate k 48 ++ l).take 1 ++ 46 :: (List.replicate k 48 ++ l).drop 1) := by
  subst hk
  unfold Dm.printL
  rw [if_pos h, List.replicate_succ]
  simp
theorem printL_hi (x : Bool) (l : List UInt8) (j p : Nat) (h : ¬ l.length ≤ j) (hj : 0 < j) (hp : p = l.length - j) : Dm.printL ⟨x, l, j⟩ = (if x then [45] else []) ++ (l.take p ++ 46 :: l.drop p) := by
  subst hp
  unfold Dm.printL
  rw [if_neg h, if_pos hj]
theorem printL_whole (x : Bool) (l : List UInt8) (h : ¬ l.length ≤ 0) : Dm.printL ⟨x, l, 0⟩ = (if x then [45] else []) ++ l := by
  unfold Dm.printL
  simp only
  rw [if_neg h, if_neg (Nat.lt_irrefl 0), Nat.sub_zero, List.take_length, List.append_nil]
theorem Has1 (x : Bool) (s : ByteArray) (j : Nat) (w : World) (nq : Nat) : ((w.alloc (.cells #[.bool x, .string s, .int .i64 (j : Int)] 23)).drewN nq).cell? ⟨w.heap.size, 0, none⟩ = some (.bool x) := by go_simp
set_option maxRecDepth 100000 in
set_option maxHeartbeats 2000000 in
theorem rprint_any (x : Bool) (l : List UInt8) (j : Nat) (w : World) (h : Dm.May ⟨x, l, j⟩) :
    Calls Tryd.prog 17 #[.agg #[.bool x, .string ⟨l.toArray⟩, .int .i64 (j : Int)]] w fun e w' => e = .returned (.string ⟨(Dm.printL ⟨x, l, j⟩).toArray⟩) ∧ Below w.heap.size w w' := by
  obtain ⟨l1, l2, l3⟩ := may_len h
  simp only at l1 l2 l3
  have hB : Below w.heap.size w (w.alloc (.cells #[.bool x, .string ⟨l.toArray⟩, .int .i64 (j : Int)] 23)) := (Below.refl _ _).alloc (Nat.le_refl _) _
  by_cases hlj : l.length ≤ j
  · have hlj2 := Int.ofNat_le.2 hlj
    have hj0 : (0 : Int) < (j : Int) := by omega
    obtain ⟨k, hk⟩ : ∃ k : Nat, (j : Int) - (l.length : Int) + 1 = (k : Int) := ⟨j - l.length + 1, by omega⟩
    have hk100 : (k : Int) ≤ 100 := by omega
    obtain ⟨T, hT⟩ : ∃ T : ByteArray, (⟨Array.replicate k 48⟩ ++ ⟨l.toArray⟩ : ByteArray) = T := ⟨_, rfl⟩
    have hTl : Hid (T.data.toList = List.replicate k 48 ++ l) := by
      show _ = _
      rw [← hT, show (⟨Array.replicate k 48⟩ : ByteArray) = ⟨(List.replicate k (48 : UInt8)).toArray⟩ by simp, mk_join]
    have hTs : T.size = j + 1 := by rw [size_len, unhide hTl]; simp; omega
    have hp : (T.size : Int) - (j : Int) = 1 := by omega
    have hT1 : (1 : Int) ≤ (T.size : Int) := by omega
    have HP : Hid (Dm.printL ⟨x, l, j⟩ = (if x then [45] else []) ++ ((List.replicate k 48 ++ l).take 1 ++ 46 :: (List.replicate k 48 ++ l).drop 1)) := printL_low x l j k hlj (by omega)
    have PT := point_str T _ 1 (unhide hTl)
    have hT200 : T.size ≤ 200 := by omega
    have HK := hide hk
    have HPT := hide PT
    clear hlj PT hTs
    go_enter Tryd.func17, Tryd.ntmps17
    go_wp2_with (go_at_call 34; refine (rzeros_b _ k _ (by omega) (by omega)).mono ?_; rintro e w' ⟨rfl, rfl⟩)
    go_quiet (fail)
    have hB2 := below_drewN hB nq
    have hL := Has1 x ⟨l.toArray⟩ j w nq
    generalize (w.alloc (.cells #[.bool x, .string ⟨l.toArray⟩, .int .i64 (j : Int)] 23)).drewN nq = w2 at hB2 hL ⊢
    generalize T.extract 0 1 ++ ⟨#[46]⟩ ++ T.extract 1 T.size = Z at HPT ⊢
    obtain ⟨Q, hQ⟩ : ∃ Q, (List.replicate k 48 ++ l).take 1 ++ 46 :: (List.replicate k 48 ++ l).drop 1 = Q := ⟨_, rfl⟩
    rw [hQ] at HPT HP
    have hZ : Z = ⟨Q.toArray⟩ := unhide HPT
    subst hZ
    have hQ9 : Q.length ≤ 200 := by rw [← hQ]; simp; omega
    clear HPT hQ
    cases x
    · go_wp2
      go_ret
      exact ⟨ret_s (by rw [unhide HP]; rfl), hB2⟩
    · go_wp2
      go_ret
      exact ⟨ret_s (by rw [unhide HP]; exact dash_join _), hB2⟩
  · have hlj2 : (j : Int) < (l.length : Int) := by omega
    cases j with
    | zero =>
      have HP : Hid (Dm.printL ⟨x, l, 0⟩ = (if x then [45] else []) ++ l) := printL_whole x l hlj
      have h0 : (0 : Int) < (l.length : Int) := by omega
      have h00 : ¬ (l.length : Int) ≤ 0 := by omega
      have hnil : l ≠ [] := by intro e; rw [e] at hlj; exact hlj (Nat.le_refl _)
      clear hlj hlj2
      rw [show ((0 : Nat) : Int) = 0 from rfl]
      rw [show ((0 : Nat) : Int) = 0 from rfl] at hB
      cases x
      · go_enter Tryd.func17, Tryd.ntmps17
        go_wp2
        go_ret
        exact ⟨ret_s (by rw [unhide HP]; rfl), hB⟩
      · go_enter Tryd.func17, Tryd.ntmps17
        go_wp2
        go_ret
        exact ⟨ret_s (by rw [unhide HP]; exact dash_join _), hB⟩
    | succ i =>
      obtain ⟨j, hj⟩ : ∃ j, i + 1 = j := ⟨_, rfl⟩
      rw [hj] at h l3 hB hlj hlj2 ⊢
      have hj0 : (0 : Int) < (j : Int) := by omega
      clear hj
      obtain ⟨T, hT⟩ : ∃ T : ByteArray, (⟨l.toArray⟩ : ByteArray) = T := ⟨_, rfl⟩
      have hTl : Hid (T.data.toList = l) := by show _ = _; rw [← hT]
      have hTs : l.length = T.size := by rw [size_len, unhide hTl]
      obtain ⟨p, hp⟩ : ∃ p : Nat, (T.size : Int) - (j : Int) = (p : Int) := ⟨T.size - j, by omega⟩
      have hT1 : (p : Int) ≤ (T.size : Int) := by omega
      have HP : Hid (Dm.printL ⟨x, l, j⟩ = (if x then [45] else []) ++ (l.take p ++ 46 :: l.drop p)) := printL_hi x l j p hlj (by omega) (by omega)
      have PT := point_str T _ p (unhide hTl)
      have hT200 : T.size ≤ 200 := by omega
      have hTj : (j : Int) < (T.size : Int) := by omega
      have HPT := hide PT
      have HTS := hide hTs
      clear hlj PT hTs hlj2
      rw [hT]
      rw [hT] at hB
      go_enter Tryd.func17, Tryd.ntmps17
      go_wp2
      go_quiet (fail)
      have hB2 := below_drewN hB nq
      have hL := Has1 x T j w nq
      generalize (w.alloc (.cells #[.bool x, .string T, .int .i64 (j : Int)] 23)).drewN nq = w2 at hB2 hL ⊢
      generalize T.extract 0 p ++ ⟨#[46]⟩ ++ T.extract p T.size = Z at HPT ⊢
      obtain ⟨Q, hQ⟩ : ∃ Q, l.take p ++ 46 :: l.drop p = Q := ⟨_, rfl⟩
      rw [hQ] at HPT HP
      have hZ : Z = ⟨Q.toArray⟩ := unhide HPT
      subst hZ
      have hQ9 : Q.length ≤ 200 := by rw [← hQ]; have := unhide HTS; simp; omega
      clear HPT hQ
      cases x
      · go_wp2
        go_ret
        exact ⟨ret_s (by rw [unhide HP]; rfl), hB2⟩
      · go_wp2
        go_ret
        exact ⟨ret_s (by rw [unhide HP]; exact dash_join _), hB2⟩
end Go.Proofs.YtijelgmmmceflaaDoor


