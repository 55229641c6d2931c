/- What is proved here: what Go's library does where a text is cut at its first closing bracket; what readQuotedKey and readAt of package path do, walked; conditions: as each theorem states. What is proved here: what readStep of package path answers at any text: some step that begins there, and the very step if one that may be is written there; conditions: the tables lie, as each theorem states. What is proved here: what Parse of package path answers at any text: every row of steps that may be is read back from what it prints, and what is read prints what was read; conditions: the tables and the two errors lie. -/
import Derived.Test.YtnagecbepidfiaaGreatDoorZBg
import Derived.Test.YtnagecbepidfiaaGreatDoorZAc
import Derived.Lib.Strings
import Derived.Lib.Bytealg
import Derived.Lib.IndexLaws
import Derived.Deep.QuietTactic
import Derived.BigQuiet
import Derived.Test.YtnagecbepidfiaaGreatDoorZBh
import Derived.Test.YtnagecbepidfiaaGreatDoorZBn
namespace Go.Proofs.YtnagecbepidfiaaGreatDoor.Np
set_option maxRecDepth 100000
open Go.Proofs.YtnagecbepidfiaaGreatDoor.Nq
open Go.RowKit
set_option linter.unusedVariables false
set_option linter.unusedSimpArgs false
set_option maxRecDepth 100000

theorem zindexByte_miss {l : List UInt8} (h : (93 : UInt8) ∉ l) : Lib.indexByte l 93 = -1 := by
  induction l with
  | nil => rfl
  | cons b l ih =>
    unfold Lib.indexByte
    rw [if_neg (by intro e; exact h (by rw [eq_of_beq e]; exact List.mem_cons_self)), ih (fun e => h (List.mem_cons_of_mem _ e))]
    rfl
theorem zindexByte_hit {a r : List UInt8} (h : (93 : UInt8) ∉ a) : Lib.indexByte (a ++ 93 :: r) 93 = (a.length : Int) := by
  induction a with
  | nil => rfl
  | cons b l ih =>
    rw [List.cons_append]
    unfold Lib.indexByte
    rw [if_neg (by intro e; exact h (by rw [eq_of_beq e]; exact List.mem_cons_self)), ih (fun e => h (List.mem_cons_of_mem _ e)), if_neg (by rw [beq_iff_eq]; omega), List.length_cons]
    omega
theorem zindexByte_walk (s : ByteArray) (w : World) : Calls Tryz.prog 144 #[.string s, .int .u8 93] w fun e w' => e = .returned (.int .i64 (Lib.indexByte s.data.toList 93)) ∧ w' = w := by
  go_enter Tryz.func144, Tryz.ntmps144
  go_wp2
  rw [run_callFunc_extern Tryz.func164 (by kernel_rfl) (by kernel_rfl) (by kernel_rfl) (e := Extern.BytealgIndexByte.indexByte) (by kernel_rfl), Lib.run_indexByteString]
  simp only [Result.andThen]
  rw [Oper.upon_value]
  go_wp2
  go_ret
  exact ⟨rfl, rfl⟩
theorem zindex_walk (s : ByteArray) (n : Int) (hn : Lib.indexByte s.data.toList 93 = n) (w : World) : Calls Tryz.prog 129 #[.string s, .string ⟨#[93]⟩] w fun e w' => e = .returned (.int .i64 n) ∧ w' = w := by
  have C : ∀ W, Calls Tryz.prog 144 #[.string s, .int .u8 93] W fun e w' => e = .returned (.int .i64 n) ∧ w' = W := fun W => hn ▸ zindexByte_walk s W
  by_cases h : s.toList = [93]
  · have hb : ([93] == s.toList) = true := by rw [h]; rfl
    have h0 : n = 0 := by rw [← hn, ← ByteArray.toList_eq, h]; rfl
    subst h0
    clear hn h
    go_enter Tryz.func129, Tryz.ntmps129
    go_wp2_with fail
    go_ret
    exact ⟨rfl, rfl⟩
  · have hb : ([93] == s.toList) = false := by rw [← Bool.not_eq_true]; intro e; exact h (eq_of_beq e).symm
    clear hn h
    go_enter Tryz.func129, Tryz.ntmps129
    go_wp2_with fail
    refine (C _).mono ?_
    rintro e w ⟨rfl, rfl⟩
    go_wp2_with fail
    go_ret
    exact ⟨rfl, rfl⟩
theorem zcutMiss_lite (s : ByteArray) (w : World) (h : (93 : UInt8) ∉ s.data.toList) :
    Calls Tryz.prog 125 #[.string s, .string ⟨#[93]⟩] w fun e w' => e = .returned (.tuple #[.string s, .string ⟨#[]⟩, .bool false]) ∧ ∃ n, w' = w.drewN n := by
  have C := zindex_walk s (-1) (zindexByte_miss h)
  clear h
  go_enter Tryz.func125, Tryz.ntmps125
  go_wp2_with fail
  refine (C _).mono ?_
  rintro e w ⟨rfl, rfl⟩
  go_wp2
  go_ret3
  exact ⟨rfl, 0, rfl⟩
theorem zcut_parts {s a r : ByteArray} (h : s.data.toList = a.data.toList ++ 93 :: r.data.toList) : s.size = a.size + 1 + r.size ∧ s.extract 0 a.size = a ∧ s.extract (a.size + 1) s.size = r := by
  have h1 : s.size = a.size + 1 + r.size := by
    have := congrArg List.length h
    rw [List.length_append, List.length_cons, Array.length_toList, Array.length_toList, Array.length_toList] at this
    show s.data.size = a.data.size + 1 + r.data.size
    omega
  have ext : ∀ {x y : ByteArray}, x.data.toList = y.data.toList → x = y := by
    intro x y e
    cases x; cases y
    congr 1
    exact Array.toList_inj.1 e
  refine ⟨h1, ext ?_, ext ?_⟩
  · rw [Lib.extract_data, h, List.drop_zero, Nat.sub_zero, List.take_left' (by rw [Array.length_toList]; rfl)]
  · rw [Lib.extract_data, h, show a.size + 1 = a.data.toList.length + 1 by rw [Array.length_toList]; rfl, List.drop_length_add_append, List.drop_succ_cons, List.drop_zero, List.take_of_length_le]
    rw [Array.length_toList, Array.length_toList]
    show r.data.size ≤ s.size - (a.size + 1)
    have : r.size = r.data.size := rfl
    omega
theorem zcutHit_lite (s a r : ByteArray) (w : World) (hs : s.size ≤ 9223372036854775806) (h : s.data.toList = a.data.toList ++ 93 :: r.data.toList) (ha : (93 : UInt8) ∉ a.data.toList) :
    Calls Tryz.prog 125 #[.string s, .string ⟨#[93]⟩] w fun e w' => e = .returned (.tuple #[.string a, .string r, .bool true]) ∧ ∃ n, w' = w.drewN n := by
  obtain ⟨h1, h2, h3⟩ := zcut_parts h
  have C := zindex_walk s (a.size : Int) (by rw [h, zindexByte_hit ha, Array.length_toList]; rfl)
  obtain ⟨n, hn⟩ : ∃ n, a.size = n := ⟨_, rfl⟩
  rw [hn] at h1 h2 h3 C
  have c1 : (0 : Int) ≤ (n : Int) := by omega
  have c2 : (n : Int) ≤ (s.size : Int) := by omega
  have c3 : (0 : Int) ≤ (n : Int) + 1 := by omega
  have c4 : (n : Int) + 1 ≤ (s.size : Int) := by omega
  clear h ha hn h1
  go_enter Tryz.func125, Tryz.ntmps125
  go_wp2_with fail
  refine (C _).mono ?_
  rintro e w ⟨rfl, rfl⟩
  go_wp2_with fail
  go_quiet (fail)
  go_wp2
  go_ret3
  exact ⟨rfl, _, rfl⟩
theorem zcutMiss (s : ByteArray) (w : World) (h : (93 : UInt8) ∉ s.data.toList) :
    Calls Tryz.prog 96 #[.string s, .string ⟨#[93]⟩] w fun e w' => e = .returned (.tuple #[.string s, .string ⟨#[]⟩, .bool false]) ∧ ∃ n, w' = w.drewN n := by
  have C := fun W => zcutMiss_lite s W h
  go_enter Tryz.func96, Tryz.ntmps96
  go_wp2_with fail
  refine (C _).mono ?_
  rintro e w ⟨rfl, n, rfl⟩
  go_wp2
  go_ret3
  exact ⟨rfl, n, rfl⟩
theorem zcutHit (s a r : ByteArray) (w : World) (hs : s.size ≤ 9223372036854775806) (h : s.data.toList = a.data.toList ++ 93 :: r.data.toList) (ha : (93 : UInt8) ∉ a.data.toList) :
    Calls Tryz.prog 96 #[.string s, .string ⟨#[93]⟩] w fun e w' => e = .returned (.tuple #[.string a, .string r, .bool true]) ∧ ∃ n, w' = w.drewN n := by
  have C := fun W => zcutHit_lite s a r W hs h ha
  clear h
  go_enter Tryz.func96, Tryz.ntmps96
  go_wp2_with fail
  refine (C _).mono ?_
  rintro e w ⟨rfl, n, rfl⟩
  go_wp2
  go_ret3
  exact ⟨rfl, n, rfl⟩

theorem ext_from (s : ByteArray) (k : Nat) : (s.extract k s.size).data.toList = s.data.toList.drop k := by
  rw [Lib.extract_data, List.take_of_length_le]
  rw [List.length_drop, Array.length_toList]; show s.size - k ≤ s.size - k; omega
theorem split93 (l : List UInt8) : (93 : UInt8) ∉ l ∨ ∃ a r, l = a ++ 93 :: r ∧ (93 : UInt8) ∉ a := by
  induction l with
  | nil => exact .inl (by simp)
  | cons c l ih =>
    by_cases h : c = 93
    · exact .inr ⟨[], l, by rw [h]; rfl, by simp⟩
    · rcases ih with h2 | ⟨a, r, e, h3⟩
      · exact .inl (by simp only [List.mem_cons, not_or]; exact ⟨fun e => h e.symm, h2⟩)
      · exact .inr ⟨c :: a, r, by rw [e]; rfl, by simp only [List.mem_cons, not_or]; exact ⟨fun e => h e.symm, h3⟩⟩

set_option maxRecDepth 100000 in
set_option maxHeartbeats 2000000 in
theorem readAt_miss (s r : ByteArray) (h1 : 1 ≤ s.size) (hs : s.size ≤ 100000) (hr : s.extract 1 s.size = r) (h93 : (93 : UInt8) ∉ r.data.toList) (w : World) (hE : Errs w) :
    Calls Tryz.prog 168 #[.string s] w fun e w' => e = .returned (stV ⟨0, Pm.nul, 0⟩ 0) ∧ Below w.heap.size w w' := by
  have c1 : (1 : Int) ≤ (s.size : Int) := by omega
  have hrs : r.size ≤ 1000000 := by rw [← hr, ByteArray.size_extract]; omega
  have hB0 : Below w.heap.size w (w.alloc (.cells #[.int .i64 0, .string ⟨#[]⟩, .int .i64 0] 57)) := (Below.refl _ _).alloc (Nat.le_refl _) _
  have hR := Res.new w
  have C1 := fun W => zcutMiss r W h93
  have C2 := fun W hE => atoi_any r hrs W hE
  unfold stV valS Pm.nul
  clear h1 hs h93 hrs
  go_enter Tryz.func168, Tryz.ntmps168
  go_wp2_with fail
  refine (C1 _).mono ?_
  rintro e w2 ⟨rfl, n, hw⟩
  have bn : Below (w.alloc (.cells #[.int .i64 0, .string ⟨#[]⟩, .int .i64 0] 57)).heap.size (w.alloc (.cells #[.int .i64 0, .string ⟨#[]⟩, .int .i64 0] 57)) w2 := by rw [hw]; exact ⟨rfl, rfl, rfl, Nat.le_refl _, fun _ _ => rfl⟩
  have q9 := Nat.le_of_lt hR.2.1
  replace hR := hR.next bn
  replace hB0 := hB0.trans (bn.mono q9)
  clear hw bn q9
  have hE2 := hE.next hB0
  go_wp2_with fail
  refine (C2 _ hE2).mono ?_
  rintro e w3 ⟨b3, hA⟩
  have q9 := Nat.le_of_lt hR.2.1
  replace hR := hR.next b3
  replace hB0 := hB0.trans (b3.mono q9)
  clear b3 q9 hE hE2 C1 C2
  obtain ⟨r1, r2, ⟨a0, a1, a2⟩, ⟨f0, f1, f2⟩⟩ := id hR
  obtain ⟨s0, s1, s2⟩ := hR.same
  rcases hA with ⟨v, _, rfl⟩ | ⟨_, v, t, p, rfl⟩
  all_goals
    go_wp2
    (try simp only [Exit.inBlock, Exit.then])
    refine bodyPost_ret (by simp [results, Tryz.results168, go_sem, s0, s1, s2]; try rfl) rfl ?_
    exact ⟨rfl, set3 hB0 (Nat.le_refl _) _ _ _⟩
set_option maxRecDepth 100000 in
set_option maxHeartbeats 2000000 in
theorem readAt_hit (s r d tl : ByteArray) (h1 : 1 ≤ s.size) (hs : s.size ≤ 100000) (hr : s.extract 1 s.size = r) (hc : r.data.toList = d.data.toList ++ 93 :: tl.data.toList) (h93 : (93 : UInt8) ∉ d.data.toList) (w : World) (hE : Errs w) :
    Calls Tryz.prog 168 #[.string s] w fun e w' => Below w.heap.size w w' ∧ ((∃ v, Lib.atoiAll d.data.toList = .ok v ∧ e = .returned (stV ⟨2, Pm.nul, v⟩ (d.size + 2))) ∨ ((∀ v, Lib.atoiAll d.data.toList ≠ .ok v) ∧ e = .returned (stV ⟨0, Pm.nul, 0⟩ 0))) := by
  have c1 : (1 : Int) ≤ (s.size : Int) := by omega
  have hds : d.size ≤ 1000000 := by
    have := congrArg List.length hc
    rw [List.length_append, Array.length_toList, Array.length_toList] at this
    have h2 : r.size ≤ 100000 := by rw [← hr, ByteArray.size_extract]; omega
    have h3 : r.data.size = r.size := rfl
    have h4 : d.data.size = d.size := rfl
    omega
  have hrs : r.size ≤ 1000000 := by rw [← hr, ByteArray.size_extract]; omega
  have hB0 : Below w.heap.size w (w.alloc (.cells #[.int .i64 0, .string ⟨#[]⟩, .int .i64 0] 57)) := (Below.refl _ _).alloc (Nat.le_refl _) _
  have hR := Res.new w
  have C1 := fun W => zcutHit r d tl W (by omega) hc h93
  have C2 := fun W hE => atoi_any d hds W hE
  unfold stV valS Pm.nul
  have hw2 : IntKind.i64.wrap ((d.size : Int) + 2) = (d.size : Int) + 2 := by rw [IntKind.wrap_i64]; omega
  have hcast : ((d.size + 2 : Nat) : Int) = (d.size : Int) + 2 := by omega
  clear h1 hs h93 hrs hc hds
  go_enter Tryz.func168, Tryz.ntmps168
  go_wp2_with fail
  refine (C1 _).mono ?_
  rintro e w2 ⟨rfl, n, hw⟩
  have bn : Below (w.alloc (.cells #[.int .i64 0, .string ⟨#[]⟩, .int .i64 0] 57)).heap.size (w.alloc (.cells #[.int .i64 0, .string ⟨#[]⟩, .int .i64 0] 57)) w2 := by rw [hw]; exact ⟨rfl, rfl, rfl, Nat.le_refl _, fun _ _ => rfl⟩
  have q9 := Nat.le_of_lt hR.2.1
  replace hR := hR.next bn
  replace hB0 := hB0.trans (bn.mono q9)
  clear hw bn q9
  have hE2 := hE.next hB0
  go_wp2_with fail
  refine (C2 _ hE2).mono ?_
  rintro e w3 ⟨b3, hA⟩
  have q9 := Nat.le_of_lt hR.2.1
  replace hR := hR.next b3
  replace hB0 := hB0.trans (b3.mono q9)
  clear b3 q9 hE hE2 C1 C2
  obtain ⟨r1, r2, ⟨a0, a1, a2⟩, ⟨f0, f1, f2⟩⟩ := id hR
  obtain ⟨s0, s1, s2⟩ := hR.same
  rcases hA with ⟨v, hv, rfl⟩ | ⟨hv, v, t, p, rfl⟩
  · have HV := phide hv
    clear hv
    go_wp2
    (try simp only [Exit.inBlock, Exit.then])
    refine bodyPost_ret (by simp [results, Tryz.results168, go_sem, s0, s1, s2]; try rfl) rfl ?_
    exact ⟨set3 hB0 (Nat.le_refl _) _ _ _, .inl ⟨v, punhide HV, by rw [hcast]⟩⟩
  · have HV := phide hv
    clear hv
    go_wp2
    (try simp only [Exit.inBlock, Exit.then])
    refine bodyPost_ret (by simp [results, Tryz.results168, go_sem, s0, s1, s2]; try rfl) rfl ?_
    exact ⟨set3 hB0 (Nat.le_refl _) _ _ _, .inr ⟨punhide HV, rfl⟩⟩

set_option maxHeartbeats 2000000 in
theorem quotedKey_any (s r u : ByteArray) (n e : Nat) (h1 : 1 ≤ s.size) (hs : s.size ≤ 100000) (hr : s.extract 1 s.size = r) (hu : Qm.unquoteL r.data.toList = (u.data.toList, n, e)) (hn : e = 0 → n + 1 ≤ s.size) (he : e ≤ 100) (tl : ByteArray) (htl : s.extract (n + 1) s.size = tl) (z : Bool) (hz : Lib.hasPrefix tl.data.toList [93] = z) (w : World) (hT : Tabs w) :
    Calls Tryz.prog 167 #[.string s] w fun x w' => Below w.heap.size w w' ∧ ((e = 0 ∧ z = true ∧ x = .returned (stV ⟨1, u, 0⟩ (n + 2))) ∨ ((e ≠ 0 ∨ z = false) ∧ x = .returned (stV ⟨0, Pm.nul, 0⟩ 0))) := by
  have c1 : (1 : Int) ≤ (s.size : Int) := by omega
  have hrs : r.size ≤ 1000000 := by rw [← hr, ByteArray.size_extract]; omega
  have hB0 : Below w.heap.size w (w.alloc (.cells #[.int .i64 0, .string ⟨#[]⟩, .int .i64 0] 57)) := (Below.refl _ _).alloc (Nat.le_refl _) _
  have hR := Res.new w
  have C1 := fun W hT => unquote_c r u n e W (by omega) hu hT
  have C2 := fun W => prefix_is tl ⟨#[93]⟩ z hz W
  unfold stV valS Pm.nul
  have hT2 := tabs_step hT hB0
  clear hrs hu hz hT
  go_enter Tryz.func167, Tryz.ntmps167
  go_wp2_with fail
  refine (C1 _ hT2).mono ?_
  rintro x w2 ⟨rfl, b2⟩
  have q9 := Nat.le_of_lt hR.2.1
  replace hR := hR.next b2
  replace hB0 := hB0.trans (b2.mono q9)
  clear b2 q9 hT2 C1
  obtain ⟨r1, r2, ⟨a0, a1, a2⟩, ⟨f0, f1, f2⟩⟩ := id hR
  obtain ⟨s0, s1, s2⟩ := hR.same
  by_cases h0 : e = 0
  · subst h0
    have hn1 := hn rfl
    have c3 : (1 : Int) + (n : Int) ≤ (s.size : Int) := by omega
    have c4 : (n : Int) + 1 ≤ (s.size : Int) := by omega
    have c5 : (0 : Int) ≤ 1 + (n : Int) := by omega
    have w1 : IntKind.i64.wrap (1 + (n : Int)) = (n : Int) + 1 := by rw [IntKind.wrap_i64]; omega
    have w2' : IntKind.i64.wrap ((n : Int) + 2) = (n : Int) + 2 := by rw [IntKind.wrap_i64]; omega
    have hcast : ((n + 2 : Nat) : Int) = (n : Int) + 2 := by omega
    clear hn h1 hs hn1 he
    cases z
    · go_wp2_with (go_at_call 103; refine (C2 _).mono ?_; rintro e9 w9 ⟨rfl, rfl⟩)
      (try simp only [Exit.inBlock, Exit.then])
      refine bodyPost_ret (by simp [results, Tryz.results167, go_sem, s0, s1, s2]; try rfl) rfl ?_
      exact ⟨set3 hB0 (Nat.le_refl _) _ _ _, (by first | exact .inr ⟨.inr rfl, rfl⟩ | rfl)⟩
    · go_wp2_with (go_at_call 103; refine (C2 _).mono ?_; rintro e9 w9 ⟨rfl, rfl⟩)
      (try simp only [Exit.inBlock, Exit.then])
      refine bodyPost_ret (by simp [results, Tryz.results167, go_sem, s0, s1, s2]; try rfl) rfl ?_
      exact ⟨set3 hB0 (Nat.le_refl _) _ _ _, (by first | exact .inl ⟨rfl, rfl, by rw [hcast]; rfl⟩ | rfl)⟩
  · have d1 : ((e : Int) != 0) = true := by simp; omega
    have d2 : ¬ (e : Int) = 0 := by omega
    clear hn h1 hs he
    go_wp2
    (try simp only [Exit.inBlock, Exit.then])
    refine bodyPost_ret (by simp [results, Tryz.results167, go_sem, s0, s1, s2]; try rfl) rfl ?_
    exact ⟨set3 hB0 (Nat.le_refl _) _ _ _, (by first | exact .inr ⟨.inl h0, rfl⟩ | rfl)⟩
end Go.Proofs.YtnagecbepidfiaaGreatDoor.Np

namespace Go.Proofs.YtnagecbepidfiaaGreatDoor.Np
set_option maxRecDepth 100000
open Go.Proofs.YtnagecbepidfiaaGreatDoor.Nq
open Go.RowKit
set_option linter.unusedVariables false
set_option linter.unusedSimpArgs false
set_option maxRecDepth 100000

/-- What may stand behind a step. -/
def OkR (rest : List UInt8) : Prop := rest = [] ∨ ∃ c t, rest = c :: t ∧ (c = 46 ∨ c = 91 ∨ c = 42)
def FKey (t : Pm.St) : Prop := ∃ (c : UInt8) (k : List UInt8), t = ⟨1, t.s, 0⟩ ∧ t.s.data.toList = c :: k ∧ Cm.letB c = true ∧ (c :: k).all Cm.inB = true ∧ prL t = 46 :: c :: k
def FQuo (t : Pm.St) : Prop := ∃ (q : List UInt8), t = ⟨1, t.s, 0⟩ ∧ Lib.validD t.s.data.toList = true ∧ t.s.size ≤ 24 ∧ Qm.quoteL t.s.data.toList = 34 :: q ∧ prL t = 91 :: 34 :: (q ++ [93])
def FNum (t : Pm.St) : Prop := ∃ (d : UInt8) (ds : List UInt8), t = ⟨2, Pm.nul, t.n⟩ ∧ (48 ≤ d.toNat ∧ d.toNat ≤ 57) ∧ (93 : UInt8) ∉ d :: ds ∧ Lib.atoiAll (d :: ds) = .ok t.n ∧ prL t = 91 :: d :: (ds ++ [93])
def Form (t : Pm.St) : Prop := FKey t ∨ FQuo t ∨ FNum t ∨ (t = ⟨3, Pm.nul, 0⟩ ∧ prL t = [46, 42]) ∨ (t = ⟨4, Pm.nul, 0⟩ ∧ prL t = [91, 42, 93]) ∨ (t = ⟨5, Pm.nul, 0⟩ ∧ prL t = [42, 42])
theorem form_of {t : Pm.St} (h : mayB t = true) : Form t := by
  by_cases h1 : t.k = 1
  · obtain ⟨h24, hn, hv⟩ := mayB_key h h1
    have e : t = ⟨1, t.s, 0⟩ := by obtain ⟨k, s, n⟩ := t; simp only [] at h1 hn; rw [h1, hn]
    cases hnm : Cm.nameB t.s.data.toList
    · refine .inr (.inl ⟨_, e, hv, h24, rfl, ?_⟩)
      unfold prL
      rw [if_pos h1, hnm]
      rfl
    · have hall := by have := hnm; unfold Cm.nameB at this; simp only [Bool.and_eq_true, decide_eq_true_eq] at this; exact this
      obtain ⟨⟨⟨hl1, _⟩, hc⟩, hi⟩ := hall
      cases hk : t.s.data.toList with
      | nil => rw [hk] at hl1; simp at hl1
      | cons c k =>
        rw [hk] at hc hi
        refine .inl ⟨c, k, e, hk, hc, hi, ?_⟩
        unfold prL
        rw [if_pos h1, hnm, hk]
        rfl
  · by_cases h2 : t.k = 2
    · obtain ⟨n0, n1, hs⟩ := mayB_at h h2
      have e : t = ⟨2, Pm.nul, t.n⟩ := by obtain ⟨k, s, n⟩ := t; simp only [] at h2 hs; rw [h2, hs]
      have hb := List.all_eq_true.1 back_digits t.n.toNat (List.mem_range.2 (by omega))
      rw [Bool.and_eq_true, Bool.and_eq_true, decide_eq_true_eq, show ((t.n.toNat : Nat) : Int) = t.n by omega] at hb
      obtain ⟨⟨ha, hdg⟩, hne⟩ := hb
      have hp : prL t = 91 :: (Lib.itoa t.n ++ [93]) := by unfold prL; rw [if_neg h1, if_pos h2]
      cases hi : Lib.itoa t.n with
      | nil => rw [hi] at hne; simp at hne
      | cons d ds =>
        rw [hi] at ha hdg hp
        have hd := List.all_eq_true.1 hdg
        have hr : ∀ x ∈ d :: ds, 48 ≤ x.toNat ∧ x.toNat ≤ 57 := fun x hx => by have := hd x hx; simpa using this
        exact .inr (.inr (.inl ⟨d, ds, e, hr d (by simp), fun hx => by have := hr 93 hx; exact absurd this.2 (by decide), ha, hp⟩))
    · obtain ⟨ho, he⟩ := mayB_other h h1 h2
      unfold prL at *
      rcases ho with h3 | h3 | h3
      · refine .inr (.inr (.inr (.inl ⟨by rw [he, h3], ?_⟩))); unfold prL; rw [if_neg h1, if_neg h2, if_pos h3]
      · refine .inr (.inr (.inr (.inr (.inl ⟨by rw [he, h3], ?_⟩)))); unfold prL; rw [if_neg h1, if_neg h2, if_neg (by omega), if_pos h3]
      · refine .inr (.inr (.inr (.inr (.inr ⟨by rw [he, h3], ?_⟩)))); unfold prL; rw [if_neg h1, if_neg h2, if_neg (by omega), if_neg (by omega)]

/-- What readStep answers at a text. -/
def RdOk (s : ByteArray) (t : Pm.St) (n : Nat) : Prop := n ≤ s.size ∧ (∀ W, Tabs W → Pow W → Errs W → Calls Tryz.prog 148 #[.string s] W fun e w' => e = .returned (stV t n) ∧ Below W.heap.size W w') ∧
  ∀ t0 rest, mayB t0 = true → OkR rest → s.data.toList = prL t0 ++ rest → t = t0 ∧ n = (prL t0).length
theorem pfx_len {s : ByteArray} {p : List UInt8} (h : pfx s p = true) : p.length ≤ s.size := by
  unfold pfx Lib.hasPrefix at h
  have := (List.isPrefixOf_iff_prefix.1 h).length_le
  rwa [Array.length_toList] at this
theorem let_no {c : UInt8} (h : Cm.letB c = true) : c ≠ 42 ∧ c ≠ 46 ∧ c ≠ 91 := by
  refine ⟨?_, ?_, ?_⟩ <;> (rintro rfl; revert h; decide)
theorem dig_no {d : UInt8} (h : 48 ≤ d.toNat ∧ d.toNat ≤ 57) : d ≠ 42 ∧ d ≠ 34 := by
  refine ⟨?_, ?_⟩ <;> (rintro rfl; revert h; decide)
theorem in_no : ∀ (k : List UInt8), k.all Cm.inB = true → ∀ b ∈ k, ([46, 91, 42] : List UInt8).contains b = false := by
  intro k h b hb
  have := List.all_eq_true.1 h b hb
  rw [← Bool.not_eq_true]
  intro hc
  have h3 := List.contains_iff_mem.1 hc
  simp at h3
  rcases h3 with rfl | rfl | rfl <;> (revert this; decide)
theorem idx_key (k rest : List UInt8) (hk : ∀ b ∈ k, ([46, 91, 42] : List UInt8).contains b = false) (hr : OkR rest) : (rest = [] ∧ Lib.indexAny (k ++ rest) [46, 91, 42] = -1) ∨ (rest ≠ [] ∧ Lib.indexAny (k ++ rest) [46, 91, 42] = (k.length : Int)) := by
  have hno : ∀ j b, j < k.length → (k ++ rest)[j]? = some b → ([46, 91, 42] : List UInt8).contains b = false := by
    intro j b hj hb
    rw [List.getElem?_append_left hj] at hb
    exact hk b (List.mem_of_getElem? hb)
  rcases hr with rfl | ⟨c, t, rfl, hc⟩
  · refine .inl ⟨rfl, Lib.indexAny_none (fun j b hj hb => ?_)⟩
    rw [List.append_nil] at hj
    exact hno j b hj hb
  · refine .inr ⟨by simp, Lib.indexAny_hit (i := k.length) (x := c) (fun j b hj hb => hno j b hj hb) (by rw [List.getElem?_append_right (Nat.le_refl _)]; simp) ?_⟩
    rcases hc with rfl | rfl | rfl <;> decide
theorem idx_lt (chars : List UInt8) : ∀ l : List UInt8, Lib.indexAny l chars = -1 ∨ Lib.indexAny l chars < (l.length : Int)
  | [] => .inl rfl
  | b :: l => by
    have ih := idx_lt chars l
    have hge := Lib.indexAny_ge chars l
    unfold Lib.indexAny
    split
    · right; simp only [List.length_cons]; omega
    · split
      · exact .inl rfl
      · rename_i h2
        right
        have : Lib.indexAny l chars ≠ -1 := fun e => h2 (by rw [e]; rfl)
        simp only [List.length_cons]
        omega
theorem first93 : ∀ (a b t u : List UInt8), a ++ 93 :: t = b ++ 93 :: u → (93 : UInt8) ∉ a → (93 : UInt8) ∉ b → a = b
  | [], [], _, _, _, _, _ => rfl
  | [], y :: b, t, u, h, _, hb => by
    simp only [List.nil_append, List.cons_append, List.cons.injEq] at h
    exact absurd h.1 (fun e => hb (by rw [← e]; simp))
  | x :: a, [], t, u, h, ha, _ => by
    simp only [List.nil_append, List.cons_append, List.cons.injEq] at h
    exact absurd h.1 (fun e => ha (by rw [e]; simp))
  | x :: a, y :: b, t, u, h, ha, hb => by
    simp only [List.cons_append, List.cons.injEq] at h
    rw [h.1, first93 a b t u h.2 (fun e => ha (by simp [e])) (fun e => hb (by simp [e]))]
theorem ext_take (s : ByteArray) (n : Nat) : (s.extract 1 n).data.toList = (s.data.toList.drop 1).take (n - 1) := by rw [Lib.extract_data]
set_option maxHeartbeats 2000000 in
theorem readStep_ex (s : ByteArray) (h0 : s.size ≠ 0) (hs : s.size ≤ 99000) : ∃ t n, RdOk s t n := by
  have hl : s.data.toList.length = s.size := Array.length_toList
  cases p1 : pfx s [42, 42]
  case true =>
    refine ⟨⟨5, Pm.nul, 0⟩, 2, pfx_len p1, fun W _ _ _ => step_deep s p1 W, fun t0 rest hm hr he => ?_⟩
    unfold pfx at p1
    rw [he] at p1
    rcases form_of hm with ⟨c, k, e, h, hc, hi, p⟩ | ⟨q, e, hv, h24, hq, p⟩ | ⟨d, ds, e, hd, h9, ha, p⟩ | ⟨e, p⟩ | ⟨e, p⟩ | ⟨e, p⟩
    case inr.inr.inr.inr.inr => rw [p]; exact ⟨e.symm, rfl⟩
    all_goals (exfalso; rw [p] at p1; simp [Lib.hasPrefix, List.isPrefixOf] at p1)
  cases p2 : pfx s [46, 42]
  case true =>
    refine ⟨⟨3, Pm.nul, 0⟩, 2, pfx_len p2, fun W _ _ _ => step_anyKey s p1 p2 W, fun t0 rest hm hr he => ?_⟩
    unfold pfx at p1 p2
    rw [he] at p1 p2
    rcases form_of hm with ⟨c, k, e, h, hc, hi, p⟩ | ⟨q, e, hv, h24, hq, p⟩ | ⟨d, ds, e, hd, h9, ha, p⟩ | ⟨e, p⟩ | ⟨e, p⟩ | ⟨e, p⟩
    case inr.inr.inr.inl => rw [p]; exact ⟨e.symm, rfl⟩
    case inl => exfalso; rw [p] at p2; simp [Lib.hasPrefix, List.isPrefixOf] at p2; exact (let_no hc).1 p2.symm
    case inr.inr.inr.inr.inr => exfalso; rw [p] at p1; simp [Lib.hasPrefix, List.isPrefixOf] at p1
    all_goals (exfalso; rw [p] at p2; simp [Lib.hasPrefix, List.isPrefixOf] at p2)
  cases p3 : pfx s [91, 42, 93]
  case true =>
    refine ⟨⟨4, Pm.nul, 0⟩, 3, pfx_len p3, fun W _ _ _ => step_any s p1 p2 p3 W, fun t0 rest hm hr he => ?_⟩
    unfold pfx at p1 p2 p3
    rw [he] at p1 p2 p3
    rcases form_of hm with ⟨c, k, e, h, hc, hi, p⟩ | ⟨q, e, hv, h24, hq, p⟩ | ⟨d, ds, e, hd, h9, ha, p⟩ | ⟨e, p⟩ | ⟨e, p⟩ | ⟨e, p⟩
    case inr.inr.inr.inr.inl => rw [p]; exact ⟨e.symm, rfl⟩
    case inr.inr.inl => exfalso; rw [p] at p3; simp [Lib.hasPrefix, List.isPrefixOf] at p3; exact (dig_no hd).1 p3.1.symm
    all_goals (exfalso; rw [p] at p3; simp [Lib.hasPrefix, List.isPrefixOf] at p3)
  cases p4 : pfx s [46]
  case true =>
    have h1 : 1 ≤ s.size := pfx_len p4
    obtain ⟨r, hr⟩ : ∃ r, s.extract 1 s.size = r := ⟨_, rfl⟩
    have hrl : r.data.toList = s.data.toList.drop 1 := by rw [← hr]; exact ext_from s 1
    obtain ⟨i, hi⟩ : ∃ i, Lib.indexAny r.data.toList [46, 91, 42] = i := ⟨_, rfl⟩
    have hge := Lib.indexAny_ge [46, 91, 42] r.data.toList
    rw [hi] at hge
    have hrs : r.size = s.size - 1 := by rw [← hr, ByteArray.size_extract]; omega
    have hlt : i < (r.size : Int) := by
      have := idx_lt [46, 91, 42] r.data.toList
      rw [hi, Array.length_toList] at this
      show i < (r.data.size : Int)
      rcases this with h | h
      · rw [h]; have : (0 : Int) ≤ (r.data.size : Int) := by omega
        omega
      · exact h
    obtain ⟨len, hlen⟩ : ∃ len : Nat, (i = -1 ∧ len = s.size) ∨ (∃ j : Nat, i = (j : Int) ∧ len = j + 1 ∧ len ≤ s.size) := by
      by_cases hn : i = -1
      · exact ⟨s.size, .inl ⟨hn, rfl⟩⟩
      · exact ⟨i.toNat + 1, .inr ⟨i.toNat, by omega, rfl, by omega⟩⟩
    obtain ⟨k, hk⟩ : ∃ k, s.extract 1 len = k := ⟨_, rfl⟩
    have hls : len ≤ s.size := by rcases hlen with h | ⟨j, h⟩ <;> omega
    have CI := fun W => idx_any r (by omega) i hi W
    refine ⟨⟨1, k, 0⟩, len, hls, fun W _ _ _ => step_plain s p1 p2 p3 p4 ⟨1, k, 0⟩ len W (fun W' _ => plainKey_any s h1 (by omega) r hr i len hlen k hk CI W'), fun t0 rest hm hok he => ?_⟩
    unfold pfx at p1 p2 p3 p4
    rw [he] at p1 p2 p3 p4
    rcases form_of hm with ⟨c, q, e, h, hc, hin, p⟩ | ⟨q, e, hv, h24, hq, p⟩ | ⟨d, ds, e, hd, h9, ha, p⟩ | ⟨e, p⟩ | ⟨e, p⟩ | ⟨e, p⟩
    case inl =>
      have hd : s.data.toList.drop 1 = (c :: q) ++ rest := by rw [he, p]; rfl
      have hx := idx_key (c :: q) rest (in_no _ hin) hok
      rw [← hd, ← hrl, hi] at hx
      have hlen2 : len = (c :: q).length + 1 := by
        rcases hx with ⟨h1, h2⟩ | ⟨h1, h2⟩
        · rcases hlen with ⟨_, h⟩ | ⟨j, h, _⟩
          · have := congrArg List.length hd
            rw [List.length_drop, hl, h1, List.append_nil] at this
            omega
          · omega
        · rcases hlen with ⟨h, _⟩ | ⟨j, h3, h4, _⟩
          · rw [h] at h2; have : (0 : Int) ≤ ((c :: q).length : Int) := by omega
            omega
          · omega
      have hkk : k = t0.s := by
        refine pext ?_
        rw [← hk, ext_take, hd, hlen2, h, Nat.add_sub_cancel, List.take_left']
        rfl
      refine ⟨by rw [hkk]; exact e.symm, by rw [p, hlen2]; rfl⟩
    case inr.inr.inr.inl => exfalso; rw [p] at p2; simp [Lib.hasPrefix, List.isPrefixOf] at p2
    all_goals (exfalso; rw [p] at p4; simp [Lib.hasPrefix, List.isPrefixOf] at p4)
  cases p5 : pfx s [91, 34]
  case true =>
    have h2 : 2 ≤ s.size := pfx_len p5
    obtain ⟨r, hr⟩ : ∃ r, s.extract 1 s.size = r := ⟨_, rfl⟩
    have hrl : r.data.toList = s.data.toList.drop 1 := by rw [← hr]; exact ext_from s 1
    have hrs : r.data.toList.length = s.size - 1 := by rw [hrl, List.length_drop, hl]
    obtain ⟨u, n, e, hu, hn, he⟩ : ∃ (u : ByteArray) (n e : Nat), Qm.unquoteL r.data.toList = (u.data.toList, n, e) ∧ (e = 0 → n + 1 ≤ s.size) ∧ e ≤ 100 := by
      rcases Qm.unquote_shape r.data.toList with ⟨t, n, h, _, _, h3, _⟩ | h | h
      · exact ⟨⟨t.toArray⟩, n, 0, by rw [h], fun _ => by omega, by omega⟩
      · exact ⟨⟨#[]⟩, 0, 3, by rw [h], fun h => by omega, by omega⟩
      · exact ⟨⟨#[]⟩, 0, 6, by rw [h], fun h => by omega, by omega⟩
    obtain ⟨tl, htl⟩ : ∃ tl, s.extract (n + 1) s.size = tl := ⟨_, rfl⟩
    have htl2 : tl.data.toList = s.data.toList.drop (n + 1) := by rw [← htl]; exact ext_from s (n + 1)
    obtain ⟨z, hz⟩ : ∃ z, Lib.hasPrefix tl.data.toList [93] = z := ⟨_, rfl⟩
    have CQ := fun W hT => quotedKey_any s r u n e (by omega) (by omega) hr hu hn he tl htl z hz W hT
    have fin : ∀ t0 rest, mayB t0 = true → OkR rest → s.data.toList = prL t0 ++ rest → e = 0 ∧ z = true ∧ (⟨1, u, 0⟩ : Pm.St) = t0 ∧ n + 2 = (prL t0).length := by
      intro t0 rest hm hok heq
      have p5' := p5
      unfold pfx at p5'
      rw [heq] at p5'
      rcases form_of hm with ⟨c, k, e1, h, hc, hi, p⟩ | ⟨q, e1, hv, h24, hq, p⟩ | ⟨d, ds, e1, hd, h9, ha, p⟩ | ⟨e1, p⟩ | ⟨e1, p⟩ | ⟨e1, p⟩
      case inr.inl =>
        have hd1 : r.data.toList = Qm.quoteL t0.s.data.toList ++ (93 :: rest) := by rw [hrl, heq, p, hq]; simp
        have h4 : t0.s.data.toList.length ≤ 4096 := by rw [Array.length_toList]; show t0.s.size ≤ 4096; omega
        have hqq := Qm.unquote_quote t0.s.data.toList (93 :: rest) hv h4
        rw [← hd1, hu] at hqq
        obtain ⟨g1, g2⟩ := Prod.mk.inj hqq
        obtain ⟨g2, g3⟩ := Prod.mk.inj g2
        have hlq : (Qm.quoteL t0.s.data.toList).length = q.length + 1 := by rw [hq]; rfl
        have hdr : s.data.toList.drop (n + 1) = 93 :: rest := by
          rw [show s.data.toList.drop (n + 1) = (s.data.toList.drop 1).drop n by rw [List.drop_drop, Nat.add_comm], ← hrl, hd1, List.drop_left' g2.symm]
        refine ⟨g3, ?_, ?_, ?_⟩
        · rw [← hz, htl2, hdr]; rfl
        · rw [pext g1]; exact e1.symm
        · rw [p, g2, hlq]; simp
      case inr.inr.inl => exfalso; rw [p] at p5'; simp [Lib.hasPrefix, List.isPrefixOf] at p5'; exact (dig_no hd).2 p5'.symm
      all_goals (exfalso; rw [p] at p5'; simp [Lib.hasPrefix, List.isPrefixOf] at p5')
    by_cases hyes : e = 0 ∧ z = true
    · refine ⟨⟨1, u, 0⟩, n + 2, ?_, fun W hT _ _ => step_quoted s p1 p2 p3 p4 p5 ⟨1, u, 0⟩ (n + 2) W (fun W' hB => ?_), fun t0 rest hm hok heq => ⟨(fin t0 rest hm hok heq).2.2.1, (fin t0 rest hm hok heq).2.2.2⟩⟩
      · have := hz.trans hyes.2
        unfold Lib.hasPrefix at this
        have := (List.isPrefixOf_iff_prefix.1 this).length_le
        rw [htl2, List.length_drop, hl] at this
        simp only [List.length_cons, List.length_nil] at this
        omega
      · refine (CQ W' (tabs_step hT hB)).mono ?_
        rintro x w' ⟨hb, h⟩
        rcases h with ⟨_, _, hx⟩ | ⟨h, _⟩
        · exact ⟨hx, hb⟩
        · exact absurd hyes (by rintro ⟨a, b⟩; rcases h with h | h; exact h a; rw [b] at h; cases h)
    · refine ⟨⟨0, Pm.nul, 0⟩, 0, by omega, fun W hT _ _ => step_quoted s p1 p2 p3 p4 p5 ⟨0, Pm.nul, 0⟩ 0 W (fun W' hB => ?_), fun t0 rest hm hok heq => absurd ⟨(fin t0 rest hm hok heq).1, (fin t0 rest hm hok heq).2.1⟩ hyes⟩
      refine (CQ W' (tabs_step hT hB)).mono ?_
      rintro x w' ⟨hb, h⟩
      rcases h with ⟨a, b, _⟩ | ⟨_, hx⟩
      · exact absurd ⟨a, b⟩ hyes
      · exact ⟨hx, hb⟩
  cases p6 : pfx s [91]
  case true =>
    have h1 : 1 ≤ s.size := pfx_len p6
    obtain ⟨r, hr⟩ : ∃ r, s.extract 1 s.size = r := ⟨_, rfl⟩
    have hrl : r.data.toList = s.data.toList.drop 1 := by rw [← hr]; exact ext_from s 1
    have hrs : r.data.toList.length = s.size - 1 := by rw [hrl, List.length_drop, hl]
    have fin : ∀ t0 rest, mayB t0 = true → OkR rest → s.data.toList = prL t0 ++ rest → ∃ d ds, t0 = ⟨2, Pm.nul, t0.n⟩ ∧ (93 : UInt8) ∉ d :: ds ∧ Lib.atoiAll (d :: ds) = .ok t0.n ∧ r.data.toList = (d :: ds) ++ 93 :: rest ∧ (prL t0).length = ds.length + 3 := by
      intro t0 rest hm hok heq
      have p3' := p3
      have p5' := p5
      have p6' := p6
      unfold pfx at p3' p5' p6'
      rw [heq] at p3' p5' p6'
      rcases form_of hm with ⟨c, k, e1, h, hc, hi, p⟩ | ⟨q, e1, hv, h24, hq, p⟩ | ⟨d, ds, e1, hd, h9, ha, p⟩ | ⟨e1, p⟩ | ⟨e1, p⟩ | ⟨e1, p⟩
      case inr.inr.inl => exact ⟨d, ds, e1, h9, ha, by rw [hrl, heq, p]; simp, by rw [p]; simp⟩
      case inr.inl => exfalso; rw [p] at p5'; simp [Lib.hasPrefix, List.isPrefixOf] at p5'
      case inr.inr.inr.inr.inl => exfalso; rw [p] at p3'; simp [Lib.hasPrefix, List.isPrefixOf] at p3'
      all_goals (exfalso; rw [p] at p6'; simp [Lib.hasPrefix, List.isPrefixOf] at p6')
    rcases split93 r.data.toList with hno | ⟨a, tl, hc, h93⟩
    · refine ⟨⟨0, Pm.nul, 0⟩, 0, by omega, fun W _ _ hE => step_at s p1 p2 p3 p4 p5 p6 ⟨0, Pm.nul, 0⟩ 0 W (fun W' hB => readAt_miss s r h1 (by omega) hr hno W' (hE.next hB)), fun t0 rest hm hok heq => ?_⟩
      obtain ⟨d, ds, _, _, _, h4, _⟩ := fin t0 rest hm hok heq
      exact absurd (by rw [h4]; simp) hno
    · obtain ⟨dB, hdB⟩ : ∃ dB : ByteArray, a = dB.data.toList := ⟨⟨a.toArray⟩, by simp⟩
      obtain ⟨tB, htB⟩ : ∃ tB : ByteArray, tl = tB.data.toList := ⟨⟨tl.toArray⟩, by simp⟩
      rw [hdB, htB] at hc
      rw [hdB] at h93
      have hdl : dB.data.toList.length = dB.size := Array.length_toList
      have hsz : dB.size + 2 ≤ s.size := by
        have := congrArg List.length hc
        rw [hrs, List.length_append, List.length_cons, hdl] at this
        omega
      have CA := fun W hE => readAt_hit s r dB tB h1 (by omega) hr hc h93 W hE
      cases hat : Lib.atoiAll dB.data.toList with
      | ok v =>
        refine ⟨⟨2, Pm.nul, v⟩, dB.size + 2, hsz, fun W _ _ hE => step_at s p1 p2 p3 p4 p5 p6 ⟨2, Pm.nul, v⟩ (dB.size + 2) W (fun W' hB => ?_), fun t0 rest hm hok heq => ?_⟩
        · refine (CA W' (hE.next hB)).mono ?_
          rintro x w' ⟨hb, h⟩
          rcases h with ⟨v2, hv2, hx⟩ | ⟨hv2, _⟩
          · rw [hat] at hv2
            obtain rfl : v = v2 := by injection hv2
            exact ⟨hx, hb⟩
          · exact absurd hat (hv2 v)
        · obtain ⟨d, ds, e1, h9, ha, h4, h5⟩ := fin t0 rest hm hok heq
          have hu := first93 dB.data.toList (d :: ds) _ _ (hc.symm.trans h4) h93 h9
          rw [hu, ha] at hat
          have hv : t0.n = v := by injection hat
          refine ⟨by rw [e1, hv], ?_⟩
          rw [h5, ← hdl, hu]; rfl
      | «syntax» =>
        refine ⟨⟨0, Pm.nul, 0⟩, 0, by omega, fun W _ _ hE => step_at s p1 p2 p3 p4 p5 p6 ⟨0, Pm.nul, 0⟩ 0 W (fun W' hB => ?_), fun t0 rest hm hok heq => ?_⟩
        · refine (CA W' (hE.next hB)).mono ?_
          rintro x w' ⟨hb, h⟩
          rcases h with ⟨v2, hv2, _⟩ | ⟨_, hx⟩
          · rw [hat] at hv2; cases hv2
          · exact ⟨hx, hb⟩
        · obtain ⟨d, ds, e1, h9, ha, h4, h5⟩ := fin t0 rest hm hok heq
          have hu := first93 dB.data.toList (d :: ds) _ _ (hc.symm.trans h4) h93 h9
          rw [hu, ha] at hat; cases hat
      | range =>
        refine ⟨⟨0, Pm.nul, 0⟩, 0, by omega, fun W _ _ hE => step_at s p1 p2 p3 p4 p5 p6 ⟨0, Pm.nul, 0⟩ 0 W (fun W' hB => ?_), fun t0 rest hm hok heq => ?_⟩
        · refine (CA W' (hE.next hB)).mono ?_
          rintro x w' ⟨hb, h⟩
          rcases h with ⟨v2, hv2, _⟩ | ⟨_, hx⟩
          · rw [hat] at hv2; cases hv2
          · exact ⟨hx, hb⟩
        · obtain ⟨d, ds, e1, h9, ha, h4, h5⟩ := fin t0 rest hm hok heq
          have hu := first93 dB.data.toList (d :: ds) _ _ (hc.symm.trans h4) h93 h9
          rw [hu, ha] at hat; cases hat
  refine ⟨⟨0, Pm.nul, 0⟩, 0, by omega, fun W _ _ _ => step_none s p1 p2 p3 p4 p5 p6 W, fun t0 rest hm hr he => ?_⟩
  exfalso
  unfold pfx at p1 p4 p6
  rw [he] at p1 p4 p6
  rcases form_of hm with ⟨c, k, e, h, hc, hi, p⟩ | ⟨q, e, hv, h24, hq, p⟩ | ⟨d, ds, e, hd, h9, ha, p⟩ | ⟨e, p⟩ | ⟨e, p⟩ | ⟨e, p⟩
  case inl => rw [p] at p4; simp [Lib.hasPrefix, List.isPrefixOf] at p4
  case inr.inr.inr.inl => rw [p] at p4; simp [Lib.hasPrefix, List.isPrefixOf] at p4
  case inr.inr.inr.inr.inr => rw [p] at p1; simp [Lib.hasPrefix, List.isPrefixOf] at p1
  all_goals (rw [p] at p6; simp [Lib.hasPrefix, List.isPrefixOf] at p6)
end Go.Proofs.YtnagecbepidfiaaGreatDoor.Np

namespace Go.Proofs.YtnagecbepidfiaaGreatDoor.Np
set_option maxRecDepth 100000
open Go.Proofs.YtnagecbepidfiaaGreatDoor.Nq
open Go.RowKit
set_option linter.unusedVariables false
set_option linter.unusedSimpArgs false

theorem pr_head {t : Pm.St} (h : mayB t = true) : ∃ c u, prL t = c :: u ∧ (c = 46 ∨ c = 91 ∨ c = 42) := by
  rcases form_of h with ⟨c, k, _, _, _, _, p⟩ | ⟨q, _, _, _, _, p⟩ | ⟨d, ds, _, _, _, _, p⟩ | ⟨_, p⟩ | ⟨_, p⟩ | ⟨_, p⟩ <;> exact ⟨_, _, p, by simp⟩
theorem okR_flat (L : List Pm.St) (h : ∀ t ∈ L, mayB t = true) : OkR (L.flatMap prL) := by
  cases L with
  | nil => exact .inl rfl
  | cons t M =>
    obtain ⟨c, u, e, hc⟩ := pr_head (h t (by simp))
    exact .inr ⟨c, u ++ M.flatMap prL, by rw [List.flatMap_cons, e]; rfl, hc⟩
def RdAll (RD : ByteArray → Pm.St × Nat) : Prop := ∀ s : ByteArray, s.size ≠ 0 → s.size ≤ 99000 → RdOk s (RD s).1 (RD s).2
theorem rd_all : ∃ RD, RdAll RD := by
  have h : ∀ s : ByteArray, ∃ x : Pm.St × Nat, s.size ≠ 0 → s.size ≤ 99000 → RdOk s x.1 x.2 := by
    intro s
    by_cases h0 : s.size ≠ 0 ∧ s.size ≤ 99000
    · obtain ⟨t, n, h⟩ := readStep_ex s h0.1 h0.2
      exact ⟨(t, n), fun _ _ => h⟩
    · exact ⟨(Pm.deepS, 0), fun h1 h2 => absurd ⟨h1, h2⟩ h0⟩
  exact ⟨fun s => Classical.choose (h s), fun s => Classical.choose_spec (h s)⟩
theorem extr_to (s : ByteArray) (n : Nat) : (s.extract n s.size).data.toList = s.data.toList.drop n := by
  rw [Lib.extract_data, List.take_of_length_le]
  rw [List.length_drop, Array.length_toList]; show s.size - n ≤ _; omega
theorem size_of (s : ByteArray) : s.data.toList.length = s.size := by rw [Array.length_toList]; rfl
theorem gos_print {RD : ByteArray → Pm.St × Nat} (hRD : RdAll RD) : ∀ (f : Nat) (L : List Pm.St) (r : ByteArray), r.size ≤ f → r.size ≤ 99000 → (∀ t ∈ L, mayB t = true) → r.data.toList = L.flatMap prL → goS RD f r = (true, L)
  | f, [], r, hf, h4, hm, he => by
    have h0 : r.size = 0 := by rw [← size_of, he]; rfl
    cases f with
    | zero => rfl
    | succ f => unfold goS; rw [if_pos h0]
  | f, t :: M, r, hf, h4, hm, he => by
    have ht := hm t (by simp)
    have hM : ∀ t ∈ M, mayB t = true := fun x hx => hm x (by simp [hx])
    have hl : r.size = (prL t).length + (M.flatMap prL).length := by rw [← size_of, he, List.flatMap_cons, List.length_append]
    obtain ⟨c, u, e, _⟩ := pr_head ht
    have hpos : 1 ≤ (prL t).length := by rw [e]; simp
    cases f with
    | zero => omega
    | succ f =>
      obtain ⟨h1, _, h3⟩ := hRD r (by omega) h4
      obtain ⟨e1, e2⟩ := h3 t (M.flatMap prL) ht (okR_flat M hM) (by rw [he, List.flatMap_cons])
      have hd : (r.extract (prL t).length r.size).data.toList = M.flatMap prL := by rw [extr_to, he, List.flatMap_cons, List.drop_left]
      have hs : (r.extract (prL t).length r.size).size = (M.flatMap prL).length := by rw [← size_of, hd]
      unfold goS
      rw [if_neg (by omega), e1, e2, ht, he, List.flatMap_cons, List.take_left]
      rw [gos_print hRD f M _ (by omega) (by omega) hM hd]
      simp
theorem gos_back {RD : ByteArray → Pm.St × Nat} (hRD : RdAll RD) : ∀ (f : Nat) (L : List Pm.St) (r : ByteArray), r.size ≤ f → r.size ≤ 99000 → goS RD f r = (true, L) → (∀ t ∈ L, mayB t = true) ∧ r.data.toList = L.flatMap prL
  | 0, L, r, hf, h4, he => by
    have e0 : r.data.toList = [] := List.eq_nil_of_length_eq_zero (by rw [size_of]; omega)
    unfold goS at he
    obtain rfl := (Prod.mk.inj he).2
    exact ⟨fun t ht => (by cases ht), by rw [e0]; rfl⟩
  | f + 1, L, r, hf, h4, he => by
    unfold goS at he
    split at he
    · rename_i h0
      have e0 : r.data.toList = [] := List.eq_nil_of_length_eq_zero (by rw [size_of]; omega)
      obtain rfl := (Prod.mk.inj he).2
      exact ⟨fun t ht => (by cases ht), by rw [e0]; rfl⟩
    · rename_i h0
      split at he
      · rename_i hc
        rw [Bool.and_eq_true, decide_eq_true_eq] at hc
        obtain ⟨h1, _, _⟩ := hRD r h0 h4
        obtain ⟨q1, q2⟩ := pr_pos hc.2 h1
        obtain ⟨g1, g2⟩ := Prod.mk.inj he
        obtain ⟨i1, i2⟩ := gos_back hRD f (goS RD f (r.extract (RD r).2 r.size)).2 (r.extract (RD r).2 r.size) (by omega) (by omega) (by rw [← g1])
        rw [← g2]
        refine ⟨fun t ht => ?_, ?_⟩
        · rcases List.mem_cons.1 ht with rfl | ht
          · exact hc.1
          · exact i1 t ht
        · rw [List.flatMap_cons, ← i2, hc.2, extr_to, List.take_append_drop]
      · exact absurd (Prod.mk.inj he).1 (by simp)

/-- What Parse answers at any text. -/
def ParseOk (s : ByteArray) (ok : Bool) (L : List Pm.St) : Prop :=
  (ok = true → L.length ≤ 8 ∧ (∀ t ∈ L, mayB t = true) ∧ ptL L = s.data.toList) ∧ (∀ M : List Pm.St, M.length ≤ 8 → (∀ t ∈ M, mayB t = true) → ptL M = s.data.toList → ok = true ∧ L = M) ∧
  ∀ w, Tabs w → Pow w → Errs w → Calls Tryz.prog 102 #[.string s] w fun e w' => Below w.heap.size w w' ∧
    ((ok = false ∧ (e = .returned (.tuple #[.slice none 0 0, .int .i64 21]) ∨ e = .returned (.tuple #[.slice none 0 0, .int .i64 3]))) ∨ (ok = true ∧ ∃ a c, e = .returned (.tuple #[.slice a L.length c, .int .i64 0]) ∧ StepsIn w' a L.length L ∧ ∀ g o, a = some ⟨g, o, none⟩ → w.heap.size ≤ g))
theorem parse_ex (s : ByteArray) (hs : s.size ≤ 99001) : ∃ ok L, ParseOk s ok L := by
  by_cases h36 : s.data.toList.getD 0 0 = 36
  · obtain ⟨r, hr⟩ : ∃ r : ByteArray, s.data.toList = 36 :: r.data.toList := by
      cases hd : s.data.toList with
      | nil => rw [hd] at h36; exact absurd h36 (by decide)
      | cons c t =>
        rw [hd] at h36
        obtain rfl : c = 36 := h36
        exact ⟨⟨t.toArray⟩, rfl⟩
    have hrs : r.size ≤ 99000 := by
      have := size_of s
      rw [hr, List.length_cons, size_of] at this; omega
    obtain ⟨RD, hRD⟩ := rd_all
    obtain ⟨⟨b, L⟩, hG⟩ : ∃ x, goS RD 99000 r = x := ⟨_, rfl⟩
    have hback : b = true → (∀ t ∈ L, mayB t = true) ∧ ptL L = s.data.toList := by
      rintro rfl
      obtain ⟨h1, h2⟩ := gos_back hRD 99000 L r hrs hrs hG
      exact ⟨h1, by unfold ptL; rw [← h2, hr]⟩
    have hprint : ∀ M : List Pm.St, (∀ t ∈ M, mayB t = true) → ptL M = s.data.toList → b = true ∧ L = M := by
      intro M hm he
      rw [hr] at he
      have := gos_print hRD 99000 M r hrs hrs hm (List.cons.inj he).2.symm
      rw [hG] at this
      exact Prod.mk.inj this
    have C := fun w hT hP hE => parse_any s r hr hrs RD (fun r => r.size ≤ 99000) Errs hrs (fun r h4 h0 => by
      obtain ⟨h1, h2, _⟩ := hRD r h0 h4
      exact ⟨h1, fun _ _ => by rw [ByteArray.size_extract]; omega, h2⟩) b L hG w hT hP (fun W hB => Errs.next hE hB)
    by_cases hok : b = true ∧ L.length ≤ 8
    · refine ⟨true, L, fun _ => ⟨hok.2, hback hok.1⟩, fun M h8 hm he => ⟨rfl, (hprint M hm he).2⟩, fun w hT hP hE => (C w hT hP hE).mono ?_⟩
      rintro e w' ⟨hB, _, _, h⟩
      exact ⟨hB, .inr ⟨rfl, h hok.1 hok.2⟩⟩
    · refine ⟨false, L, (fun h => by cases h), fun M h8 hm he => ?_, fun w hT hP hE => (C w hT hP hE).mono ?_⟩
      · obtain ⟨h1, h2⟩ := hprint M hm he
        exact absurd ⟨h1, by rw [h2]; exact h8⟩ hok
      · rintro e w' ⟨hB, h1, h2, _⟩
        cases b with
        | false => exact ⟨hB, .inl ⟨rfl, .inl (h1 rfl)⟩⟩
        | true => exact ⟨hB, .inl ⟨rfl, .inr (h2 rfl (Nat.lt_of_not_le (fun h => hok ⟨rfl, h⟩)))⟩⟩
  · refine ⟨false, [], (fun h => by cases h), fun M h8 hm he => ?_, fun w _ _ _ => (parse_no s h36 w).mono ?_⟩
    · rw [← he] at h36; exact absurd rfl h36
    · rintro e w' ⟨rfl, hB⟩
      exact ⟨hB, .inl ⟨rfl, .inl rfl⟩⟩
end Go.Proofs.YtnagecbepidfiaaGreatDoor.Np
