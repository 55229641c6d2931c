/- What is proved here: what Go's library does where a text is cut at its first closing bracket; what readQuotedKey and readAt of package path do, walked; conditions: as each theorem states. -/
import Derived.Test.YtomhgafpjpnmdaaGreatDoorPk
import Derived.Test.YtomhgafpjpnmdaaGreatDoorPr
import Derived.Lib.Strings
import Derived.Lib.Bytealg
import Derived.Lib.IndexLaws
import Derived.Deep.QuietTactic
import Derived.BigQuiet
namespace Go.Proofs.YtomhgafpjpnmdaaGreatDoor
open Go.RowKit
set_option linter.unusedVariables false
set_option linter.unusedSimpArgs false
set_option maxRecDepth 100000

theorem zindexByte_miss {l : List UInt8} (h : (93 : UInt8) ∉ l) : Lib.indexByte l 93 = -1 := by
  induction l with
  | nil => rfl
  | cons b l ih =>
    unfold Lib.indexByte
    rw [if_neg (by intro e; exact h (by rw [eq_of_beq e]; exact List.mem_cons_self)), ih (fun e => h (List.mem_cons_of_mem _ e))]
    rfl
theorem zindexByte_hit {a r : List UInt8} (h : (93 : UInt8) ∉ a) : Lib.indexByte (a ++ 93 :: r) 93 = (a.length : Int) := by
  induction a with
  | nil => rfl
  | cons b l ih =>
    rw [List.cons_append]
    unfold Lib.indexByte
    rw [if_neg (by intro e; exact h (by rw [eq_of_beq e]; exact List.mem_cons_self)), ih (fun e => h (List.mem_cons_of_mem _ e)), if_neg (by rw [beq_iff_eq]; omega), List.length_cons]
    omega
theorem zindexByte_walk (s : ByteArray) (w : World) : Calls Tryz.prog 96 #[.string s, .int .u8 93] w fun e w' => e = .returned (.int .i64 (Lib.indexByte s.data.toList 93)) ∧ w' = w := by
  go_enter Tryz.func96, Tryz.ntmps96
  go_wp2
  rw [run_callFunc_extern Tryz.func105 (by kernel_rfl) (by kernel_rfl) (by kernel_rfl) (e := Extern.BytealgIndexByte.indexByte) (by kernel_rfl), Lib.run_indexByteString]
  simp only [Result.andThen]
  rw [Oper.upon_value]
  go_wp2
  go_ret
  exact ⟨rfl, rfl⟩
theorem zindex_walk (s : ByteArray) (n : Int) (hn : Lib.indexByte s.data.toList 93 = n) (w : World) : Calls Tryz.prog 85 #[.string s, .string ⟨#[93]⟩] w fun e w' => e = .returned (.int .i64 n) ∧ w' = w := by
  have C : ∀ W, Calls Tryz.prog 96 #[.string s, .int .u8 93] W fun e w' => e = .returned (.int .i64 n) ∧ w' = W := fun W => hn ▸ zindexByte_walk s W
  by_cases h : s.toList = [93]
  · have hb : ([93] == s.toList) = true := by rw [h]; rfl
    have h0 : n = 0 := by rw [← hn, ← ByteArray.toList_eq, h]; rfl
    subst h0
    clear hn h
    go_enter Tryz.func85, Tryz.ntmps85
    go_wp2_with fail
    go_ret
    exact ⟨rfl, rfl⟩
  · have hb : ([93] == s.toList) = false := by rw [← Bool.not_eq_true]; intro e; exact h (eq_of_beq e).symm
    clear hn h
    go_enter Tryz.func85, Tryz.ntmps85
    go_wp2_with fail
    refine (C _).mono ?_
    rintro e w ⟨rfl, rfl⟩
    go_wp2_with fail
    go_ret
    exact ⟨rfl, rfl⟩
theorem zcutMiss_lite (s : ByteArray) (w : World) (h : (93 : UInt8) ∉ s.data.toList) :
    Calls Tryz.prog 71 #[.string s, .string ⟨#[93]⟩] w fun e w' => e = .returned (.tuple #[.string s, .string ⟨#[]⟩, .bool false]) ∧ ∃ n, w' = w.drewN n := by
  have C := zindex_walk s (-1) (zindexByte_miss h)
  clear h
  go_enter Tryz.func71, Tryz.ntmps71
  go_wp2_with fail
  refine (C _).mono ?_
  rintro e w ⟨rfl, rfl⟩
  go_wp2
  go_ret3
  exact ⟨rfl, 0, rfl⟩
theorem zcut_parts {s a r : ByteArray} (h : s.data.toList = a.data.toList ++ 93 :: r.data.toList) : s.size = a.size + 1 + r.size ∧ s.extract 0 a.size = a ∧ s.extract (a.size + 1) s.size = r := by
  have h1 : s.size = a.size + 1 + r.size := by
    have := congrArg List.length h
    rw [List.length_append, List.length_cons, Array.length_toList, Array.length_toList, Array.length_toList] at this
    show s.data.size = a.data.size + 1 + r.data.size
    omega
  have ext : ∀ {x y : ByteArray}, x.data.toList = y.data.toList → x = y := by
    intro x y e
    cases x; cases y
    congr 1
    exact Array.toList_inj.1 e
  refine ⟨h1, ext ?_, ext ?_⟩
  · rw [Lib.extract_data, h, List.drop_zero, Nat.sub_zero, List.take_left' (by rw [Array.length_toList]; rfl)]
  · rw [Lib.extract_data, h, show a.size + 1 = a.data.toList.length + 1 by rw [Array.length_toList]; rfl, List.drop_length_add_append, List.drop_succ_cons, List.drop_zero, List.take_of_length_le]
    rw [Array.length_toList, Array.length_toList]
    show r.data.size ≤ s.size - (a.size + 1)
    have : r.size = r.data.size := rfl
    omega
theorem zcutHit_lite (s a r : ByteArray) (w : World) (hs : s.size ≤ 9223372036854775806) (h : s.data.toList = a.data.toList ++ 93 :: r.data.toList) (ha : (93 : UInt8) ∉ a.data.toList) :
    Calls Tryz.prog 71 #[.string s, .string ⟨#[93]⟩] w fun e w' => e = .returned (.tuple #[.string a, .string r, .bool true]) ∧ ∃ n, w' = w.drewN n := by
  obtain ⟨h1, h2, h3⟩ := zcut_parts h
  have C := zindex_walk s (a.size : Int) (by rw [h, zindexByte_hit ha, Array.length_toList]; rfl)
  obtain ⟨n, hn⟩ : ∃ n, a.size = n := ⟨_, rfl⟩
  rw [hn] at h1 h2 h3 C
  have c1 : (0 : Int) ≤ (n : Int) := by omega
  have c2 : (n : Int) ≤ (s.size : Int) := by omega
  have c3 : (0 : Int) ≤ (n : Int) + 1 := by omega
  have c4 : (n : Int) + 1 ≤ (s.size : Int) := by omega
  clear h ha hn h1
  go_enter Tryz.func71, Tryz.ntmps71
  go_wp2_with fail
  refine (C _).mono ?_
  rintro e w ⟨rfl, rfl⟩
  go_wp2_with fail
  go_quiet (fail)
  go_wp2
  go_ret3
  exact ⟨rfl, _, rfl⟩
theorem zcutMiss (s : ByteArray) (w : World) (h : (93 : UInt8) ∉ s.data.toList) :
    Calls Tryz.prog 60 #[.string s, .string ⟨#[93]⟩] w fun e w' => e = .returned (.tuple #[.string s, .string ⟨#[]⟩, .bool false]) ∧ ∃ n, w' = w.drewN n := by
  have C := fun W => zcutMiss_lite s W h
  go_enter Tryz.func60, Tryz.ntmps60
  go_wp2_with fail
  refine (C _).mono ?_
  rintro e w ⟨rfl, n, rfl⟩
  go_wp2
  go_ret3
  exact ⟨rfl, n, rfl⟩
theorem zcutHit (s a r : ByteArray) (w : World) (hs : s.size ≤ 9223372036854775806) (h : s.data.toList = a.data.toList ++ 93 :: r.data.toList) (ha : (93 : UInt8) ∉ a.data.toList) :
    Calls Tryz.prog 60 #[.string s, .string ⟨#[93]⟩] w fun e w' => e = .returned (.tuple #[.string a, .string r, .bool true]) ∧ ∃ n, w' = w.drewN n := by
  have C := fun W => zcutHit_lite s a r W hs h ha
  clear h
  go_enter Tryz.func60, Tryz.ntmps60
  go_wp2_with fail
  refine (C _).mono ?_
  rintro e w ⟨rfl, n, rfl⟩
  go_wp2
  go_ret3
  exact ⟨rfl, n, rfl⟩

theorem ext_from (s : ByteArray) (k : Nat) : (s.extract k s.size).data.toList = s.data.toList.drop k := by
  rw [Lib.extract_data, List.take_of_length_le]
  rw [List.length_drop, Array.length_toList]; show s.size - k ≤ s.size - k; omega
theorem split93 (l : List UInt8) : (93 : UInt8) ∉ l ∨ ∃ a r, l = a ++ 93 :: r ∧ (93 : UInt8) ∉ a := by
  induction l with
  | nil => exact .inl (by simp)
  | cons c l ih =>
    by_cases h : c = 93
    · exact .inr ⟨[], l, by rw [h]; rfl, by simp⟩
    · rcases ih with h2 | ⟨a, r, e, h3⟩
      · exact .inl (by simp only [List.mem_cons, not_or]; exact ⟨fun e => h e.symm, h2⟩)
      · exact .inr ⟨c :: a, r, by rw [e]; rfl, by simp only [List.mem_cons, not_or]; exact ⟨fun e => h e.symm, h3⟩⟩

set_option maxRecDepth 100000 in
set_option maxHeartbeats 2000000 in
theorem readAt_miss (s r : ByteArray) (h1 : 1 ≤ s.size) (hs : s.size ≤ 100000) (hr : s.extract 1 s.size = r) (h93 : (93 : UInt8) ∉ r.data.toList) (w : World) (hE : Errs w) :
    Calls Tryz.prog 48 #[.string s] w fun e w' => e = .returned (stV ⟨0, Pm.nul, 0⟩ 0) ∧ Below w.heap.size w w' := by
  have c1 : (1 : Int) ≤ (s.size : Int) := by omega
  have hrs : r.size ≤ 1000000 := by rw [← hr, ByteArray.size_extract]; omega
  have hB0 : Below w.heap.size w (w.alloc (.cells #[.int .i64 0, .string ⟨#[]⟩, .int .i64 0] 33)) := (Below.refl _ _).alloc (Nat.le_refl _) _
  have hR := Res.new w
  have C1 := fun W => zcutMiss r W h93
  have C2 := fun W hE => atoi_any r hrs W hE
  unfold stV valS Pm.nul
  clear h1 hs h93 hrs
  go_enter Tryz.func48, Tryz.ntmps48
  go_wp2_with fail
  refine (C1 _).mono ?_
  rintro e w2 ⟨rfl, n, hw⟩
  have bn : Below (w.alloc (.cells #[.int .i64 0, .string ⟨#[]⟩, .int .i64 0] 33)).heap.size (w.alloc (.cells #[.int .i64 0, .string ⟨#[]⟩, .int .i64 0] 33)) w2 := by rw [hw]; exact ⟨rfl, rfl, rfl, Nat.le_refl _, fun _ _ => rfl⟩
  have q9 := Nat.le_of_lt hR.2.1
  replace hR := hR.next bn
  replace hB0 := hB0.trans (bn.mono q9)
  clear hw bn q9
  have hE2 := hE.next hB0
  go_wp2_with fail
  refine (C2 _ hE2).mono ?_
  rintro e w3 ⟨b3, hA⟩
  have q9 := Nat.le_of_lt hR.2.1
  replace hR := hR.next b3
  replace hB0 := hB0.trans (b3.mono q9)
  clear b3 q9 hE hE2 C1 C2
  obtain ⟨r1, r2, ⟨a0, a1, a2⟩, ⟨f0, f1, f2⟩⟩ := id hR
  obtain ⟨s0, s1, s2⟩ := hR.same
  rcases hA with ⟨v, _, rfl⟩ | ⟨_, v, t, p, rfl⟩
  all_goals
    go_wp2
    (try simp only [Exit.inBlock, Exit.then])
    refine bodyPost_ret (by simp [results, Tryz.results48, go_sem, s0, s1, s2]; try rfl) rfl ?_
    exact ⟨rfl, set3 hB0 (Nat.le_refl _) _ _ _⟩
set_option maxRecDepth 100000 in
set_option maxHeartbeats 2000000 in
theorem readAt_hit (s r d tl : ByteArray) (h1 : 1 ≤ s.size) (hs : s.size ≤ 100000) (hr : s.extract 1 s.size = r) (hc : r.data.toList = d.data.toList ++ 93 :: tl.data.toList) (h93 : (93 : UInt8) ∉ d.data.toList) (w : World) (hE : Errs w) :
    Calls Tryz.prog 48 #[.string s] w fun e w' => Below w.heap.size w w' ∧ ((∃ v, Lib.atoiAll d.data.toList = .ok v ∧ e = .returned (stV ⟨2, Pm.nul, v⟩ (d.size + 2))) ∨ ((∀ v, Lib.atoiAll d.data.toList ≠ .ok v) ∧ e = .returned (stV ⟨0, Pm.nul, 0⟩ 0))) := by
  have c1 : (1 : Int) ≤ (s.size : Int) := by omega
  have hds : d.size ≤ 1000000 := by
    have := congrArg List.length hc
    rw [List.length_append, Array.length_toList, Array.length_toList] at this
    have h2 : r.size ≤ 100000 := by rw [← hr, ByteArray.size_extract]; omega
    have h3 : r.data.size = r.size := rfl
    have h4 : d.data.size = d.size := rfl
    omega
  have hrs : r.size ≤ 1000000 := by rw [← hr, ByteArray.size_extract]; omega
  have hB0 : Below w.heap.size w (w.alloc (.cells #[.int .i64 0, .string ⟨#[]⟩, .int .i64 0] 33)) := (Below.refl _ _).alloc (Nat.le_refl _) _
  have hR := Res.new w
  have C1 := fun W => zcutHit r d tl W (by omega) hc h93
  have C2 := fun W hE => atoi_any d hds W hE
  unfold stV valS Pm.nul
  have hw2 : IntKind.i64.wrap ((d.size : Int) + 2) = (d.size : Int) + 2 := by rw [IntKind.wrap_i64]; omega
  have hcast : ((d.size + 2 : Nat) : Int) = (d.size : Int) + 2 := by omega
  clear h1 hs h93 hrs hc hds
  go_enter Tryz.func48, Tryz.ntmps48
  go_wp2_with fail
  refine (C1 _).mono ?_
  rintro e w2 ⟨rfl, n, hw⟩
  have bn : Below (w.alloc (.cells #[.int .i64 0, .string ⟨#[]⟩, .int .i64 0] 33)).heap.size (w.alloc (.cells #[.int .i64 0, .string ⟨#[]⟩, .int .i64 0] 33)) w2 := by rw [hw]; exact ⟨rfl, rfl, rfl, Nat.le_refl _, fun _ _ => rfl⟩
  have q9 := Nat.le_of_lt hR.2.1
  replace hR := hR.next bn
  replace hB0 := hB0.trans (bn.mono q9)
  clear hw bn q9
  have hE2 := hE.next hB0
  go_wp2_with fail
  refine (C2 _ hE2).mono ?_
  rintro e w3 ⟨b3, hA⟩
  have q9 := Nat.le_of_lt hR.2.1
  replace hR := hR.next b3
  replace hB0 := hB0.trans (b3.mono q9)
  clear b3 q9 hE hE2 C1 C2
  obtain ⟨r1, r2, ⟨a0, a1, a2⟩, ⟨f0, f1, f2⟩⟩ := id hR
  obtain ⟨s0, s1, s2⟩ := hR.same
  rcases hA with ⟨v, hv, rfl⟩ | ⟨hv, v, t, p, rfl⟩
  · have HV := phide hv
    clear hv
    go_wp2
    (try simp only [Exit.inBlock, Exit.then])
    refine bodyPost_ret (by simp [results, Tryz.results48, go_sem, s0, s1, s2]; try rfl) rfl ?_
    exact ⟨set3 hB0 (Nat.le_refl _) _ _ _, .inl ⟨v, punhide HV, by rw [hcast]⟩⟩
  · have HV := phide hv
    clear hv
    go_wp2
    (try simp only [Exit.inBlock, Exit.then])
    refine bodyPost_ret (by simp [results, Tryz.results48, go_sem, s0, s1, s2]; try rfl) rfl ?_
    exact ⟨set3 hB0 (Nat.le_refl _) _ _ _, .inr ⟨punhide HV, rfl⟩⟩

set_option maxHeartbeats 2000000 in
theorem quotedKey_any (s r u : ByteArray) (n e : Nat) (h1 : 1 ≤ s.size) (hs : s.size ≤ 100000) (hr : s.extract 1 s.size = r) (hu : Qm.unquoteL r.data.toList = (u.data.toList, n, e)) (hn : e = 0 → n + 1 ≤ s.size) (he : e ≤ 100) (tl : ByteArray) (htl : s.extract (n + 1) s.size = tl) (z : Bool) (hz : Lib.hasPrefix tl.data.toList [93] = z) (w : World) (hT : Tabs w) :
    Calls Tryz.prog 47 #[.string s] w fun x w' => Below w.heap.size w w' ∧ ((e = 0 ∧ z = true ∧ x = .returned (stV ⟨1, u, 0⟩ (n + 2))) ∨ ((e ≠ 0 ∨ z = false) ∧ x = .returned (stV ⟨0, Pm.nul, 0⟩ 0))) := by
  have c1 : (1 : Int) ≤ (s.size : Int) := by omega
  have hrs : r.size ≤ 1000000 := by rw [← hr, ByteArray.size_extract]; omega
  have hB0 : Below w.heap.size w (w.alloc (.cells #[.int .i64 0, .string ⟨#[]⟩, .int .i64 0] 33)) := (Below.refl _ _).alloc (Nat.le_refl _) _
  have hR := Res.new w
  have C1 := fun W hT => unquote_c r u n e W (by omega) hu hT
  have C2 := fun W => prefix_is tl ⟨#[93]⟩ z hz W
  unfold stV valS Pm.nul
  have hT2 := tabs_step hT hB0
  clear hrs hu hz hT
  go_enter Tryz.func47, Tryz.ntmps47
  go_wp2_with fail
  refine (C1 _ hT2).mono ?_
  rintro x w2 ⟨rfl, b2⟩
  have q9 := Nat.le_of_lt hR.2.1
  replace hR := hR.next b2
  replace hB0 := hB0.trans (b2.mono q9)
  clear b2 q9 hT2 C1
  obtain ⟨r1, r2, ⟨a0, a1, a2⟩, ⟨f0, f1, f2⟩⟩ := id hR
  obtain ⟨s0, s1, s2⟩ := hR.same
  by_cases h0 : e = 0
  · subst h0
    have hn1 := hn rfl
    have c3 : (1 : Int) + (n : Int) ≤ (s.size : Int) := by omega
    have c4 : (n : Int) + 1 ≤ (s.size : Int) := by omega
    have c5 : (0 : Int) ≤ 1 + (n : Int) := by omega
    have w1 : IntKind.i64.wrap (1 + (n : Int)) = (n : Int) + 1 := by rw [IntKind.wrap_i64]; omega
    have w2' : IntKind.i64.wrap ((n : Int) + 2) = (n : Int) + 2 := by rw [IntKind.wrap_i64]; omega
    have hcast : ((n + 2 : Nat) : Int) = (n : Int) + 2 := by omega
    clear hn h1 hs hn1 he
    cases z
    · go_wp2_with (go_at_call 45; refine (C2 _).mono ?_; rintro e9 w9 ⟨rfl, rfl⟩)
      (try simp only [Exit.inBlock, Exit.then])
      refine bodyPost_ret (by simp [results, Tryz.results47, go_sem, s0, s1, s2]; try rfl) rfl ?_
      exact ⟨set3 hB0 (Nat.le_refl _) _ _ _, (by first | exact .inr ⟨.inr rfl, rfl⟩ | rfl)⟩
    · go_wp2_with (go_at_call 45; refine (C2 _).mono ?_; rintro e9 w9 ⟨rfl, rfl⟩)
      (try simp only [Exit.inBlock, Exit.then])
      refine bodyPost_ret (by simp [results, Tryz.results47, go_sem, s0, s1, s2]; try rfl) rfl ?_
      exact ⟨set3 hB0 (Nat.le_refl _) _ _ _, (by first | exact .inl ⟨rfl, rfl, by rw [hcast]; rfl⟩ | rfl)⟩
  · have d1 : ((e : Int) != 0) = true := by simp; omega
    have d2 : ¬ (e : Int) = 0 := by omega
    clear hn h1 hs he
    go_wp2
    (try simp only [Exit.inBlock, Exit.then])
    refine bodyPost_ret (by simp [results, Tryz.results47, go_sem, s0, s1, s2]; try rfl) rfl ?_
    exact ⟨set3 hB0 (Nat.le_refl _) _ _ _, (by first | exact .inr ⟨.inl h0, rfl⟩ | rfl)⟩
end Go.Proofs.YtomhgafpjpnmdaaGreatDoor
