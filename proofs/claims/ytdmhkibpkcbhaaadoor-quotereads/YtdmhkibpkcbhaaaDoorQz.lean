/- What is proved here: what the document's own Write and four answer, walked; conditions: the text has at most 1000000 bytes. -/
import Derived.Test.YtdmhkibpkcbhaaaDoorQx
import Derived.Test.YtdmhkibpkcbhaaaDoorQw
namespace Go.Proofs.YtdmhkibpkcbhaaaDoor
open Go.RowKit
set_option linter.unusedVariables false
set_option linter.unusedSimpArgs false

theorem list_atR (s : ByteArray) (k : Nat) (h : k < s.size) (h2 : k < s.data.toList.length) : s.data.toList[k]'h2 = s[k]'h := by
  show _ = s.data[k]'h
  rw [Array.getElem_toList]
theorem conv_z (zs : List Int) (hz : ∀ z ∈ zs, 0 ≤ z ∧ z < 256) (u : ByteArray) (hu : zs.map (fun z => z.toNat.toUInt8) = u.data.toList) (w : World) :
    (convert 35 9 (.slice (some ⟨w.heap.size, 0, none⟩) zs.length zs.length)).run Tryd.prog (w.alloc (.cells (zs.map (Value.int .u8)).toArray 5)) = .ok (.string u) (w.alloc (.cells (zs.map (Value.int .u8)).toArray 5)) := by
  have hl : zs.length = u.data.toList.length := by rw [← hu, List.length_map]
  have hu2 : u = ⟨u.data.toList.toArray⟩ := by simp
  rw [hl]
  refine (run_convert_bytes_back _ 35 9 5 ⟨w.heap.size, 0, none⟩ _ u.data.toList Tryd.underlying35 Tryd.underlying5 Tryd.underlying9 ?_).trans (by rw [← hu2])
  intro j hj
  have hjz : j < zs.length := by omega
  refine many_cells w (zs.map (Value.int .u8)) 5 j _ ?_
  rw [List.getElem?_map, List.getElem?_eq_getElem hjz]
  have e : u.data.toList[j]'hj = (zs[j]'hjz).toNat.toUInt8 := by
    have : (zs.map (fun z => z.toNat.toUInt8))[j]'(by rw [List.length_map]; exact hjz) = u.data.toList[j]'hj := by simp only [hu]
    rw [← this, List.getElem_map]
  obtain ⟨b0, b1⟩ := hz _ (List.getElem_mem hjz)
  rw [e, Qm.byteN _ b0 b1]
  show some (Value.int .u8 (zs[j]'hjz)) = _
  rw [Int.toNat_of_nonneg b0]

set_option maxHeartbeats 4000000 in
set_option maxRecDepth 1000000 in
theorem ref_write (r : Nat) (hr : Qm.Sc r) (u : ByteArray) (hu : Lib.encodeRune (r : Int) = u.data.toList) (w : World) :
    Calls Tryd.prog 36 #[.int .i64 (r : Int)] w fun e w' => e = .returned (.string u) ∧ Below w.heap.size w w' := by
  obtain ⟨h1, h2⟩ := hr
  unfold Lib.encodeRune at hu
  by_cases a : r < 128
  · have e1 : decide ((r : Int) < 128) = true := decide_eq_true (by omega)
    rw [Lib.encodeRuneZ_one (by omega) (by omega)] at hu
    have hcv := conv_z [(r : Int)] (by intro z hz; simp only [List.mem_cons, List.not_mem_nil, or_false] at hz; omega) u hu w
    simp only [List.map_cons, List.map_nil, List.length_cons, List.length_nil, Nat.zero_add] at hcv
    clear hu h2
    go_enter Tryd.func36, Tryd.ntmps36
    go_wp2
    go_ret
    exact ⟨rfl, (Below.refl _ w).alloc (Nat.le_refl _) _⟩
  have e1 : decide ((r : Int) < 128) = false := decide_eq_false (by omega)
  by_cases b : r < 2048
  · have e2 : decide ((r : Int) < 2048) = true := decide_eq_true (by omega)
    rw [Lib.encodeRuneZ_two (by omega) (by omega)] at hu
    have hcv := conv_z [192 + (r : Int) / 64, 128 + (r : Int) % 64] (by intro z hz; simp only [List.mem_cons, List.not_mem_nil, or_false] at hz; omega) u hu w
    simp only [List.map_cons, List.map_nil, List.length_cons, List.length_nil, Nat.zero_add] at hcv
    clear hu h2
    go_enter Tryd.func36, Tryd.ntmps36
    go_wp2
    go_ret
    exact ⟨rfl, (Below.refl _ w).alloc (Nat.le_refl _) _⟩
  have e2 : decide ((r : Int) < 2048) = false := decide_eq_false (by omega)
  by_cases c : r < 65536
  · have e3 : decide ((r : Int) < 65536) = true := decide_eq_true (by omega)
    rw [Lib.encodeRuneZ_three (by omega)] at hu
    have hcv := conv_z [224 + (r : Int) / 4096, 128 + (r : Int) / 64 % 64, 128 + (r : Int) % 64] (by intro z hz; simp only [List.mem_cons, List.not_mem_nil, or_false] at hz; omega) u hu w
    simp only [List.map_cons, List.map_nil, List.length_cons, List.length_nil, Nat.zero_add] at hcv
    clear hu h2
    go_enter Tryd.func36, Tryd.ntmps36
    go_wp2
    go_ret
    exact ⟨rfl, (Below.refl _ w).alloc (Nat.le_refl _) _⟩
  · have e3 : decide ((r : Int) < 65536) = false := decide_eq_false (by omega)
    rw [Lib.encodeRuneZ_four (by omega) (by omega)] at hu
    have hcv := conv_z [240 + (r : Int) / 262144, 128 + (r : Int) / 4096 % 64, 128 + (r : Int) / 64 % 64, 128 + (r : Int) % 64] (by intro z hz; simp only [List.mem_cons, List.not_mem_nil, or_false] at hz; omega) u hu w
    simp only [List.map_cons, List.map_nil, List.length_cons, List.length_nil, Nat.zero_add] at hcv
    clear hu h2
    go_enter Tryd.func36, Tryd.ntmps36
    go_wp2
    go_ret
    exact ⟨rfl, (Below.refl _ w).alloc (Nat.le_refl _) _⟩

theorem w64_small {x m : Int} (h : x = m) (h0 : 0 ≤ x) (h1 : x < 1000000000) : wrap64 x = m := by
  rw [← h]
  exact IntWalk.wrap64_in x ⟨by omega, by omega⟩
theorem hexsum97 (n c m : Nat) (h : 16 * n + (c - 87) = m) (h1 : 97 ≤ c ∧ c ≤ 102) (hn : n < 65536) : wrap64 (16 * (n : Int) + ((c - 97 : Nat) : Int) + 10) = (m : Int) := w64_small (by omega) (by omega) (by omega)
theorem hexsum65 (n c m : Nat) (h : 16 * n + (c - 55) = m) (h1 : 65 ≤ c ∧ c ≤ 70) (hn : n < 65536) : wrap64 (16 * (n : Int) + ((c - 65 : Nat) : Int) + 10) = (m : Int) := w64_small (by omega) (by omega) (by omega)
/-- The number of four digits; -1: there are none. -/
def fourZ (l : List UInt8) : Int := if l.length < 4 then -1 else match Qm.digs (l.take 4) 0 with | none => -1 | some v => (v : Int)
theorem fourZ_short (l : List UInt8) (h : l.length < 4) : fourZ l = -1 := if_pos h
theorem fourZ_digs (l : List UInt8) (h : ¬ l.length < 4) : fourZ l = match Qm.digs (l.take 4) 0 with | none => -1 | some v => (v : Int) := if_neg h
/-- What the last digits make of a number. -/
def digZ (l : List UInt8) (v : Nat) : Int := match Qm.digs l v with | none => -1 | some v => (v : Int)
theorem digZ_nil (v : Nat) : digZ [] v = (v : Int) := rfl
theorem digZ_some (c : UInt8) (t : List UInt8) (v d : Nat) (h : Qm.worth c.toNat = some d) : digZ (c :: t) v = digZ t (16 * v + d) := by
  unfold digZ
  conv => lhs; unfold Qm.digs
  rw [h]
theorem digZ_none (c : UInt8) (t : List UInt8) (v : Nat) (h : Qm.worth c.toNat = none) : digZ (c :: t) v = -1 := by
  unfold digZ Qm.digs
  rw [h]

set_option maxHeartbeats 4000000 in
set_option maxRecDepth 1000000 in
theorem ref_four (s : ByteArray) (p : Nat) (hs : s.size ≤ 1000000) (hp : p ≤ 1000100) (x : Int) (hx : fourZ (s.data.toList.drop p) = x) (w : World) :
    Calls Tryd.prog 35 #[.string s, .int .i64 (p : Int)] w fun e w' => e = .returned (.int .i64 x) ∧ w' = w := by
  have hlen : (s.data.toList.drop p).length = s.size - p := by rw [List.length_drop, ← Lib.size_eq]
  have w1 : IntKind.i64.wrap ((p : Int) + 4) = ((p + 4 : Nat) : Int) := by rw [IntKind.wrap_i64]; omega
  by_cases h4 : s.size < p + 4
  · have e1 : s.size < p + 4 := h4
    rw [fourZ_short _ (by omega)] at hx
    subst hx
    clear h4 hlen hs hp
    go_enter Tryd.func35, Tryd.ntmps35
    go_wp2
    go_ret
    exact ⟨rfl, rfl⟩
  · have e1 : p + 4 ≤ s.size := by omega
    rw [fourZ_digs _ (by omega)] at hx
    change digZ ((s.data.toList.drop p).take 4) 0 = x at hx
    have hat : ∀ k, ∀ h : p + k < s.size, k < 4 → ((s.data.toList.drop p).take 4).drop k = s[p + k]'h :: ((s.data.toList.drop p).take 4).drop (k + 1) := by
      intro k h hk
      have hk2 : k < ((s.data.toList.drop p).take 4).length := by rw [List.length_take, hlen]; omega
      rw [List.drop_eq_getElem_cons hk2]
      congr 1
      rw [List.getElem_take, List.getElem_drop]
      exact list_atR s (p + k) h _
    obtain ⟨l, hl⟩ : ∃ l, (s.data.toList.drop p).take 4 = l := ⟨_, rfl⟩
    have hl4 : l.length = 4 := by rw [← hl, List.length_take, hlen]; omega
    rw [hl] at hx hat
    obtain ⟨e, he⟩ : ∃ e, p + 4 = e := ⟨_, rfl⟩
    rw [he] at w1 e1 h4
    have HX := rhide hx
    have HAT := rhide hat
    have HS := rhide hs
    have HP := rhide hp
    have HE := rhide he
    have H4 := rhide h4
    have HL4 := rhide hl4
    clear hx hat hs hp he h4 hl4 hl hlen
    go_enter Tryd.func35, Tryd.ntmps35
    go_wp2
    go_loop [5, 6] (fun v i => ∃ (k n : Nat), v = .int .i64 (n : Int) ∧ i = .int .i64 ((p + k : Nat) : Int) ∧ k ≤ 4 ∧ n < 16 ^ k ∧ digZ (l.drop k) n = x) (fun _ i => p + 4 - (intOf i).toNat)
    case atStart => exact ⟨0, 0, rfl, rfl, by omega, by decide, by rw [List.drop_zero]; exact runhide HX⟩
    case round =>
      obtain ⟨k, n, rfl, rfl, hk, hn, hd⟩ := hrel
      by_cases hlt : k < 4
      · have hq : p + k < s.size := by have := runhide H4; have := runhide HE; omega
        have hst := runhide HAT k hq hlt
        rw [hst] at hd
        have hn2 : n < 65536 := Nat.lt_of_lt_of_le hn (Nat.pow_le_pow_right (by decide) hk)
        have hn3 : ∀ d, d < 16 → 16 * n + d < 16 ^ (k + 1) := by intro d hd; rw [Nat.pow_succ]; omega
        obtain ⟨q, hqq⟩ : ∃ q, p + k = q := ⟨_, rfl⟩
        have hql : q ≤ 1100000 := by have := runhide HP; omega
        have hqm : p + 4 - (q + 1) < p + 4 - q := by omega
        have e3 : ((p + (k + 1) : Nat) : Int) = ((q + 1 : Nat) : Int) := by omega
        have E3 := rhide e3
        have HQM := rhide hqm
        have HLT := rhide hlt
        have HN3 := rhide hn3
        have hq2 : q < s.size := by omega
        have hqe : q < e := by have := runhide HE; omega
        have e5 : s[p + k]'hq = s[q]'hq2 := by simp only [hqq]
        rw [e5] at hd
        rw [hqq]
        have HQQ := rhide hqq
        have w2 : IntKind.i64.wrap ((q : Int) + 1) = ((q + 1 : Nat) : Int) := by rw [IntKind.wrap_i64]; omega
        have w3 : IntKind.i64.wrap (16 * (n : Int)) = 16 * (n : Int) := by rw [IntKind.wrap_i64]; omega
        have hc9 := (s[q]'hq2).toNat_lt
        clear e3 e5 hqm hn hk hn3 hst hqq hq hlt
        by_cases g1 : 48 ≤ (s[q]'hq2).toNat ∧ (s[q]'hq2).toNat ≤ 57
        · rw [digZ_some _ _ _ ((s[q]'hq2).toNat - 48) (by unfold Qm.worth; rw [if_pos g1])] at hd
          have t1 : decide ((48 : Int) ≤ ((s[q]'hq2).toNat : Int)) = true := decide_eq_true (by omega)
          have t2 : decide (((s[q]'hq2).toNat : Int) ≤ 57) = true := decide_eq_true (by omega)
          have w4 : IntKind.u8.wrap (((s[q]'hq2).toNat : Int) - 48) = (((s[q]'hq2).toNat - 48 : Nat) : Int) := by rw [wrap_u8]; omega
          have w5 : IntKind.i64.wrap (16 * (n : Int) + (((s[q]'hq2).toNat - 48 : Nat) : Int)) = ((16 * n + ((s[q]'hq2).toNat - 48) : Nat) : Int) := by rw [IntKind.wrap_i64]; omega
          have hd2 : (s[q]'hq2).toNat - 48 < 16 := by omega
          clear g1 hc9 hn2 hql
          go_wp2
          go_round
          case rel => exact ⟨k + 1, _, rfl, by rw [runhide E3]; go_num, runhide HLT, runhide HN3 _ hd2, hd⟩
          case measure => exact runhide HQM
        have T1 : (decide ((48 : Int) ≤ ((s[q]'hq2).toNat : Int)) = true ∧ decide (((s[q]'hq2).toNat : Int) ≤ 57) = false) ∨ decide ((48 : Int) ≤ ((s[q]'hq2).toNat : Int)) = false := by
          by_cases h : 48 ≤ (s[q]'hq2).toNat
          · exact .inl ⟨decide_eq_true (by omega), decide_eq_false (by omega)⟩
          · exact .inr (decide_eq_false (by omega))
        by_cases g2 : 97 ≤ (s[q]'hq2).toNat ∧ (s[q]'hq2).toNat ≤ 102
        · rw [digZ_some _ _ _ ((s[q]'hq2).toNat - 87) (by unfold Qm.worth; rw [if_neg g1, if_pos g2])] at hd
          have t3 : decide ((97 : Int) ≤ ((s[q]'hq2).toNat : Int)) = true := decide_eq_true (by omega)
          have t4 : decide (((s[q]'hq2).toNat : Int) ≤ 102) = true := decide_eq_true (by omega)
          have w4 : IntKind.u8.wrap (((s[q]'hq2).toNat : Int) - 97) = (((s[q]'hq2).toNat - 97 : Nat) : Int) := by rw [wrap_u8]; omega
          have w5 : IntKind.i64.wrap (16 * (n : Int) + (((s[q]'hq2).toNat - 97 : Nat) : Int)) = ((16 * n + ((s[q]'hq2).toNat - 97) : Nat) : Int) := by rw [IntKind.wrap_i64]; omega
          obtain ⟨m, hm⟩ : ∃ m, 16 * n + ((s[q]'hq2).toNat - 87) = m := ⟨_, rfl⟩
          have W6 := rhide (hexsum97 _ _ _ hm g2 hn2)
          have hd2 : (s[q]'hq2).toNat - 87 < 16 := by omega
          have hmx := runhide HN3 ((s[q]'hq2).toNat - 87) (by omega)
          rw [hm] at hd hmx
          have HMX := rhide hmx
          clear hmx hm
          rcases T1 with ⟨t1, t2⟩ | t1
          all_goals
            clear g1 g2 hc9 hn2 hql
            go_wp2
            go_round
            case rel => exact ⟨k + 1, m, congrArg (Value.int .i64) (runhide W6), by rw [runhide E3]; go_num, runhide HLT, runhide HMX, hd⟩
            case measure => exact runhide HQM
        have T2 : (decide ((97 : Int) ≤ ((s[q]'hq2).toNat : Int)) = true ∧ decide (((s[q]'hq2).toNat : Int) ≤ 102) = false) ∨ decide ((97 : Int) ≤ ((s[q]'hq2).toNat : Int)) = false := by
          by_cases h : 97 ≤ (s[q]'hq2).toNat
          · exact .inl ⟨decide_eq_true (by omega), decide_eq_false (by omega)⟩
          · exact .inr (decide_eq_false (by omega))
        by_cases g3 : 65 ≤ (s[q]'hq2).toNat ∧ (s[q]'hq2).toNat ≤ 70
        · rw [digZ_some _ _ _ ((s[q]'hq2).toNat - 55) (by unfold Qm.worth; rw [if_neg g1, if_neg g2, if_pos g3])] at hd
          have t5 : decide ((65 : Int) ≤ ((s[q]'hq2).toNat : Int)) = true := decide_eq_true (by omega)
          have t6 : decide (((s[q]'hq2).toNat : Int) ≤ 70) = true := decide_eq_true (by omega)
          have w4 : IntKind.u8.wrap (((s[q]'hq2).toNat : Int) - 65) = (((s[q]'hq2).toNat - 65 : Nat) : Int) := by rw [wrap_u8]; omega
          have w5 : IntKind.i64.wrap (16 * (n : Int) + (((s[q]'hq2).toNat - 65 : Nat) : Int)) = ((16 * n + ((s[q]'hq2).toNat - 65) : Nat) : Int) := by rw [IntKind.wrap_i64]; omega
          obtain ⟨m, hm⟩ : ∃ m, 16 * n + ((s[q]'hq2).toNat - 55) = m := ⟨_, rfl⟩
          have W6 := rhide (hexsum65 _ _ _ hm g3 hn2)
          have hd2 : (s[q]'hq2).toNat - 55 < 16 := by omega
          have hmx := runhide HN3 ((s[q]'hq2).toNat - 55) (by omega)
          rw [hm] at hd hmx
          have HMX := rhide hmx
          clear hmx hm
          rcases T1 with ⟨t1, t2⟩ | t1 <;> rcases T2 with ⟨t3, t4⟩ | t3
          all_goals
            clear g1 g2 g3 hc9 hn2 hql
            go_wp2
            go_round
            case rel => exact ⟨k + 1, m, congrArg (Value.int .i64) (runhide W6), by rw [runhide E3]; go_num, runhide HLT, runhide HMX, hd⟩
            case measure => exact runhide HQM
        have T3 : (decide ((65 : Int) ≤ ((s[q]'hq2).toNat : Int)) = true ∧ decide (((s[q]'hq2).toNat : Int) ≤ 70) = false) ∨ decide ((65 : Int) ≤ ((s[q]'hq2).toNat : Int)) = false := by
          by_cases h : 65 ≤ (s[q]'hq2).toNat
          · exact .inl ⟨decide_eq_true (by omega), decide_eq_false (by omega)⟩
          · exact .inr (decide_eq_false (by omega))
        rw [digZ_none _ _ _ (by unfold Qm.worth; rw [if_neg g1, if_neg g2, if_neg g3])] at hd
        subst hd
        rcases T1 with ⟨t1, t2⟩ | t1 <;> rcases T2 with ⟨t3, t4⟩ | t3 <;> rcases T3 with ⟨t5, t6⟩ | t5
        all_goals
          clear g1 g2 g3 hc9 hn2 hql HX
          first
            | (exfalso; revert t1 t3 t5; simp; omega)
            | (go_wp2
               go_ret
               exact ⟨rfl, rfl⟩)
      · obtain rfl : k = 4 := by omega
        rw [show l.drop 4 = [] from List.drop_eq_nil_of_le (by have := runhide HL4; omega), digZ_nil] at hd
        subst hd
        have hqe : ¬ p + 4 < e := by have := runhide HE; omega
        have hcx : ((p + 4 : Nat) : Int) = (e : Int) := by have := runhide HE; omega
        clear hlt hk hn HX
        go_wp2
        go_ret
        exact ⟨rfl, rfl⟩
end Go.Proofs.YtdmhkibpkcbhaaaDoor
