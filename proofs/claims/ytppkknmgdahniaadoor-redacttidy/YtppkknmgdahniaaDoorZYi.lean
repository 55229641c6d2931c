/- What is proved here: what the document's own Cut answers, walked; condition: the text has at most 2^40 bytes. -/
import Derived.Test.YtppkknmgdahniaaDoorZBc
import Derived.Laws.IdiomStrings
import Derived.Deep.AppendLies
import Derived.Deep.RegionLaw
import Derived.Deep.RegionHeld3
import Derived.Test.YtppkknmgdahniaaDoorZBd
namespace Go.Proofs.YtppkknmgdahniaaDoor.Nq
set_option maxRecDepth 100000
open Go.RowKit
set_option linter.unusedVariables false
set_option linter.unusedSimpArgs false

end Go.Proofs.YtppkknmgdahniaaDoor.Nq
/- What is proved here: what the document's own Quote answers, walked; conditions: the text is UTF-8 and has at most 1000000 bytes. -/
namespace Go.Proofs.YtppkknmgdahniaaDoor.Nq
set_option maxRecDepth 100000
open Go.RowKit
set_option linter.unusedVariables false
set_option linter.unusedSimpArgs false

theorem many_cells (W : World) (vs : List Value) (t : TypeId) : ∀ j u, vs[j]? = some u → (W.alloc (.cells vs.toArray t)).cell? ((⟨W.heap.size, 0, none⟩ : Addr).add j) = some u := by
  intro j u hj
  have := World.news_of_block (w := W.alloc (.cells vs.toArray t)) (B := W.heap.size) (heap_alloc_new W _) j u (by simpa using hj)
  exact this
theorem byte_is {c : UInt8} {n : Nat} (h : c.toNat = n) : c = UInt8.ofNat n := by rw [← h]; simp
theorem wrap_u8 (x : Int) : IntKind.u8.wrap x = x % 256 := by
  unfold IntKind.wrap
  simp [IntKind.signed, IntKind.bits]
end Go.Proofs.YtppkknmgdahniaaDoor.Nq
/- What is proved here: what the document's own Write and four answer, walked; conditions: the text has at most 1000000 bytes. -/
namespace Go.Proofs.YtppkknmgdahniaaDoor.Nq
set_option maxRecDepth 100000
open Go.RowKit
set_option linter.unusedVariables false
set_option linter.unusedSimpArgs false

theorem list_atR (s : ByteArray) (k : Nat) (h : k < s.size) (h2 : k < s.data.toList.length) : s.data.toList[k]'h2 = s[k]'h := by
  show _ = s.data[k]'h
  rw [Array.getElem_toList]
theorem conv_z (zs : List Int) (hz : ∀ z ∈ zs, 0 ≤ z ∧ z < 256) (u : ByteArray) (hu : zs.map (fun z => z.toNat.toUInt8) = u.data.toList) (w : World) :
    (convert 81 9 (.slice (some ⟨w.heap.size, 0, none⟩) zs.length zs.length)).run Tryd.prog (w.alloc (.cells (zs.map (Value.int .u8)).toArray 5)) = .ok (.string u) (w.alloc (.cells (zs.map (Value.int .u8)).toArray 5)) := by
  have hl : zs.length = u.data.toList.length := by rw [← hu, List.length_map]
  have hu2 : u = ⟨u.data.toList.toArray⟩ := by simp
  rw [hl]
  refine (run_convert_bytes_back _ 81 9 5 ⟨w.heap.size, 0, none⟩ _ u.data.toList Tryd.underlying81 Tryd.underlying5 Tryd.underlying9 ?_).trans (by rw [← hu2])
  intro j hj
  have hjz : j < zs.length := by omega
  refine many_cells w (zs.map (Value.int .u8)) 5 j _ ?_
  rw [List.getElem?_map, List.getElem?_eq_getElem hjz]
  have e : u.data.toList[j]'hj = (zs[j]'hjz).toNat.toUInt8 := by
    have : (zs.map (fun z => z.toNat.toUInt8))[j]'(by rw [List.length_map]; exact hjz) = u.data.toList[j]'hj := by simp only [hu]
    rw [← this, List.getElem_map]
  obtain ⟨b0, b1⟩ := hz _ (List.getElem_mem hjz)
  rw [e, Qm.byteN _ b0 b1]
  show some (Value.int .u8 (zs[j]'hjz)) = _
  rw [Int.toNat_of_nonneg b0]

set_option maxHeartbeats 4000000 in
set_option maxRecDepth 1000000 in
theorem ref_write (r : Nat) (hr : Qm.Sc r) (u : ByteArray) (hu : Lib.encodeRune (r : Int) = u.data.toList) (w : World) :
    Calls Tryd.prog 117 #[.int .i64 (r : Int)] w fun e w' => e = .returned (.string u) ∧ Below w.heap.size w w' := by
  obtain ⟨h1, h2⟩ := hr
  unfold Lib.encodeRune at hu
  by_cases a : r < 128
  · have e1 : decide ((r : Int) < 128) = true := decide_eq_true (by omega)
    rw [Lib.encodeRuneZ_one (by omega) (by omega)] at hu
    have hcv := conv_z [(r : Int)] (by intro z hz; simp only [List.mem_cons, List.not_mem_nil, or_false] at hz; omega) u hu w
    simp only [List.map_cons, List.map_nil, List.length_cons, List.length_nil, Nat.zero_add] at hcv
    clear hu h2
    go_enter Tryd.func117, Tryd.ntmps117
    go_wp2
    go_ret
    exact ⟨rfl, (Below.refl _ w).alloc (Nat.le_refl _) _⟩
  have e1 : decide ((r : Int) < 128) = false := decide_eq_false (by omega)
  by_cases b : r < 2048
  · have e2 : decide ((r : Int) < 2048) = true := decide_eq_true (by omega)
    rw [Lib.encodeRuneZ_two (by omega) (by omega)] at hu
    have hcv := conv_z [192 + (r : Int) / 64, 128 + (r : Int) % 64] (by intro z hz; simp only [List.mem_cons, List.not_mem_nil, or_false] at hz; omega) u hu w
    simp only [List.map_cons, List.map_nil, List.length_cons, List.length_nil, Nat.zero_add] at hcv
    clear hu h2
    go_enter Tryd.func117, Tryd.ntmps117
    go_wp2
    go_ret
    exact ⟨rfl, (Below.refl _ w).alloc (Nat.le_refl _) _⟩
  have e2 : decide ((r : Int) < 2048) = false := decide_eq_false (by omega)
  by_cases c : r < 65536
  · have e3 : decide ((r : Int) < 65536) = true := decide_eq_true (by omega)
    rw [Lib.encodeRuneZ_three (by omega)] at hu
    have hcv := conv_z [224 + (r : Int) / 4096, 128 + (r : Int) / 64 % 64, 128 + (r : Int) % 64] (by intro z hz; simp only [List.mem_cons, List.not_mem_nil, or_false] at hz; omega) u hu w
    simp only [List.map_cons, List.map_nil, List.length_cons, List.length_nil, Nat.zero_add] at hcv
    clear hu h2
    go_enter Tryd.func117, Tryd.ntmps117
    go_wp2
    go_ret
    exact ⟨rfl, (Below.refl _ w).alloc (Nat.le_refl _) _⟩
  · have e3 : decide ((r : Int) < 65536) = false := decide_eq_false (by omega)
    rw [Lib.encodeRuneZ_four (by omega) (by omega)] at hu
    have hcv := conv_z [240 + (r : Int) / 262144, 128 + (r : Int) / 4096 % 64, 128 + (r : Int) / 64 % 64, 128 + (r : Int) % 64] (by intro z hz; simp only [List.mem_cons, List.not_mem_nil, or_false] at hz; omega) u hu w
    simp only [List.map_cons, List.map_nil, List.length_cons, List.length_nil, Nat.zero_add] at hcv
    clear hu h2
    go_enter Tryd.func117, Tryd.ntmps117
    go_wp2
    go_ret
    exact ⟨rfl, (Below.refl _ w).alloc (Nat.le_refl _) _⟩

theorem w64_small {x m : Int} (h : x = m) (h0 : 0 ≤ x) (h1 : x < 1000000000) : wrap64 x = m := by
  rw [← h]
  exact IntWalk.wrap64_in x ⟨by omega, by omega⟩
theorem hexsum97 (n c m : Nat) (h : 16 * n + (c - 87) = m) (h1 : 97 ≤ c ∧ c ≤ 102) (hn : n < 65536) : wrap64 (16 * (n : Int) + ((c - 97 : Nat) : Int) + 10) = (m : Int) := w64_small (by omega) (by omega) (by omega)
theorem hexsum65 (n c m : Nat) (h : 16 * n + (c - 55) = m) (h1 : 65 ≤ c ∧ c ≤ 70) (hn : n < 65536) : wrap64 (16 * (n : Int) + ((c - 65 : Nat) : Int) + 10) = (m : Int) := w64_small (by omega) (by omega) (by omega)
/-- The number of four digits; -1: there are none. -/
def fourZ (l : List UInt8) : Int := if l.length < 4 then -1 else match Qm.digs (l.take 4) 0 with | none => -1 | some v => (v : Int)
theorem fourZ_short (l : List UInt8) (h : l.length < 4) : fourZ l = -1 := if_pos h
theorem fourZ_digs (l : List UInt8) (h : ¬ l.length < 4) : fourZ l = match Qm.digs (l.take 4) 0 with | none => -1 | some v => (v : Int) := if_neg h
/-- What the last digits make of a number. -/
def digZ (l : List UInt8) (v : Nat) : Int := match Qm.digs l v with | none => -1 | some v => (v : Int)
theorem digZ_nil (v : Nat) : digZ [] v = (v : Int) := rfl
theorem digZ_some (c : UInt8) (t : List UInt8) (v d : Nat) (h : Qm.worth c.toNat = some d) : digZ (c :: t) v = digZ t (16 * v + d) := by
  unfold digZ
  conv => lhs; unfold Qm.digs
  rw [h]
theorem digZ_none (c : UInt8) (t : List UInt8) (v : Nat) (h : Qm.worth c.toNat = none) : digZ (c :: t) v = -1 := by
  unfold digZ Qm.digs
  rw [h]

set_option maxHeartbeats 4000000 in
set_option maxRecDepth 1000000 in
theorem ref_four (s : ByteArray) (p : Nat) (hs : s.size ≤ 1000000) (hp : p ≤ 1000100) (x : Int) (hx : fourZ (s.data.toList.drop p) = x) (w : World) :
    Calls Tryd.prog 116 #[.string s, .int .i64 (p : Int)] w fun e w' => e = .returned (.int .i64 x) ∧ w' = w := by
  have hlen : (s.data.toList.drop p).length = s.size - p := by rw [List.length_drop, ← Lib.size_eq]
  have w1 : IntKind.i64.wrap ((p : Int) + 4) = ((p + 4 : Nat) : Int) := by rw [IntKind.wrap_i64]; omega
  by_cases h4 : s.size < p + 4
  · have e1 : s.size < p + 4 := h4
    rw [fourZ_short _ (by omega)] at hx
    subst hx
    clear h4 hlen hs hp
    go_enter Tryd.func116, Tryd.ntmps116
    go_wp2
    go_ret
    exact ⟨rfl, rfl⟩
  · have e1 : p + 4 ≤ s.size := by omega
    rw [fourZ_digs _ (by omega)] at hx
    change digZ ((s.data.toList.drop p).take 4) 0 = x at hx
    have hat : ∀ k, ∀ h : p + k < s.size, k < 4 → ((s.data.toList.drop p).take 4).drop k = s[p + k]'h :: ((s.data.toList.drop p).take 4).drop (k + 1) := by
      intro k h hk
      have hk2 : k < ((s.data.toList.drop p).take 4).length := by rw [List.length_take, hlen]; omega
      rw [List.drop_eq_getElem_cons hk2]
      congr 1
      rw [List.getElem_take, List.getElem_drop]
      exact list_atR s (p + k) h _
    obtain ⟨l, hl⟩ : ∃ l, (s.data.toList.drop p).take 4 = l := ⟨_, rfl⟩
    have hl4 : l.length = 4 := by rw [← hl, List.length_take, hlen]; omega
    rw [hl] at hx hat
    obtain ⟨e, he⟩ : ∃ e, p + 4 = e := ⟨_, rfl⟩
    rw [he] at w1 e1 h4
    have HX := rhide hx
    have HAT := rhide hat
    have HS := rhide hs
    have HP := rhide hp
    have HE := rhide he
    have H4 := rhide h4
    have HL4 := rhide hl4
    clear hx hat hs hp he h4 hl4 hl hlen
    go_enter Tryd.func116, Tryd.ntmps116
    go_wp2
    go_loop [5, 6] (fun v i => ∃ (k n : Nat), v = .int .i64 (n : Int) ∧ i = .int .i64 ((p + k : Nat) : Int) ∧ k ≤ 4 ∧ n < 16 ^ k ∧ digZ (l.drop k) n = x) (fun _ i => p + 4 - (intOf i).toNat)
    case atStart => exact ⟨0, 0, rfl, rfl, by omega, by decide, by rw [List.drop_zero]; exact runhide HX⟩
    case round =>
      obtain ⟨k, n, rfl, rfl, hk, hn, hd⟩ := hrel
      by_cases hlt : k < 4
      · have hq : p + k < s.size := by have := runhide H4; have := runhide HE; omega
        have hst := runhide HAT k hq hlt
        rw [hst] at hd
        have hn2 : n < 65536 := Nat.lt_of_lt_of_le hn (Nat.pow_le_pow_right (by decide) hk)
        have hn3 : ∀ d, d < 16 → 16 * n + d < 16 ^ (k + 1) := by intro d hd; rw [Nat.pow_succ]; omega
        obtain ⟨q, hqq⟩ : ∃ q, p + k = q := ⟨_, rfl⟩
        have hql : q ≤ 1100000 := by have := runhide HP; omega
        have hqm : p + 4 - (q + 1) < p + 4 - q := by omega
        have e3 : ((p + (k + 1) : Nat) : Int) = ((q + 1 : Nat) : Int) := by omega
        have E3 := rhide e3
        have HQM := rhide hqm
        have HLT := rhide hlt
        have HN3 := rhide hn3
        have hq2 : q < s.size := by omega
        have hqe : q < e := by have := runhide HE; omega
        have e5 : s[p + k]'hq = s[q]'hq2 := by simp only [hqq]
        rw [e5] at hd
        rw [hqq]
        have HQQ := rhide hqq
        have w2 : IntKind.i64.wrap ((q : Int) + 1) = ((q + 1 : Nat) : Int) := by rw [IntKind.wrap_i64]; omega
        have w3 : IntKind.i64.wrap (16 * (n : Int)) = 16 * (n : Int) := by rw [IntKind.wrap_i64]; omega
        have hc9 := (s[q]'hq2).toNat_lt
        clear e3 e5 hqm hn hk hn3 hst hqq hq hlt
        by_cases g1 : 48 ≤ (s[q]'hq2).toNat ∧ (s[q]'hq2).toNat ≤ 57
        · rw [digZ_some _ _ _ ((s[q]'hq2).toNat - 48) (by unfold Qm.worth; rw [if_pos g1])] at hd
          have t1 : decide ((48 : Int) ≤ ((s[q]'hq2).toNat : Int)) = true := decide_eq_true (by omega)
          have t2 : decide (((s[q]'hq2).toNat : Int) ≤ 57) = true := decide_eq_true (by omega)
          have w4 : IntKind.u8.wrap (((s[q]'hq2).toNat : Int) - 48) = (((s[q]'hq2).toNat - 48 : Nat) : Int) := by rw [wrap_u8]; omega
          have w5 : IntKind.i64.wrap (16 * (n : Int) + (((s[q]'hq2).toNat - 48 : Nat) : Int)) = ((16 * n + ((s[q]'hq2).toNat - 48) : Nat) : Int) := by rw [IntKind.wrap_i64]; omega
          have hd2 : (s[q]'hq2).toNat - 48 < 16 := by omega
          clear g1 hc9 hn2 hql
          go_wp2
          go_round
          case rel => exact ⟨k + 1, _, rfl, by rw [runhide E3]; go_num, runhide HLT, runhide HN3 _ hd2, hd⟩
          case measure => exact runhide HQM
        have T1 : (decide ((48 : Int) ≤ ((s[q]'hq2).toNat : Int)) = true ∧ decide (((s[q]'hq2).toNat : Int) ≤ 57) = false) ∨ decide ((48 : Int) ≤ ((s[q]'hq2).toNat : Int)) = false := by
          by_cases h : 48 ≤ (s[q]'hq2).toNat
          · exact .inl ⟨decide_eq_true (by omega), decide_eq_false (by omega)⟩
          · exact .inr (decide_eq_false (by omega))
        by_cases g2 : 97 ≤ (s[q]'hq2).toNat ∧ (s[q]'hq2).toNat ≤ 102
        · rw [digZ_some _ _ _ ((s[q]'hq2).toNat - 87) (by unfold Qm.worth; rw [if_neg g1, if_pos g2])] at hd
          have t3 : decide ((97 : Int) ≤ ((s[q]'hq2).toNat : Int)) = true := decide_eq_true (by omega)
          have t4 : decide (((s[q]'hq2).toNat : Int) ≤ 102) = true := decide_eq_true (by omega)
          have w4 : IntKind.u8.wrap (((s[q]'hq2).toNat : Int) - 97) = (((s[q]'hq2).toNat - 97 : Nat) : Int) := by rw [wrap_u8]; omega
          have w5 : IntKind.i64.wrap (16 * (n : Int) + (((s[q]'hq2).toNat - 97 : Nat) : Int)) = ((16 * n + ((s[q]'hq2).toNat - 97) : Nat) : Int) := by rw [IntKind.wrap_i64]; omega
          obtain ⟨m, hm⟩ : ∃ m, 16 * n + ((s[q]'hq2).toNat - 87) = m := ⟨_, rfl⟩
          have W6 := rhide (hexsum97 _ _ _ hm g2 hn2)
          have hd2 : (s[q]'hq2).toNat - 87 < 16 := by omega
          have hmx := runhide HN3 ((s[q]'hq2).toNat - 87) (by omega)
          rw [hm] at hd hmx
          have HMX := rhide hmx
          clear hmx hm
          rcases T1 with ⟨t1, t2⟩ | t1
          all_goals
            clear g1 g2 hc9 hn2 hql
            go_wp2
            go_round
            case rel => exact ⟨k + 1, m, congrArg (Value.int .i64) (runhide W6), by rw [runhide E3]; go_num, runhide HLT, runhide HMX, hd⟩
            case measure => exact runhide HQM
        have T2 : (decide ((97 : Int) ≤ ((s[q]'hq2).toNat : Int)) = true ∧ decide (((s[q]'hq2).toNat : Int) ≤ 102) = false) ∨ decide ((97 : Int) ≤ ((s[q]'hq2).toNat : Int)) = false := by
          by_cases h : 97 ≤ (s[q]'hq2).toNat
          · exact .inl ⟨decide_eq_true (by omega), decide_eq_false (by omega)⟩
          · exact .inr (decide_eq_false (by omega))
        by_cases g3 : 65 ≤ (s[q]'hq2).toNat ∧ (s[q]'hq2).toNat ≤ 70
        · rw [digZ_some _ _ _ ((s[q]'hq2).toNat - 55) (by unfold Qm.worth; rw [if_neg g1, if_neg g2, if_pos g3])] at hd
          have t5 : decide ((65 : Int) ≤ ((s[q]'hq2).toNat : Int)) = true := decide_eq_true (by omega)
          have t6 : decide (((s[q]'hq2).toNat : Int) ≤ 70) = true := decide_eq_true (by omega)
          have w4 : IntKind.u8.wrap (((s[q]'hq2).toNat : Int) - 65) = (((s[q]'hq2).toNat - 65 : Nat) : Int) := by rw [wrap_u8]; omega
          have w5 : IntKind.i64.wrap (16 * (n : Int) + (((s[q]'hq2).toNat - 65 : Nat) : Int)) = ((16 * n + ((s[q]'hq2).toNat - 65) : Nat) : Int) := by rw [IntKind.wrap_i64]; omega
          obtain ⟨m, hm⟩ : ∃ m, 16 * n + ((s[q]'hq2).toNat - 55) = m := ⟨_, rfl⟩
          have W6 := rhide (hexsum65 _ _ _ hm g3 hn2)
          have hd2 : (s[q]'hq2).toNat - 55 < 16 := by omega
          have hmx := runhide HN3 ((s[q]'hq2).toNat - 55) (by omega)
          rw [hm] at hd hmx
          have HMX := rhide hmx
          clear hmx hm
          rcases T1 with ⟨t1, t2⟩ | t1 <;> rcases T2 with ⟨t3, t4⟩ | t3
          all_goals
            clear g1 g2 g3 hc9 hn2 hql
            go_wp2
            go_round
            case rel => exact ⟨k + 1, m, congrArg (Value.int .i64) (runhide W6), by rw [runhide E3]; go_num, runhide HLT, runhide HMX, hd⟩
            case measure => exact runhide HQM
        have T3 : (decide ((65 : Int) ≤ ((s[q]'hq2).toNat : Int)) = true ∧ decide (((s[q]'hq2).toNat : Int) ≤ 70) = false) ∨ decide ((65 : Int) ≤ ((s[q]'hq2).toNat : Int)) = false := by
          by_cases h : 65 ≤ (s[q]'hq2).toNat
          · exact .inl ⟨decide_eq_true (by omega), decide_eq_false (by omega)⟩
          · exact .inr (decide_eq_false (by omega))
        rw [digZ_none _ _ _ (by unfold Qm.worth; rw [if_neg g1, if_neg g2, if_neg g3])] at hd
        subst hd
        rcases T1 with ⟨t1, t2⟩ | t1 <;> rcases T2 with ⟨t3, t4⟩ | t3 <;> rcases T3 with ⟨t5, t6⟩ | t5
        all_goals
          clear g1 g2 g3 hc9 hn2 hql HX
          first
            | (exfalso; revert t1 t3 t5; simp; omega)
            | (go_wp2
               go_ret
               exact ⟨rfl, rfl⟩)
      · obtain rfl : k = 4 := by omega
        rw [show l.drop 4 = [] from List.drop_eq_nil_of_le (by have := runhide HL4; omega), digZ_nil] at hd
        subst hd
        have hqe : ¬ p + 4 < e := by have := runhide HE; omega
        have hcx : ((p + 4 : Nat) : Int) = (e : Int) := by have := runhide HE; omega
        clear hlt hk hn HX
        go_wp2
        go_ret
        exact ⟨rfl, rfl⟩
end Go.Proofs.YtppkknmgdahniaaDoor.Nq
/- What is proved here: what the document's own escape answers, walked; conditions: the text has at most 1000000 bytes, the place is within it. -/
namespace Go.Proofs.YtppkknmgdahniaaDoor.Nq
set_option maxRecDepth 100000
open Go.RowKit
set_option linter.unusedVariables false
set_option linter.unusedSimpArgs false

/-- What stands behind a backslash: the text, and how many bytes it has. -/
def escR (l : List UInt8) : List UInt8 × Nat := match Qm.nextL (92 :: l) with | none => ([], 0) | some (r, k) => (Lib.encodeRune (r : Int), k - 1)
/-- The number of u and four digits; -1: there are none. -/
def uZ (l : List UInt8) : Int := match Qm.unitL l with | none => -1 | some b => (b : Int)
theorem escR_nil : escR [] = ([], 0) := rfl
theorem nextL_two (c : UInt8) (l : List UInt8) : Qm.nextL (92 :: c :: l) = match Qm.escL c.toNat with | some r => some (r, 2) | none => Qm.numL (92 :: c :: l) := by
  unfold Qm.nextL
  rw [if_neg (by simp), if_pos (by simp), if_neg (by simp)]
  rfl
theorem escR_lit (c : UInt8) (l : List UInt8) (r : Nat) (h : Qm.escL c.toNat = some r) : escR (c :: l) = (Lib.encodeRune (r : Int), 1) := by
  unfold escR
  rw [nextL_two, h]
theorem escR_num (c : UInt8) (l : List UInt8) (h : Qm.escL c.toNat = none) : escR (c :: l) = match Qm.numL (92 :: c :: l) with | none => ([], 0) | some (r, k) => (Lib.encodeRune (r : Int), k - 1) := by
  unfold escR
  rw [nextL_two, h]
theorem escR_other (c : UInt8) (l : List UInt8) (h : Qm.escL c.toNat = none) (hc : c.toNat ≠ 117) : escR (c :: l) = ([], 0) := by
  rw [escR_num c l h]
  have : Qm.unitL (92 :: c :: l) = none := by
    unfold Qm.unitL
    rw [if_neg]
    rintro ⟨_, _, g⟩
    simp at g
    exact hc (by rw [g]; rfl)
  unfold Qm.numL
  rw [this]
theorem uZ_four (l : List UInt8) : uZ (92 :: 117 :: l) = fourZ l := by
  unfold uZ Qm.unitL fourZ
  by_cases h : l.length < 4
  · rw [if_pos h, if_neg (by simp; omega)]
  · rw [if_neg h, if_pos ⟨by simp; omega, by simp, by simp⟩]
    rfl
theorem uZ_no (l : List UInt8) (h : ¬ (l.getD 0 0 = 92 ∧ l.getD 1 0 = 117)) : uZ l = -1 := by
  unfold uZ Qm.unitL
  rw [if_neg]
  rintro ⟨_, g⟩
  exact h g
theorem uZ_short (l : List UInt8) (h : l.length < 6) : uZ l = -1 := by
  unfold uZ Qm.unitL
  rw [if_neg]
  rintro ⟨g, _⟩
  omega
theorem uZ_bound (l : List UInt8) : uZ l = -1 ∨ ∃ b : Nat, uZ l = (b : Int) ∧ b < 65536 := by
  unfold uZ
  cases h : Qm.unitL l with
  | none => exact .inl rfl
  | some b => exact .inr ⟨b, rfl, (Qm.unit_lt h).1⟩
theorem escL_u : Qm.escL (117 : UInt8).toNat = none := by decide
/-- The arms behind u. -/
theorem escR_u (l : List UInt8) : (fourZ l = -1 → escR (117 :: l) = ([], 0)) ∧
    (∀ a : Nat, fourZ l = (a : Int) → (a < 55296 ∨ 57344 ≤ a) → escR (117 :: l) = (Lib.encodeRune (a : Int), 5)) ∧
    (∀ a : Nat, fourZ l = (a : Int) → 56320 ≤ a → a < 57344 → escR (117 :: l) = ([], 0)) ∧
    (∀ a : Nat, fourZ l = (a : Int) → 55296 ≤ a → a < 57344 → uZ (l.drop 4) = -1 → escR (117 :: l) = ([], 0)) ∧
    (∀ a b : Nat, fourZ l = (a : Int) → 55296 ≤ a → a < 57344 → uZ (l.drop 4) = (b : Int) → (b < 56320 ∨ 57344 ≤ b) → escR (117 :: l) = ([], 0)) ∧
    (∀ a b : Nat, fourZ l = (a : Int) → 55296 ≤ a → a < 56320 → uZ (l.drop 4) = (b : Int) → 56320 ≤ b → b < 57344 → escR (117 :: l) = (Lib.encodeRune ((65536 + (a - 55296) * 1024 + (b - 56320) : Nat) : Int), 11)) := by
  rw [← uZ_four, escR_num _ _ escL_u]
  have hd : (92 :: 117 :: l).drop 6 = l.drop 4 := rfl
  unfold uZ Qm.numL
  rw [hd]
  cases h : Qm.unitL (92 :: 117 :: l) with
  | none =>
    refine ⟨fun _ => rfl, ?_, ?_, ?_, ?_, ?_⟩ <;> (intro a; intros; exfalso; dsimp only at *; omega)
  | some x =>
    dsimp only
    refine ⟨fun g => by omega, ?_, ?_, ?_, ?_, ?_⟩
    · intro a ha g
      obtain rfl : x = a := by omega
      rw [if_pos g]
    · intro a ha g1 g2
      obtain rfl : x = a := by omega
      rw [if_neg (by omega)]
      cases Qm.unitL (l.drop 4) with
      | none => rfl
      | some y => dsimp only; rw [if_neg (by omega)]
    · intro a ha g1 g2 g3
      obtain rfl : x = a := by omega
      rw [if_neg (by omega)]
      cases hy : Qm.unitL (l.drop 4) with
      | none => rfl
      | some y => rw [hy] at g3; dsimp only at g3; omega
    · intro a b ha g1 g2 g3 g4
      obtain rfl : x = a := by omega
      rw [if_neg (by omega)]
      cases hy : Qm.unitL (l.drop 4) with
      | none => rfl
      | some y => rw [hy] at g3; dsimp only at g3 ⊢; rw [if_neg (by omega)]
    · intro a b ha g1 g2 g3 g4 g5
      obtain rfl : x = a := by omega
      rw [if_neg (by omega)]
      cases hy : Qm.unitL (l.drop 4) with
      | none => rw [hy] at g3; dsimp only at g3; omega
      | some y =>
        rw [hy] at g3; dsimp only at g3 ⊢
        obtain rfl : y = b := by omega
        rw [if_pos (by omega)]
theorem fourZ_bound (l : List UInt8) : fourZ l = -1 ∨ ∃ b : Nat, fourZ l = (b : Int) ∧ b < 65536 := by
  rw [← uZ_four]
  exact uZ_bound _
theorem drop_cons_at (s : ByteArray) (p : Nat) (h : p < s.size) : s.data.toList.drop p = s[p]'h :: s.data.toList.drop (p + 1) := by
  have h2 : p < s.data.toList.length := by rw [← Lib.size_eq]; exact h
  rw [List.drop_eq_getElem_cons h2, list_atR s p h h2]
theorem pair_in {t : ByteArray} {l : List UInt8} {n m : Nat} (h : (l, m) = (t.data.toList, n)) : t = ⟨l.toArray⟩ ∧ n = m := by
  obtain ⟨h1, h2⟩ := Prod.mk.inj h
  refine ⟨bytes_eqR (by rw [← h1]), h2.symm⟩
theorem pair_enc {t : ByteArray} {l : List UInt8} {n m : Nat} (h : (l, m) = (t.data.toList, n)) : l = t.data.toList ∧ n = m := by
  obtain ⟨h1, h2⟩ := Prod.mk.inj h
  exact ⟨h1, h2.symm⟩

set_option maxHeartbeats 4000000 in
set_option maxRecDepth 1000000 in
theorem ref_escape (s : ByteArray) (p : Nat) (hs : s.size ≤ 1000000) (hp : p ≤ s.size) (t : ByteArray) (n : Nat) (h : escR (s.data.toList.drop p) = (t.data.toList, n)) (w : World) :
    Calls Tryd.prog 105 #[.string s, .int .i64 (p : Int)] w fun e w' => e = .returned (.tuple #[.string t, .int .i64 (n : Int)]) ∧ Below w.heap.size w w' := by
  by_cases hlt : p < s.size
  case neg =>
    rw [List.drop_eq_nil_of_le (by rw [← Lib.size_eq]; omega), escR_nil] at h
    obtain ⟨rfl, rfl⟩ := pair_in h
    have e1 : s.size ≤ p := by omega
    clear h hs hp hlt
    go_enter Tryd.func105, Tryd.ntmps105
    go_wp2
    go_ret2
    exact ⟨rfl, Below.refl _ _⟩
  rw [drop_cons_at s p hlt] at h
  by_cases c34 : (s[p]'hlt).toNat = 34
  · have hc := byte_is c34
    have hes : Qm.escL (s[p]'hlt).toNat = some 34 := by rw [c34]; decide
    rw [escR_lit _ _ _ hes, Qm.enc_low 34 (by decide)] at h
    obtain ⟨ht, rfl⟩ := pair_enc h
    obtain ⟨q, hq⟩ : ∃ q, p + 1 = q := ⟨_, rfl⟩
    have hx : s.extract p q = t := by
      apply bytes_eqR
      rw [Lib.extract_data, ← hq, Nat.add_sub_cancel_left, drop_cons_at s p hlt, List.take_succ_cons, List.take_zero, ← ht, hc]
    have w1 : IntKind.i64.wrap ((p : Int) + 1) = (q : Int) := by rw [IntKind.wrap_i64]; omega
    have l1 : p ≤ q := by omega
    have l2 : q ≤ s.size := by omega
    have e1 : (((s[p]'hlt).toNat : Nat) : Int) = 34 := by omega
    clear h hs hp hq ht hes hc c34
    go_enter Tryd.func105, Tryd.ntmps105
    go_wp2
    go_ret2
    exact ⟨rfl, Below.refl _ _⟩
  by_cases c92 : (s[p]'hlt).toNat = 92
  · have hc := byte_is c92
    have hes : Qm.escL (s[p]'hlt).toNat = some 92 := by rw [c92]; decide
    rw [escR_lit _ _ _ hes, Qm.enc_low 92 (by decide)] at h
    obtain ⟨ht, rfl⟩ := pair_enc h
    obtain ⟨q, hq⟩ : ∃ q, p + 1 = q := ⟨_, rfl⟩
    have hx : s.extract p q = t := by
      apply bytes_eqR
      rw [Lib.extract_data, ← hq, Nat.add_sub_cancel_left, drop_cons_at s p hlt, List.take_succ_cons, List.take_zero, ← ht, hc]
    have w1 : IntKind.i64.wrap ((p : Int) + 1) = (q : Int) := by rw [IntKind.wrap_i64]; omega
    have l1 : p ≤ q := by omega
    have l2 : q ≤ s.size := by omega
    have e1 : (((s[p]'hlt).toNat : Nat) : Int) = 92 := by omega
    clear h hs hp hq ht hes hc c92
    have d34 : (((s[p]'hlt).toNat : Int) == 34) = false := beq_eq_false_iff_ne.2 (by omega)
    go_enter Tryd.func105, Tryd.ntmps105
    go_wp2
    go_ret2
    exact ⟨rfl, Below.refl _ _⟩
  by_cases c47 : (s[p]'hlt).toNat = 47
  · have hc := byte_is c47
    have hes : Qm.escL (s[p]'hlt).toNat = some 47 := by rw [c47]; decide
    rw [escR_lit _ _ _ hes, Qm.enc_low 47 (by decide)] at h
    obtain ⟨ht, rfl⟩ := pair_enc h
    obtain ⟨q, hq⟩ : ∃ q, p + 1 = q := ⟨_, rfl⟩
    have hx : s.extract p q = t := by
      apply bytes_eqR
      rw [Lib.extract_data, ← hq, Nat.add_sub_cancel_left, drop_cons_at s p hlt, List.take_succ_cons, List.take_zero, ← ht, hc]
    have w1 : IntKind.i64.wrap ((p : Int) + 1) = (q : Int) := by rw [IntKind.wrap_i64]; omega
    have l1 : p ≤ q := by omega
    have l2 : q ≤ s.size := by omega
    have e1 : (((s[p]'hlt).toNat : Nat) : Int) = 47 := by omega
    clear h hs hp hq ht hes hc c47
    have d34 : (((s[p]'hlt).toNat : Int) == 34) = false := beq_eq_false_iff_ne.2 (by omega)
    have d92 : (((s[p]'hlt).toNat : Int) == 92) = false := beq_eq_false_iff_ne.2 (by omega)
    go_enter Tryd.func105, Tryd.ntmps105
    go_wp2
    go_ret2
    exact ⟨rfl, Below.refl _ _⟩
  by_cases c98 : (s[p]'hlt).toNat = 98
  · have hes : Qm.escL (s[p]'hlt).toNat = some 8 := by rw [c98]; decide
    rw [escR_lit _ _ _ hes, Qm.enc_low 8 (by decide)] at h
    obtain ⟨rfl, rfl⟩ := pair_in h
    have e1 : (((s[p]'hlt).toNat : Nat) : Int) = 98 := by omega
    have d34 : (((s[p]'hlt).toNat : Int) == 34) = false := beq_eq_false_iff_ne.2 (by omega)
    have d92 : (((s[p]'hlt).toNat : Int) == 92) = false := beq_eq_false_iff_ne.2 (by omega)
    have d47 : (((s[p]'hlt).toNat : Int) == 47) = false := beq_eq_false_iff_ne.2 (by omega)
    clear h hs hp hes c98
    go_enter Tryd.func105, Tryd.ntmps105
    go_wp2
    go_ret2
    exact ⟨rfl, Below.refl _ _⟩
  by_cases c102 : (s[p]'hlt).toNat = 102
  · have hes : Qm.escL (s[p]'hlt).toNat = some 12 := by rw [c102]; decide
    rw [escR_lit _ _ _ hes, Qm.enc_low 12 (by decide)] at h
    obtain ⟨rfl, rfl⟩ := pair_in h
    have e1 : (((s[p]'hlt).toNat : Nat) : Int) = 102 := by omega
    have d34 : (((s[p]'hlt).toNat : Int) == 34) = false := beq_eq_false_iff_ne.2 (by omega)
    have d92 : (((s[p]'hlt).toNat : Int) == 92) = false := beq_eq_false_iff_ne.2 (by omega)
    have d47 : (((s[p]'hlt).toNat : Int) == 47) = false := beq_eq_false_iff_ne.2 (by omega)
    have d98 : (((s[p]'hlt).toNat : Int) == 98) = false := beq_eq_false_iff_ne.2 (by omega)
    clear h hs hp hes c102
    go_enter Tryd.func105, Tryd.ntmps105
    go_wp2
    go_ret2
    exact ⟨rfl, Below.refl _ _⟩
  by_cases c110 : (s[p]'hlt).toNat = 110
  · have hes : Qm.escL (s[p]'hlt).toNat = some 10 := by rw [c110]; decide
    rw [escR_lit _ _ _ hes, Qm.enc_low 10 (by decide)] at h
    obtain ⟨rfl, rfl⟩ := pair_in h
    have e1 : (((s[p]'hlt).toNat : Nat) : Int) = 110 := by omega
    have d34 : (((s[p]'hlt).toNat : Int) == 34) = false := beq_eq_false_iff_ne.2 (by omega)
    have d92 : (((s[p]'hlt).toNat : Int) == 92) = false := beq_eq_false_iff_ne.2 (by omega)
    have d47 : (((s[p]'hlt).toNat : Int) == 47) = false := beq_eq_false_iff_ne.2 (by omega)
    have d98 : (((s[p]'hlt).toNat : Int) == 98) = false := beq_eq_false_iff_ne.2 (by omega)
    have d102 : (((s[p]'hlt).toNat : Int) == 102) = false := beq_eq_false_iff_ne.2 (by omega)
    clear h hs hp hes c110
    go_enter Tryd.func105, Tryd.ntmps105
    go_wp2
    go_ret2
    exact ⟨rfl, Below.refl _ _⟩
  by_cases c114 : (s[p]'hlt).toNat = 114
  · have hes : Qm.escL (s[p]'hlt).toNat = some 13 := by rw [c114]; decide
    rw [escR_lit _ _ _ hes, Qm.enc_low 13 (by decide)] at h
    obtain ⟨rfl, rfl⟩ := pair_in h
    have e1 : (((s[p]'hlt).toNat : Nat) : Int) = 114 := by omega
    have d34 : (((s[p]'hlt).toNat : Int) == 34) = false := beq_eq_false_iff_ne.2 (by omega)
    have d92 : (((s[p]'hlt).toNat : Int) == 92) = false := beq_eq_false_iff_ne.2 (by omega)
    have d47 : (((s[p]'hlt).toNat : Int) == 47) = false := beq_eq_false_iff_ne.2 (by omega)
    have d98 : (((s[p]'hlt).toNat : Int) == 98) = false := beq_eq_false_iff_ne.2 (by omega)
    have d102 : (((s[p]'hlt).toNat : Int) == 102) = false := beq_eq_false_iff_ne.2 (by omega)
    have d110 : (((s[p]'hlt).toNat : Int) == 110) = false := beq_eq_false_iff_ne.2 (by omega)
    clear h hs hp hes c114
    go_enter Tryd.func105, Tryd.ntmps105
    go_wp2
    go_ret2
    exact ⟨rfl, Below.refl _ _⟩
  by_cases c116 : (s[p]'hlt).toNat = 116
  · have hes : Qm.escL (s[p]'hlt).toNat = some 9 := by rw [c116]; decide
    rw [escR_lit _ _ _ hes, Qm.enc_low 9 (by decide)] at h
    obtain ⟨rfl, rfl⟩ := pair_in h
    have e1 : (((s[p]'hlt).toNat : Nat) : Int) = 116 := by omega
    have d34 : (((s[p]'hlt).toNat : Int) == 34) = false := beq_eq_false_iff_ne.2 (by omega)
    have d92 : (((s[p]'hlt).toNat : Int) == 92) = false := beq_eq_false_iff_ne.2 (by omega)
    have d47 : (((s[p]'hlt).toNat : Int) == 47) = false := beq_eq_false_iff_ne.2 (by omega)
    have d98 : (((s[p]'hlt).toNat : Int) == 98) = false := beq_eq_false_iff_ne.2 (by omega)
    have d102 : (((s[p]'hlt).toNat : Int) == 102) = false := beq_eq_false_iff_ne.2 (by omega)
    have d110 : (((s[p]'hlt).toNat : Int) == 110) = false := beq_eq_false_iff_ne.2 (by omega)
    have d114 : (((s[p]'hlt).toNat : Int) == 114) = false := beq_eq_false_iff_ne.2 (by omega)
    clear h hs hp hes c116
    go_enter Tryd.func105, Tryd.ntmps105
    go_wp2
    go_ret2
    exact ⟨rfl, Below.refl _ _⟩
  have d34 : (((s[p]'hlt).toNat : Int) == 34) = false := beq_eq_false_iff_ne.2 (by omega)
  have d92 : (((s[p]'hlt).toNat : Int) == 92) = false := beq_eq_false_iff_ne.2 (by omega)
  have d47 : (((s[p]'hlt).toNat : Int) == 47) = false := beq_eq_false_iff_ne.2 (by omega)
  have d98 : (((s[p]'hlt).toNat : Int) == 98) = false := beq_eq_false_iff_ne.2 (by omega)
  have d102 : (((s[p]'hlt).toNat : Int) == 102) = false := beq_eq_false_iff_ne.2 (by omega)
  have d110 : (((s[p]'hlt).toNat : Int) == 110) = false := beq_eq_false_iff_ne.2 (by omega)
  have d114 : (((s[p]'hlt).toNat : Int) == 114) = false := beq_eq_false_iff_ne.2 (by omega)
  have d116 : (((s[p]'hlt).toNat : Int) == 116) = false := beq_eq_false_iff_ne.2 (by omega)
  have hes : Qm.escL (s[p]'hlt).toNat = none := by unfold Qm.escL; rw [if_neg (by omega), if_neg (by omega), if_neg (by omega), if_neg (by omega), if_neg (by omega), if_neg (by omega)]
  clear c34 c92 c47 c98 c102 c110 c114 c116
  by_cases c117 : (s[p]'hlt).toNat = 117
  case neg =>
    rw [escR_other _ _ hes c117] at h
    obtain ⟨rfl, rfl⟩ := pair_in h
    have d117 : (((s[p]'hlt).toNat : Int) == 117) = false := beq_eq_false_iff_ne.2 (by omega)
    clear h hs hp hes c117
    go_enter Tryd.func105, Tryd.ntmps105
    go_wp2
    go_ret2
    exact ⟨rfl, Below.refl _ _⟩
  rw [byte_is c117] at h
  obtain ⟨q, hq⟩ : ∃ q, p + 1 = q := ⟨_, rfl⟩
  have d117 : (((s[p]'hlt).toNat : Nat) : Int) = 117 := by omega
  have w1 : IntKind.i64.wrap ((p : Int) + 1) = (q : Int) := by rw [IntKind.wrap_i64]; omega
  rw [hq] at h
  obtain ⟨E1, E2, E3, E4, E5, E6⟩ := escR_u (s.data.toList.drop q)
  have hdd : (s.data.toList.drop q).drop 4 = s.data.toList.drop (p + 5) := by rw [List.drop_drop, ← hq]
  rw [hdd] at E4 E5 E6
  change escR (117 :: s.data.toList.drop q) = _ at h
  clear d34 d92 d47 d98 d102 d110 d114 d116 hes
  have C1 := fun x hx => ref_four s q hs (by omega) x hx
  rcases fourZ_bound (s.data.toList.drop q) with hx | ⟨a, hx, ha9⟩
  · rw [E1 hx] at h
    obtain ⟨rfl, rfl⟩ := pair_in h
    replace C1 := C1 _ hx
    clear h hs hp hq c117 E1 E2 E3 E4 E5 E6 hdd hx
    go_enter Tryd.func105, Tryd.ntmps105
    go_wp2_with fail
    refine (C1 _).mono ?_
    rintro e W ⟨rfl, rfl⟩
    go_wp2
    go_ret2
    exact ⟨rfl, Below.refl _ _⟩
  replace C1 := C1 _ hx
  have t0 : decide ((a : Int) < 0) = false := decide_eq_false (by omega)
  by_cases a1 : a < 55296
  · rw [E2 a hx (.inl a1)] at h
    obtain ⟨ht, rfl⟩ := pair_enc h
    have t1 : decide ((56320 : Int) ≤ (a : Int)) = false := decide_eq_false (by omega)
    have t2 : decide ((a : Int) < 55296) = true := decide_eq_true (by omega)
    have C2 := fun W => ref_write a ⟨by omega, by omega⟩ t ht W
    clear h hs hp hq c117 E1 E2 E3 E4 E5 E6 hdd hx a1 ht
    go_enter Tryd.func105, Tryd.ntmps105
    go_wp2_with fail
    refine (C1 _).mono ?_
    rintro e W ⟨rfl, rfl⟩
    go_wp2_with fail
    refine (C2 _).mono ?_
    rintro e W1 ⟨rfl, hB⟩
    go_wp2
    go_ret2
    exact ⟨rfl, hB⟩
  by_cases a2 : 57344 ≤ a
  · rw [E2 a hx (.inr a2)] at h
    obtain ⟨ht, rfl⟩ := pair_enc h
    have t1 : decide ((56320 : Int) ≤ (a : Int)) = true := decide_eq_true (by omega)
    have t2 : decide ((a : Int) < 57344) = false := decide_eq_false (by omega)
    have t3 : decide ((a : Int) < 55296) = false := decide_eq_false (by omega)
    have t4 : decide ((57344 : Int) ≤ (a : Int)) = true := decide_eq_true (by omega)
    have C2 := fun W => ref_write a ⟨by omega, by omega⟩ t ht W
    clear h hs hp hq c117 E1 E2 E3 E4 E5 E6 hdd hx a1 a2 ht
    go_enter Tryd.func105, Tryd.ntmps105
    go_wp2_with fail
    refine (C1 _).mono ?_
    rintro e W ⟨rfl, rfl⟩
    go_wp2_with fail
    refine (C2 _).mono ?_
    rintro e W1 ⟨rfl, hB⟩
    go_wp2
    go_ret2
    exact ⟨rfl, hB⟩
  by_cases a3 : 56320 ≤ a
  · rw [E3 a hx a3 (by omega)] at h
    obtain ⟨rfl, rfl⟩ := pair_in h
    have t1 : decide ((56320 : Int) ≤ (a : Int)) = true := decide_eq_true (by omega)
    have t2 : decide ((a : Int) < 57344) = true := decide_eq_true (by omega)
    clear h hs hp hq c117 E1 E2 E3 E4 E5 E6 hdd hx a1 a2 a3
    go_enter Tryd.func105, Tryd.ntmps105
    go_wp2_with fail
    refine (C1 _).mono ?_
    rintro e W ⟨rfl, rfl⟩
    go_wp2
    go_ret2
    exact ⟨rfl, Below.refl _ _⟩
  have t1 : decide ((56320 : Int) ≤ (a : Int)) = false := decide_eq_false (by omega)
  have t3 : decide ((a : Int) < 55296) = false := decide_eq_false (by omega)
  have t4 : decide ((57344 : Int) ≤ (a : Int)) = false := decide_eq_false (by omega)
  obtain ⟨q5, hq5⟩ : ∃ q5, p + 5 = q5 := ⟨_, rfl⟩
  obtain ⟨q6, hq6⟩ : ∃ q6, p + 6 = q6 := ⟨_, rfl⟩
  obtain ⟨q7, hq7⟩ : ∃ q7, p + 7 = q7 := ⟨_, rfl⟩
  have w5 : IntKind.i64.wrap ((p : Int) + 5) = (q5 : Int) := by rw [IntKind.wrap_i64]; omega
  have w6 : IntKind.i64.wrap ((p : Int) + 6) = (q6 : Int) := by rw [IntKind.wrap_i64]; omega
  have w7 : IntKind.i64.wrap ((p : Int) + 7) = (q7 : Int) := by rw [IntKind.wrap_i64]; omega
  rw [hq5] at E4 E5 E6
  have hl5 : (s.data.toList.drop q5).length = s.size - q5 := by rw [List.length_drop, ← Lib.size_eq]
  by_cases b1 : q7 ≤ s.size
  case neg =>
    rw [E4 a hx (by omega) (by omega) (uZ_short _ (by omega))] at h
    obtain ⟨rfl, rfl⟩ := pair_in h
    have b2 : s.size < q7 := by omega
    clear h hs hp hq c117 E1 E2 E3 E4 E5 E6 hdd hx a1 a2 a3 hq5 hq6 hq7 hl5 b1
    go_enter Tryd.func105, Tryd.ntmps105
    go_wp2_with fail
    refine (C1 _).mono ?_
    rintro e W ⟨rfl, rfl⟩
    go_wp2
    go_ret2
    exact ⟨rfl, Below.refl _ _⟩
  have i5 : q5 < s.size := by omega
  have i6 : q6 < s.size := by omega
  have e5 := drop_cons_at s q5 i5
  have e6 := drop_cons_at s q6 i6
  rw [show q5 + 1 = q6 by omega] at e5
  rw [show q6 + 1 = q7 by omega] at e6
  by_cases b5 : (s[q5]'i5).toNat = 92
  case neg =>
    rw [E4 a hx (by omega) (by omega) (uZ_no _ (by rintro ⟨g, _⟩; rw [e5] at g; simp at g; rw [g] at b5; exact b5 rfl))] at h
    obtain ⟨rfl, rfl⟩ := pair_in h
    have f5 : (((s[q5]'i5).toNat : Int) == 92) = false := beq_eq_false_iff_ne.2 (by omega)
    clear h hs hp hq c117 E1 E2 E3 E4 E5 E6 hdd hx a1 a2 a3 hq5 hq6 hq7 hl5 b5 e5 e6
    go_enter Tryd.func105, Tryd.ntmps105
    go_wp2_with fail
    refine (C1 _).mono ?_
    rintro e W ⟨rfl, rfl⟩
    go_wp2
    go_ret2
    exact ⟨rfl, Below.refl _ _⟩
  have f5 : ((s[q5]'i5).toNat : Int) = 92 := by omega
  by_cases b6 : (s[q6]'i6).toNat = 117
  case neg =>
    rw [E4 a hx (by omega) (by omega) (uZ_no _ (by rintro ⟨_, g⟩; rw [e5, e6] at g; simp at g; rw [g] at b6; exact b6 rfl))] at h
    obtain ⟨rfl, rfl⟩ := pair_in h
    have f6 : (((s[q6]'i6).toNat : Int) == 117) = false := beq_eq_false_iff_ne.2 (by omega)
    clear h hs hp hq c117 E1 E2 E3 E4 E5 E6 hdd hx a1 a2 a3 hq5 hq6 hq7 hl5 b5 b6 e5 e6
    go_enter Tryd.func105, Tryd.ntmps105
    go_wp2_with fail
    refine (C1 _).mono ?_
    rintro e W ⟨rfl, rfl⟩
    go_wp2
    go_ret2
    exact ⟨rfl, Below.refl _ _⟩
  have f6 : ((s[q6]'i6).toNat : Int) = 117 := by omega
  have hu : uZ (s.data.toList.drop q5) = fourZ (s.data.toList.drop q7) := by
    rw [e5, e6, byte_is b5, byte_is b6]
    exact uZ_four _
  rw [hu] at E4 E5 E6
  have C3 := fun x hx => ref_four s q7 hs (by omega) x hx
  rcases fourZ_bound (s.data.toList.drop q7) with hy | ⟨b, hy, hb9⟩
  · rw [E4 a hx (by omega) (by omega) hy] at h
    obtain ⟨rfl, rfl⟩ := pair_in h
    replace C3 := C3 _ hy
    clear h hs hp hq c117 E1 E2 E3 E4 E5 E6 hdd hx a1 a2 a3 hq5 hq6 hq7 hl5 b5 b6 e5 e6 hu hy
    go_enter Tryd.func105, Tryd.ntmps105
    go_wp2_with fail
    refine (C1 _).mono ?_
    rintro e W ⟨rfl, rfl⟩
    go_wp2_with fail
    refine (C3 _).mono ?_
    rintro e W1 ⟨rfl, rfl⟩
    go_wp2
    go_ret2
    exact ⟨rfl, Below.refl _ _⟩
  replace C3 := C3 _ hy
  by_cases y1 : b < 56320
  · rw [E5 a b hx (by omega) (by omega) hy (.inl y1)] at h
    obtain ⟨rfl, rfl⟩ := pair_in h
    have u1 : decide ((b : Int) < 56320) = true := decide_eq_true (by omega)
    clear h hs hp hq c117 E1 E2 E3 E4 E5 E6 hdd hx a1 a2 a3 hq5 hq6 hq7 hl5 b5 b6 e5 e6 hu hy y1
    go_enter Tryd.func105, Tryd.ntmps105
    go_wp2_with fail
    refine (C1 _).mono ?_
    rintro e W ⟨rfl, rfl⟩
    go_wp2_with fail
    refine (C3 _).mono ?_
    rintro e W1 ⟨rfl, rfl⟩
    go_wp2
    go_ret2
    exact ⟨rfl, Below.refl _ _⟩
  have u1 : decide ((b : Int) < 56320) = false := decide_eq_false (by omega)
  by_cases y2 : 57344 ≤ b
  · rw [E5 a b hx (by omega) (by omega) hy (.inr y2)] at h
    obtain ⟨rfl, rfl⟩ := pair_in h
    have u2 : decide ((57344 : Int) ≤ (b : Int)) = true := decide_eq_true (by omega)
    clear h hs hp hq c117 E1 E2 E3 E4 E5 E6 hdd hx a1 a2 a3 hq5 hq6 hq7 hl5 b5 b6 e5 e6 hu hy y1 y2
    go_enter Tryd.func105, Tryd.ntmps105
    go_wp2_with fail
    refine (C1 _).mono ?_
    rintro e W ⟨rfl, rfl⟩
    go_wp2_with fail
    refine (C3 _).mono ?_
    rintro e W1 ⟨rfl, rfl⟩
    go_wp2
    go_ret2
    exact ⟨rfl, Below.refl _ _⟩
  have u2 : decide ((57344 : Int) ≤ (b : Int)) = false := decide_eq_false (by omega)
  rw [E6 a b hx (by omega) (by omega) hy (by omega) (by omega)] at h
  obtain ⟨ht, rfl⟩ := pair_enc h
  obtain ⟨r, hr⟩ : ∃ r, 65536 + (a - 55296) * 1024 + (b - 56320) = r := ⟨_, rfl⟩
  rw [hr] at ht
  obtain ⟨g1, hg1⟩ : ∃ g1, a - 55296 = g1 := ⟨_, rfl⟩
  obtain ⟨g2, hg2⟩ : ∃ g2, 1024 * g1 = g2 := ⟨_, rfl⟩
  obtain ⟨g3, hg3⟩ : ∃ g3, 65536 + g2 = g3 := ⟨_, rfl⟩
  obtain ⟨g4, hg4⟩ : ∃ g4, g3 + b = g4 := ⟨_, rfl⟩
  have v1 : IntKind.i64.wrap ((a : Int) - 55296) = (g1 : Int) := by rw [IntKind.wrap_i64]; omega
  have v2 : IntKind.i64.wrap (1024 * (g1 : Int)) = (g2 : Int) := by rw [IntKind.wrap_i64]; omega
  have v3 : IntKind.i64.wrap (65536 + (g2 : Int)) = (g3 : Int) := by rw [IntKind.wrap_i64]; omega
  have v4 : IntKind.i64.wrap ((g3 : Int) + (b : Int)) = (g4 : Int) := by rw [IntKind.wrap_i64]; omega
  have v5 : IntKind.i64.wrap ((g4 : Int) - 56320) = (r : Int) := by rw [IntKind.wrap_i64]; omega
  have C2 := fun W => ref_write r ⟨by omega, by omega⟩ t ht W
  clear h hs hp hq c117 E1 E2 E3 E4 E5 E6 hdd hx a1 a2 a3 hq5 hq6 hq7 hl5 b5 b6 e5 e6 hu hy y1 y2 ht hr hg1 hg2 hg3 hg4
  go_enter Tryd.func105, Tryd.ntmps105
  go_wp2_with fail
  refine (C1 _).mono ?_
  rintro e W ⟨rfl, rfl⟩
  go_wp2_with fail
  refine (C3 _).mono ?_
  rintro e W1 ⟨rfl, rfl⟩
  go_wp2_with fail
  refine (C2 _).mono ?_
  rintro e W2 ⟨rfl, hB⟩
  go_wp2
  go_ret2
  exact ⟨rfl, hB⟩
end Go.Proofs.YtppkknmgdahniaaDoor.Nq
/- What is proved here: what the document's own Unquote answers, and the law QuoteReads, walked; conditions: the tables of unicode/utf8 lie in the world. -/
namespace Go.Proofs.YtppkknmgdahniaaDoor.Nq
set_option maxRecDepth 100000
open Go.RowKit
set_option linter.unusedVariables false
set_option linter.unusedSimpArgs false

/-- What Unquote tells, when so much is held and the rest is still to be read. -/
def endU (o : List UInt8) (m : Nat) (r : Option (List UInt8 × Nat)) : List UInt8 × Nat × Nat :=
  match r with
  | none => ([], 0, 6)
  | some (t, k) => if 4096 < (o ++ t).length then ([], 0, 3) else (o ++ t, m + k, 0)
theorem unquoteL_start (l : List UInt8) (h : l.getD 0 0 = 34) : Qm.unquoteL l = endU [] 1 (Qm.unq (l.drop 1)) := by
  unfold Qm.unquoteL endU
  rw [if_pos h]
  cases Qm.unq (l.drop 1) with
  | none => rfl
  | some p => dsimp only; rw [List.nil_append, Nat.add_comm]
theorem unquoteL_not (l : List UInt8) (h : l.getD 0 0 ≠ 34) : Qm.unquoteL l = ([], 0, 6) := by
  unfold Qm.unquoteL
  rw [if_neg h]
theorem unquoteL_nil : Qm.unquoteL [] = ([], 0, 6) := unquoteL_not [] (by simp)
theorem endU_step (o : List UInt8) (m : Nat) (l : List UInt8) (h : l.getD 0 0 ≠ 34) {r k : Nat} (hx : Qm.nextL l = some (r, k)) : endU o m (Qm.unq l) = endU (o ++ Lib.encodeRune (r : Int)) (m + k) (Qm.unq (l.drop k)) := by
  rw [Qm.unq_step l h hx]
  unfold endU
  cases Qm.unq (l.drop k) with
  | none => rfl
  | some p => dsimp only; rw [List.append_assoc, Nat.add_assoc]
theorem endU_none (o : List UInt8) (m : Nat) (l : List UInt8) (h : l.getD 0 0 ≠ 34) (hx : Qm.nextL l = none) : endU o m (Qm.unq l) = ([], 0, 6) := by
  rw [Qm.unq_none l h hx]
  rfl
theorem endU_quote (o : List UInt8) (m : Nat) (l : List UInt8) (h : l.getD 0 0 = 34) : endU o m (Qm.unq l) = if 4096 < o.length then ([], 0, 3) else (o, m + 1, 0) := by
  rw [Qm.unq_end l h]
  unfold endU
  dsimp only
  rw [List.append_nil]
theorem endU_nil (o : List UInt8) (m : Nat) : endU o m (Qm.unq []) = ([], 0, 6) := rfl
theorem head_at (s : ByteArray) (p : Nat) (h : p < s.size) : (s.data.toList.drop p).getD 0 0 = s[p]'h := by
  rw [drop_cons_at s p h]
  rfl
theorem tri_in {u : ByteArray} {l : List UInt8} {n m e f : Nat} (h : (l, m, e) = (u.data.toList, n, f)) : l = u.data.toList ∧ n = m ∧ f = e := by
  obtain ⟨h1, h2⟩ := Prod.mk.inj h
  obtain ⟨h3, h4⟩ := Prod.mk.inj h2
  exact ⟨h1, h3.symm, h4.symm⟩
theorem nextL_rune (l : List UInt8) (hne : l ≠ []) (h : l.getD 0 0 ≠ 92) : Qm.nextL l = if (Qm.runeV l).2 = 0 ∨ (Qm.runeV l).1 < 32 then none else some (Qm.runeV l) := by
  unfold Qm.nextL
  rw [if_neg hne, if_neg h]
  have hw := Lib.decodeL_width l
  rcases Qm.runeV_width l with ⟨h1, h2, h3, h4⟩ | ⟨h1, h2, h3⟩
  · have g : (Lib.decodeL l).1 = 65533 ∧ (Lib.decodeL l).2 = 1 := Classical.not_not.1 h2
    rw [if_pos (.inr ⟨g.1, by omega⟩), if_pos (.inl h1)]
  · rw [h3]
    unfold Qm.good at h2
    by_cases g : (Lib.decodeL l).1 < 32
    · rw [if_pos (.inl g), if_pos (.inr g)]
    · rw [if_neg (by omega), if_neg (by rw [h3] at h1; omega)]

theorem esc_two (l : List UInt8) {r k : Nat} (h : Qm.nextL l = some (r, k)) (hc : l.getD 0 0 = 92) : 2 ≤ k := by
  have hne : l ≠ [] := by intro e; rw [e] at h; cases h
  unfold Qm.nextL at h
  rw [if_neg hne, if_pos hc] at h
  by_cases g : l.length < 2
  · rw [if_pos g] at h; cases h
  rw [if_neg g] at h
  cases he : Qm.escL (l.getD 1 0).toNat with
  | some x => rw [he] at h; cases h; exact Nat.le_refl _
  | none =>
    rw [he] at h
    dsimp only at h
    unfold Qm.numL at h
    cases ha : Qm.unitL l with
    | none => rw [ha] at h; cases h
    | some a =>
      rw [ha] at h
      dsimp only at h
      by_cases g2 : a < 55296 ∨ 57344 ≤ a
      · rw [if_pos g2] at h; cases h; omega
      · rw [if_neg g2] at h
        cases hb : Qm.unitL (l.drop 6) with
        | none => rw [hb] at h; cases h
        | some b =>
          rw [hb] at h
          dsimp only at h
          by_cases g3 : a < 56320 ∧ 56320 ≤ b ∧ b < 57344
          · rw [if_pos g3] at h
            have e2 := congrArg Prod.snd (Option.some.inj h)
            dsimp only at e2
            omega
          · rw [if_neg g3] at h; cases h
theorem below_two {w W W' : World} (hB : Below w.heap.size w W) (b2 : Below W.heap.size W W') : Below w.heap.size w W' := hB.trans (b2.mono hB.size)

set_option maxHeartbeats 4000000 in
set_option maxRecDepth 1000000 in
theorem ref_unquote (s : ByteArray) (hs : s.size ≤ 1000000) (u : ByteArray) (n e : Nat) (hu : Qm.unquoteL s.data.toList = (u.data.toList, n, e)) (w : World) :
    Calls Tryd.prog 94 #[.string s] w fun r w' => r = .returned (.tuple #[.string u, .int .i64 (n : Int), .int .i64 (e : Int)]) ∧ Below w.heap.size w w' := by
  by_cases h0 : 0 < s.size
  case neg =>
    have hnil : s.data.toList = [] := List.eq_nil_of_length_eq_zero (by rw [← Lib.size_eq]; omega)
    rw [hnil, unquoteL_nil] at hu
    clear hnil
    obtain ⟨g, rfl, rfl⟩ := tri_in hu
    obtain rfl : u = ⟨#[]⟩ := bytes_eqR g.symm
    have e1 : ((s.size : Int) == 0) = true := beq_iff_eq.2 (by omega)
    clear hu g h0 hs
    go_enter Tryd.func94, Tryd.ntmps94
    go_wp2
    go_ret3
    exact ⟨rfl, Below.refl _ _⟩
  have e1 : ((s.size : Int) == 0) = false := beq_eq_false_iff_ne.2 (by omega)
  have hd0 := head_at s 0 h0
  rw [List.drop_zero] at hd0
  by_cases c0 : (s[0]'h0).toNat = 34
  case neg =>
    rw [unquoteL_not _ (by rw [hd0]; intro g; rw [g] at c0; exact c0 rfl)] at hu
    obtain ⟨g, rfl, rfl⟩ := tri_in hu
    obtain rfl : u = ⟨#[]⟩ := bytes_eqR g.symm
    have e2 : (((s[0]'h0).toNat : Int) == 34) = false := beq_eq_false_iff_ne.2 (by omega)
    clear hu g hs hd0 c0
    go_enter Tryd.func94, Tryd.ntmps94
    go_wp2
    go_ret3
    exact ⟨rfl, Below.refl _ _⟩
  rw [unquoteL_start _ (by rw [hd0]; exact byte_is c0)] at hu
  have e2 : ((s[0]'h0).toNat : Int) = 34 := by omega
  have HU := rhide hu
  have HS := rhide hs
  clear hu hs hd0 c0
  go_enter Tryd.func94, Tryd.ntmps94
  go_wp2
  go_loopw [5, 6] (fun o a wr => ∃ (p : Nat) (q : ByteArray), o = .string q ∧ a = .int .i64 (p : Int) ∧ 1 ≤ p ∧ p ≤ s.size ∧ q.size ≤ 4 * p ∧ Below w.heap.size w wr ∧ endU q.data.toList p (Qm.unq (s.data.toList.drop p)) = (u.data.toList, n, e)) (fun _ a _ => s.size - (intOf a).toNat)
  case atStart => exact ⟨1, ⟨#[]⟩, rfl, rfl, by omega, by omega, by decide, Below.refl _ _, runhide HU⟩
  case round =>
    obtain ⟨p, q, rfl, rfl, hp1, hp, hqs, hB, hv⟩ := hrel
    clear HU
    by_cases hlt : p < s.size
    case neg =>
      rw [List.drop_eq_nil_of_le (by rw [← Lib.size_eq]; omega), endU_nil] at hv
      obtain ⟨g, rfl, rfl⟩ := tri_in hv
      obtain rfl : u = ⟨#[]⟩ := bytes_eqR g.symm
      clear hv g hp hp1 hqs
      go_wp2
      go_ret3
      exact ⟨rfl, hB⟩
    have hh := head_at s p hlt
    have hsp := drop_cons_at s p hlt
    by_cases c1 : (s[p]'hlt).toNat = 34
    · rw [endU_quote _ _ _ (by rw [hh]; exact byte_is c1)] at hv
      have t1 : ((s[p]'hlt).toNat : Int) = 34 := by omega
      by_cases g4 : 4096 < q.size
      · rw [if_pos (by rw [← Lib.size_eq]; exact g4)] at hv
        obtain ⟨g, rfl, rfl⟩ := tri_in hv
        obtain rfl : u = ⟨#[]⟩ := bytes_eqR g.symm
        have t2 : decide ((4096 : Int) < (q.size : Int)) = true := decide_eq_true (by omega)
        clear hv g hp hp1 hqs hh hsp c1 g4
        go_wp2
        go_ret3
        exact ⟨rfl, hB⟩
      · rw [if_neg (by rw [← Lib.size_eq]; exact g4)] at hv
        obtain ⟨g, rfl, rfl⟩ := tri_in hv
        obtain rfl : u = q := bytes_eqR g.symm
        have t2 : decide ((4096 : Int) < (u.size : Int)) = false := decide_eq_false (by omega)
        have w1 : IntKind.i64.wrap ((p : Int) + 1) = ((p + 1 : Nat) : Int) := by have := runhide HS; rw [IntKind.wrap_i64]; omega
        clear hv g hp hp1 hqs hh hsp c1 g4
        go_wp2
        go_ret3
        exact ⟨rfl, hB⟩
    have d1 : (((s[p]'hlt).toNat : Int) == 34) = false := beq_eq_false_iff_ne.2 (by omega)
    have hn34 : (s.data.toList.drop p).getD 0 0 ≠ 34 := by rw [hh]; intro g; rw [g] at c1; exact c1 rfl
    by_cases c2 : (s[p]'hlt).toNat = 92
    · have t1 : ((s[p]'hlt).toNat : Int) = 92 := by omega
      obtain ⟨p1, hp1'⟩ : ∃ p1, p + 1 = p1 := ⟨_, rfl⟩
      have w1 : IntKind.i64.wrap ((p : Int) + 1) = (p1 : Int) := by have := runhide HS; rw [IntKind.wrap_i64]; omega
      rw [hp1'] at hsp
      obtain ⟨t, ht⟩ : ∃ t : ByteArray, (escR (s.data.toList.drop p1)).1 = t.data.toList := ⟨⟨(escR (s.data.toList.drop p1)).1.toArray⟩, by simp⟩
      obtain ⟨k, hk⟩ : ∃ k, (escR (s.data.toList.drop p1)).2 = k := ⟨_, rfl⟩
      have he : escR (s.data.toList.drop p1) = (t.data.toList, k) := by rw [← ht, ← hk]
      have CE := fun W => ref_escape s p1 (runhide HS) (by omega) t k he W
      have hsp2 : s.data.toList.drop p = 92 :: s.data.toList.drop p1 := by rw [hsp, byte_is c2]; rfl
      cases hx : Qm.nextL (s.data.toList.drop p) with
      | none =>
        rw [endU_none _ _ _ hn34 hx] at hv
        obtain ⟨g, rfl, rfl⟩ := tri_in hv
        obtain rfl : u = ⟨#[]⟩ := bytes_eqR g.symm
        have hk0 : k = 0 := by rw [← hk]; unfold escR; rw [← hsp2, hx]
        subst hk0
        clear hv g hp hp1 hqs hh hsp c1 c2 hn34 ht hk he hsp2 hx hp1'
        go_wp2_with fail
        refine (CE _).mono ?_
        rintro e W ⟨rfl, b2⟩
        replace hB := below_two hB b2; clear b2
        go_wp2
        go_ret3
        exact ⟨rfl, hB⟩
      | some rk =>
        obtain ⟨r, m⟩ := rk
        obtain ⟨m1, m2, m3⟩ := Qm.next_ok hx
        rw [endU_step _ _ _ hn34 hx, List.drop_drop] at hv
        rw [List.length_drop, ← Lib.size_eq] at m2
        have hkm : k = m - 1 := by rw [← hk]; unfold escR; rw [← hsp2, hx]
        have htr : t.data.toList = Lib.encodeRune (r : Int) := by rw [← ht]; unfold escR; rw [← hsp2, hx]
        have hk1 : 1 ≤ k := by
          have : 2 ≤ m := esc_two _ hx (by rw [hh]; exact byte_is c2)
          omega
        have ht4 : t.size ≤ 4 := by rw [Lib.size_eq, htr]; exact (Qm.enc_len _).2
        obtain ⟨z, hz⟩ : ∃ z, q ++ t = z := ⟨_, rfl⟩
        obtain ⟨pm, hpm⟩ : ∃ pm, p + m = pm := ⟨_, rfl⟩
        have hzl : q.data.toList ++ Lib.encodeRune (r : Int) = z.data.toList := by rw [← hz, ByteArray.data_append, Array.toList_append, htr]
        rw [hzl, hpm] at hv
        have hzs : z.size ≤ 4 * pm := by rw [← hz, ByteArray.size_append]; omega
        have j1 : ¬ (9223372036854775807 < q.size + t.size) := by have := runhide HS; omega
        have w2 : IntKind.i64.wrap ((p1 : Int) + (k : Int)) = (pm : Int) := by have := runhide HS; rw [IntKind.wrap_i64]; omega
        have t3 : ((k : Int) == 0) = false := beq_eq_false_iff_ne.2 (by omega)
        have R : 1 ≤ pm ∧ pm ≤ s.size ∧ z.size ≤ 4 * pm ∧ s.size - pm < s.size - p := ⟨by omega, by omega, hzs, by omega⟩
        have HR := rhide R
        clear hp hp1 hqs hh hsp c1 c2 hn34 ht hk he hsp2 hx hp1' m1 m2 m3 hkm htr hk1 ht4 hpm hzl hzs R
        go_wp2_with fail
        refine (CE _).mono ?_
        rintro e W ⟨rfl, b2⟩
        replace hB := below_two hB b2; clear b2
        go_wp2
        go_roundw
        case rel => exact ⟨pm, z, rfl, rfl, (runhide HR).1, (runhide HR).2.1, (runhide HR).2.2.1, hB, hv⟩
        case measure => exact (runhide HR).2.2.2
    have d2 : (((s[p]'hlt).toNat : Int) == 92) = false := beq_eq_false_iff_ne.2 (by omega)
    obtain ⟨rx, rn, hr, hne, hd, hle, hvv⟩ := rune_at s p hlt
    have CR := fun W => ref_rune s p hlt (by have := runhide HS; omega) rx rn hr W
    have hx := nextL_rune _ hne (by rw [hh]; intro g; rw [g] at c2; exact c2 rfl)
    rw [hr] at hx
    dsimp only at hx
    by_cases g0 : rn = 0
    · subst g0
      rw [if_pos (.inl rfl)] at hx
      rw [endU_none _ _ _ hn34 hx] at hv
      obtain ⟨g, rfl, rfl⟩ := tri_in hv
      obtain rfl : u = ⟨#[]⟩ := bytes_eqR g.symm
      clear hv g hp hp1 hqs hh hsp c1 c2 hn34 hx hr hne hd hle hvv
      go_wp2_with fail
      refine (CR _).mono ?_
      rintro e W ⟨rfl, rfl⟩
      go_wp2
      go_ret3
      exact ⟨rfl, hB⟩
    have t4 : ((rn : Int) == 0) = false := beq_eq_false_iff_ne.2 (by omega)
    by_cases g1 : rx < 32
    · rw [if_pos (.inr g1)] at hx
      rw [endU_none _ _ _ hn34 hx] at hv
      obtain ⟨g, rfl, rfl⟩ := tri_in hv
      obtain rfl : u = ⟨#[]⟩ := bytes_eqR g.symm
      have t5 : decide ((rx : Int) < 32) = true := decide_eq_true (by omega)
      clear hv g hp hp1 hqs hh hsp c1 c2 hn34 hx hr hne hd hle hvv g0 g1
      go_wp2_with fail
      refine (CR _).mono ?_
      rintro e W ⟨rfl, rfl⟩
      go_wp2
      go_ret3
      exact ⟨rfl, hB⟩
    rw [if_neg (by omega)] at hx
    have t5 : decide ((rx : Int) < 32) = false := decide_eq_false (by omega)
    have hm : max rn 1 = rn := by omega
    rw [hm] at hd hle
    rw [endU_step _ _ _ hn34 hx, List.drop_drop] at hv
    have hgood : Qm.good (s.data.toList.drop p) := by
      rcases Qm.runeV_width (s.data.toList.drop p) with ⟨k1, _⟩ | ⟨_, k2, _⟩
      · rw [hr] at k1; exact absurd k1 g0
      · exact k2
    have hpc := Qm.piece _ hne hgood
    have hrd : (Lib.decodeL (s.data.toList.drop p)).1 = rx := by
      rcases Qm.runeV_width (s.data.toList.drop p) with ⟨k1, _⟩ | ⟨_, _, k3⟩
      · rw [hr] at k1; exact absurd k1 g0
      · rw [← k3, hr]
    rw [hrd, hd] at hpc
    obtain ⟨pm, hpm⟩ : ∃ pm, p + rn = pm := ⟨_, rfl⟩
    obtain ⟨t, ht⟩ : ∃ t, s.extract p pm = t := ⟨_, rfl⟩
    have htl : Lib.encodeRune (rx : Int) = t.data.toList := by rw [← ht, Lib.extract_data, ← hpm, Nat.add_sub_cancel_left, hpc]
    obtain ⟨z, hz⟩ : ∃ z, q ++ t = z := ⟨_, rfl⟩
    have hzl : q.data.toList ++ Lib.encodeRune (rx : Int) = z.data.toList := by rw [← hz, ByteArray.data_append, Array.toList_append, htl]
    have ht4 : t.size ≤ 4 := by rw [Lib.size_eq, ← htl]; exact (Qm.enc_len _).2
    rw [hzl, hpm] at hv
    rw [hpm] at hle
    have hzs : z.size ≤ 4 * pm := by rw [← hz, ByteArray.size_append]; omega
    have j1 : ¬ (9223372036854775807 < q.size + t.size) := by have := runhide HS; omega
    have w2 : IntKind.i64.wrap ((p : Int) + (rn : Int)) = (pm : Int) := by have := runhide HS; rw [IntKind.wrap_i64]; omega
    have l1 : p ≤ pm := by omega
    have R : 1 ≤ pm ∧ z.size ≤ 4 * pm ∧ s.size - pm < s.size - p := ⟨by omega, hzs, by omega⟩
    have HR := rhide R
    clear hp hp1 hqs hh hsp c1 c2 hn34 hx hr hne hd hvv g0 g1 hm hgood hpc hrd hpm htl hzl ht4 hzs R
    go_wp2_with fail
    refine (CR _).mono ?_
    rintro e W ⟨rfl, rfl⟩
    go_wp2
    go_roundw
    case rel => exact ⟨pm, z, rfl, rfl, (runhide HR).1, hle, (runhide HR).2.1, hB, hv⟩
    case measure => exact (runhide HR).2.2
end Go.Proofs.YtppkknmgdahniaaDoor.Nq
