/- What is proved here: what the document's own short and word answer, walked. What is proved here: what the document's own named answers, walked; condition: at most seven keys are asked for. -/
import Derived.Test.YtigpfbfkdccdaaaDoorKg
import Derived.Test.YtigpfbfkdccdaaaDoorQv
import Derived.Deep.LoopGhost
namespace Go.Proofs.YtigpfbfkdccdaaaDoor
open Go.RowKit
set_option linter.unusedVariables false
set_option linter.unusedSimpArgs false

/-- At most a hundred bytes. -/
def shortB (s : ByteArray) : ByteArray := if 100 < s.size then s.extract 0 100 else s
theorem shortB_size (s : ByteArray) : (shortB s).size ≤ 100 := by
  unfold shortB
  split
  · rw [ByteArray.size_extract]; omega
  · omega
def wordB (s : ByteArray) : ByteArray := if Lib.validD (shortB s).data.toList = true then shortB s else ⟨#[97]⟩
theorem wordB_size (s : ByteArray) : (wordB s).size ≤ 100 := by
  unfold wordB
  split
  · exact shortB_size s
  · decide
theorem wordB_valid (s : ByteArray) : Lib.validD (wordB s).data.toList = true := by
  unfold wordB
  split
  · assumption
  · decide
theorem short_any (s : ByteArray) (w : World) : Calls Tryd.prog 35 #[.string s] w fun e w' => e = .returned (.string (shortB s)) ∧ w' = w := by
  unfold shortB
  by_cases h : 100 < s.size
  · rw [if_pos h]
    have h1 : (100 : Int) < (s.size : Int) := by omega
    have h2 : (100 : Int) ≤ (s.size : Int) := by omega
    go_enter Tryd.func35, Tryd.ntmps35
    go_wp2
    go_ret
    exact ⟨rfl, rfl⟩
  · rw [if_neg h]
    have h1 : ¬ (100 : Int) < (s.size : Int) := by omega
    go_enter Tryd.func35, Tryd.ntmps35
    go_wp2
    go_ret
    exact ⟨rfl, rfl⟩
set_option maxHeartbeats 1000000 in
theorem word_any (s : ByteArray) (w : World) : Calls Tryd.prog 36 #[.string s] w fun e w' => e = .returned (.string (wordB s)) ∧ w' = w := by
  obtain ⟨t, ht⟩ : ∃ t, shortB s = t := ⟨_, rfl⟩
  have hs : t.size ≤ 100 := by rw [← ht]; exact shortB_size s
  have C1 : ∀ W, Calls Tryd.prog 35 #[.string s] W fun e w' => e = .returned (.string t) ∧ w' = W := fun W => by rw [← ht]; exact short_any s W
  obtain ⟨b, hb⟩ : ∃ b, Lib.validD t.data.toList = b := ⟨_, rfl⟩
  have C2 : ∀ W, Calls Tryd.prog 70 #[.string t] W fun e w' => e = .returned (.bool b) ∧ w' = W := fun W => ref_valid t (by omega) b hb W
  unfold wordB
  rw [ht, hb]
  clear ht hb hs
  cases b with
  | true =>
    rw [if_pos rfl]
    go_enter Tryd.func36, Tryd.ntmps36
    go_wp2_with fail
    refine (C1 _).mono ?_
    rintro e W ⟨rfl, rfl⟩
    go_wp2_with fail
    refine (C2 _).mono ?_
    rintro e W ⟨rfl, rfl⟩
    go_wp2_with fail
    go_ret
    exact ⟨rfl, rfl⟩
  | false =>
    rw [if_neg (by decide)]
    go_enter Tryd.func36, Tryd.ntmps36
    go_wp2_with fail
    refine (C1 _).mono ?_
    rintro e W ⟨rfl, rfl⟩
    go_wp2_with fail
    refine (C2 _).mono ?_
    rintro e W ⟨rfl, rfl⟩
    go_wp2_with fail
    go_ret
    exact ⟨rfl, rfl⟩
end Go.Proofs.YtigpfbfkdccdaaaDoor

namespace Go.Proofs.YtigpfbfkdccdaaaDoor
open Go.RowKit
set_option linter.unusedVariables false
set_option linter.unusedSimpArgs false

/-- Texts of nothing but k. -/
def kText (x : ByteArray) : Bool := decide (x.data.toList = List.replicate x.size 107)
def kCnt (out : List ByteArray) (m : Nat) : Nat := out.countP fun x => kText x && decide (m ≤ x.size)
theorem kCnt_add (out : List ByteArray) (s : ByteArray) (m : Nat) : kCnt (out ++ [s]) m ≤ kCnt out m + 1 := by
  unfold kCnt
  rw [List.countP_append, List.countP_cons, List.countP_nil]
  split <;> omega
theorem kCnt_mono (out : List ByteArray) (m : Nat) : kCnt out (m + 1) ≤ kCnt out m := by
  unfold kCnt
  refine List.countP_mono_left ?_
  intro x _ hx
  simp only [Bool.and_eq_true, decide_eq_true_eq] at hx ⊢
  exact ⟨hx.1, by omega⟩
theorem kCnt_own (out : List ByteArray) (s : ByteArray) (m : Nat) (hs : s.size = m) : kCnt (out ++ [s]) (m + 1) = kCnt out (m + 1) := by
  unfold kCnt
  rw [List.countP_append, List.countP_cons, List.countP_nil, if_neg (by simp; intro _; omega), Nat.add_zero, Nat.add_zero]
theorem kCnt_hit : ∀ (out : List ByteArray) (s : ByteArray) (m : Nat), s.size = m → kText s = true → s ∈ out → kCnt out (m + 1) + 1 ≤ kCnt out m
  | [], _, _, _, _, h => absurd h (by simp)
  | x :: r, s, m, hs, hk, h => by
    have hm := kCnt_mono r m
    have e1 : kCnt (x :: r) (m + 1) = kCnt r (m + 1) + if (kText x && decide (m + 1 ≤ x.size)) = true then 1 else 0 := List.countP_cons
    have e2 : kCnt (x :: r) m = kCnt r m + if (kText x && decide (m ≤ x.size)) = true then 1 else 0 := List.countP_cons
    by_cases e : x = s
    · subst e
      rw [if_neg (by simp; intro _; omega)] at e1
      rw [if_pos (by simp [hk]; omega)] at e2
      omega
    · have hr : s ∈ r := by
        rcases List.mem_cons.1 h with g | g
        · exact absurd g.symm e
        · exact g
      have ih := kCnt_hit r s m hs hk hr
      by_cases p : (kText x && decide (m + 1 ≤ x.size)) = true
      · rw [if_pos p] at e1
        rw [if_pos (by simp only [Bool.and_eq_true, decide_eq_true_eq] at p ⊢; exact ⟨p.1, by omega⟩)] at e2
        omega
      · rw [if_neg p] at e1
        omega
/-- What keys may be. -/
def keyOk (x : ByteArray) : Prop := x.size ≤ 100 ∧ Lib.validD x.data.toList = true
theorem kText_valid (m : Nat) : Lib.validD (List.replicate m (107 : UInt8)) = true := by
  have := Qm.ascii_valid (List.replicate m (107 : UInt8)) [] (fun c hc => by rw [List.mem_replicate] at hc; rw [hc.2]; decide)
  rw [List.append_nil] at this
  rw [this]
  rfl
theorem any_mem (out : List ByteArray) (s : ByteArray) : out.any (fun x => x.toList == s.toList) = true ↔ s ∈ out := by
  rw [List.any_eq_true]
  constructor
  · rintro ⟨x, hx, he⟩
    have h1 := beq_iff_eq.1 he
    rw [Lib.toList_data, Lib.toList_data] at h1
    have : x = s := by
      cases x; cases s
      congr 1
      exact Array.toList_inj.1 h1
    rwa [← this]
  · intro h
    exact ⟨s, h, beq_self_eq_true _⟩

theorem none_cell (W : World) (v : Value) (t : TypeId) : ∀ j u, [v][j]? = some u → (W.alloc (.cells #[v] t)).cell? ((⟨W.heap.size, 0, none⟩ : Addr).add j) = some u := by
  intro j u hj
  match j, hj with
  | 0, hj => simp at hj; subst hj; simp [Addr.add]
theorem none_one (s : ByteArray) : ∀ u ∈ [Value.string s], u.oneCell' = true := by
  intro u hu
  simp at hu
  subst hu
  rfl

set_option maxHeartbeats 2000000 in
set_option maxRecDepth 1000000 in
theorem named_any (ok : Nat → Prop) (a : Option Addr) (n c : Nat) (ks : List ByteArray) (many : Nat) (w : World) (hn : ks.length = n) (hn9 : n ≤ 140737488355328) (hm : many ≤ 7)
    (hks : ∀ i, ∀ h : i < ks.length, ∃ b o, a = some ⟨b, o, none⟩ ∧ ok b ∧ b < w.heap.size ∧ w.cell? ⟨b, o + i, none⟩ = some (.string (ks[i]'h))) :
    Calls Tryd.prog 37 #[.slice a n c, .int .i64 (many : Int)] w fun e w' => ∃ v' out, e = .returned v' ∧ StrsIn (fun b => w.heap.size ≤ b) w' v' out ∧ out.length = many ∧ out.Nodup ∧ (∀ x, x ∈ out → keyOk x) ∧ Below w.heap.size w w' := by
  obtain ⟨i0, hi, hz0, hz1, hz2⟩ := info_parts kinfo_str
  have HK := khide hks
  have HN := khide hn
  clear hks hn
  go_enter Tryd.func37, Tryd.ntmps37
  go_wp2_with fail
  go_loopg [5, 6, 7] (n + 15) (fun g V M I wr => ∃ (out : List ByteArray) (more : ByteArray) (i : Nat), I = .int .i64 (i : Int) ∧ M = .string more ∧ wr.ownsRow w.heap.size 9 1 V out.length (out.map Value.string) ∧ Below w.heap.size w wr ∧ out.length ≤ many ∧ out.Nodup ∧ (∀ x, x ∈ out → keyOk x) ∧
    more.data.toList = List.replicate more.size 107 ∧ more.size + 2 * (many - out.length) + kCnt out more.size ≤ 15 ∧ (n - i) + 2 * (many - out.length) + kCnt out more.size ≤ g ∧ i + g ≤ n + 15)
  case atStart => exact ⟨[], ⟨#[107]⟩, 0, rfl, rfl, World.ownsRow_made w #[] 0 (Nat.le_refl _) (by decide) rfl, (Below.refl _ w).alloc (Nat.le_refl _) _, by simp, List.nodup_nil, fun x hx => by simp at hx, rfl, by show 1 + 2 * (many - 0) + 0 ≤ 15; omega, by show n - 0 + 2 * (many - 0) + 0 ≤ n + 15; omega, by omega⟩
  case round =>
    obtain ⟨out, more, i, rfl, rfl, hown, hB, hle, hnd, hko, hmk, hms, hgk, hig⟩ := hrel
    obtain ⟨va, vc, rfl, hvc, hvs⟩ := strs_of_own hown
    by_cases h1 : out.length < many
    · have e1 : (out.length : Int) < (many : Int) := by omega
      have hi9 : i < 9223372036854775807 := by omega
      have w1 : IntKind.i64.wrap ((i : Int) + 1) = ((i + 1 : Nat) : Int) := by rw [IntKind.wrap_i64]; omega
      have HOWN := khide hown
      have HB := khide hB
      have HVS := khide hvs
      have HF := khide (And.intro hnd (And.intro hko (And.intro hmk (And.intro hms (And.intro hgk hig)))))
      by_cases h2 : i < n
      · obtain ⟨b, o, hao, hb, hcell⟩ := str_at (kunhide HK) hB i (by have := kunhide HN; omega)
        obtain ⟨s0, hs0⟩ : ∃ s0, ks[i]'(by have := kunhide HN; omega) = s0 := ⟨_, rfl⟩
        rw [hs0] at hcell
        subst hao
        have e2 : (i : Int) < (n : Int) := by omega
        have C := word_any s0
        obtain ⟨s, hs⟩ : ∃ s, wordB s0 = s := ⟨_, rfl⟩
        rw [hs] at C
        have hsk : keyOk s := by rw [← hs]; exact ⟨wordB_size _, wordB_valid _⟩
        have HSK := khide hsk
        have HC := khide C
        clear hs0 C hs hsk hown hB hvs hnd hko hmk hms hgk hig hi9
        go_wp2_with fail
        refine (kunhide HC _).mono ?_
        rintro e W ⟨rfl, rfl⟩
        go_wp2_with fail
        go_loop [9, 10] (fun t k => ∃ j : Nat, k = .int .i64 (j : Int) ∧ j ≤ out.length ∧ t = .bool ((out.take j).any fun x => x.toList == s.toList)) (fun _ k => out.length - (intOf k).toNat)
        case atStart => exact ⟨0, rfl, by omega, rfl⟩
        case round =>
          obtain ⟨j, rfl, hj9, rfl⟩ := hrel
          by_cases hj : j < out.length
          · obtain ⟨gb, go, hga, hgb, hgc⟩ := str_at (kunhide HVS) (Below.refl _ _) j hj
            subst hga
            have hsu : (out.take (j + 1)).any (fun x => x.toList == s.toList) = ((out.take j).any (fun x => x.toList == s.toList) || (out[j]'hj).toList == s.toList) := by
              rw [List.take_succ_eq_append_getElem hj, List.any_append]
              simp
            obtain ⟨x, hx⟩ : ∃ x, out[j]'hj = x := ⟨_, rfl⟩
            rw [hx] at hgc hsu
            obtain ⟨T, hT⟩ : ∃ T, (out.take j).any (fun x => x.toList == s.toList) = T := ⟨_, rfl⟩
            rw [hT] at hsu ⊢
            have HSU := khide hsu
            have e5 : (j : Int) < (out.length : Int) := by omega
            clear hsu hT hx
            cases T with
            | true =>
              go_wp2_with fail
              go_round
              case rel => exact ⟨j + 1, by go_num, hj, by rw [kunhide HSU]; rfl⟩
              case measure => simp [intOf]; omega
            | false =>
              go_wp2_with fail
              go_round
              case rel => exact ⟨j + 1, by go_num, hj, by rw [kunhide HSU, Bool.false_or]⟩
              case measure => simp [intOf]; omega
          · obtain rfl : j = out.length := by omega
            rw [List.take_length]
            obtain ⟨hnd, hko, hmk, hms, hgk, hig⟩ := kunhide HF
            by_cases hmem : s ∈ out
            · rw [(any_mem out s).2 hmem]
              have HG := khide (show gk - 1 < gk ∧ (more.data.toList = List.replicate more.size 107 ∧ more.size + 2 * (many - out.length) + kCnt out more.size ≤ 15 ∧ (n - (i + 1)) + 2 * (many - out.length) + kCnt out more.size ≤ gk - 1 ∧ (i + 1) + (gk - 1) ≤ n + 15) from ⟨by omega, hmk, hms, by omega, by omega⟩)
              clear hnd hko hmk hms hgk hig hmem hj
              go_wp2_with fail
              go_roundg (gk - 1)
              case measure => exact (kunhide HG).1
              case rel => exact ⟨out, more, i + 1, by go_num, rfl, kunhide HOWN, kunhide HB, by omega, (kunhide HF).1, (kunhide HF).2.1, (kunhide HG).2⟩
            · have hnm : out.any (fun x => x.toList == s.toList) = false := by
                cases hq : out.any (fun x => x.toList == s.toList) with
                | false => rfl
                | true => exact absurd ((any_mem out s).1 hq) hmem
              rw [hnm]
              have hnd2 : (out ++ [s]).Nodup := by
                rw [List.nodup_append]
                refine ⟨hnd, by simp, ?_⟩
                intro x hx y hy e
                rw [List.mem_singleton.1 hy] at e
                exact hmem (e ▸ hx)
              have hko2 : ∀ x, x ∈ out ++ [s] → keyOk x := by
                intro x hx
                rcases List.mem_append.1 hx with hx | hx
                · exact hko x hx
                · rw [List.mem_singleton.1 hx]; exact kunhide HSK
              have hca := kCnt_add out s more.size
              have HG := khide (show gk - 1 < gk ∧ (more.data.toList = List.replicate more.size 107 ∧ more.size + 2 * (many - (out ++ [s]).length) + kCnt (out ++ [s]) more.size ≤ 15 ∧ (n - (i + 1)) + 2 * (many - (out ++ [s]).length) + kCnt (out ++ [s]) more.size ≤ gk - 1 ∧ (i + 1) + (gk - 1) ≤ n + 15) from (by
                rw [List.length_append]
                exact ⟨by omega, hmk, by simp; omega, by simp; omega, by omega⟩))
              clear hca
              have HND := khide hnd2
              have HKO := khide hko2
              have hol : out.length ≤ 7 := by omega
              clear hnm hnd2 hko2 hnd hko hmk hms hgk hig hmem hj
              go_wp2_with (at_builtin; refine wpList_append_own _ rfl _ _ 25 rfl w.heap.size 9 i0 (.string ⟨#[]⟩) 1 16 Tryd.underlying25 hi hz0 hz1 hz2 rfl (by decide) _ _ _ rfl ((kunhide HOWN).alloc _) ⟨W.heap.size, 0, none⟩ 1 1 [.string s] rfl rfl (none_cell _ _ _) (none_one _) (by unfold maxLen; omega) (by omega) (kalloc_le (kunhide HB) _) ?_)
              intro V' w1 hown' hgrow _
              have hB1 : Below w.heap.size w w1 := ((kunhide HB).alloc (kunhide HB).size _).grown hgrow (kalloc_le (kunhide HB) _) (fun q hq => ((kunhide HOWN).lt q hq).1)
              have hown2 : w1.ownsRow w.heap.size 9 1 V' (out ++ [s]).length ((out ++ [s]).map Value.string) := by
                rw [List.length_append, List.map_append]
                exact hown'
              have HO2 := khide hown2
              have HB2 := khide hB1
              clear hown' hgrow hown2 hB1
              go_wp2_with fail
              go_roundg (gk - 1)
              case measure => exact (kunhide HG).1
              case rel => exact ⟨out ++ [s], more, i + 1, by go_num, rfl, kunhide HO2, kunhide HB2, by simp; omega, kunhide HND, kunhide HKO, (kunhide HG).2⟩
      · have e2 : ¬ (i : Int) < (n : Int) := by omega
        obtain ⟨more2, hm2⟩ : ∃ more2, more ++ (⟨#[107]⟩ : ByteArray) = more2 := ⟨_, rfl⟩
        have hm2s : more2.size = more.size + 1 := by rw [← hm2, ByteArray.size_append]; rfl
        have hm2l : more2.data.toList = List.replicate more2.size 107 := by
          rw [hm2s, ← hm2, ByteArray.data_append, Array.toList_append, hmk, List.replicate_succ']
        have HM2 := khide (And.intro hm2l hm2s)
        have j1 : ¬ (9223372036854775807 < more.size + 1) := by omega
        have hsk : keyOk more := ⟨by omega, by rw [hmk]; exact kText_valid _⟩
        have HSK := khide hsk
        clear hm2l hm2s hsk hown hB hvs hnd hko hmk hms hgk hig hi9
        go_wp2_with fail
        go_loop [9, 10] (fun t k => ∃ j : Nat, k = .int .i64 (j : Int) ∧ j ≤ out.length ∧ t = .bool ((out.take j).any fun x => x.toList == more.toList)) (fun _ k => out.length - (intOf k).toNat)
        case atStart => exact ⟨0, rfl, by omega, rfl⟩
        case round =>
          obtain ⟨j, rfl, hj9, rfl⟩ := hrel
          by_cases hj : j < out.length
          · obtain ⟨gb, go, hga, hgb, hgc⟩ := str_at (kunhide HVS) (Below.refl _ _) j hj
            subst hga
            have hsu : (out.take (j + 1)).any (fun x => x.toList == more.toList) = ((out.take j).any (fun x => x.toList == more.toList) || (out[j]'hj).toList == more.toList) := by
              rw [List.take_succ_eq_append_getElem hj, List.any_append]
              simp
            obtain ⟨x, hx⟩ : ∃ x, out[j]'hj = x := ⟨_, rfl⟩
            rw [hx] at hgc hsu
            obtain ⟨T, hT⟩ : ∃ T, (out.take j).any (fun x => x.toList == more.toList) = T := ⟨_, rfl⟩
            rw [hT] at hsu ⊢
            have HSU := khide hsu
            have e5 : (j : Int) < (out.length : Int) := by omega
            clear hsu hT hx
            cases T with
            | true =>
              go_wp2_with fail
              go_round
              case rel => exact ⟨j + 1, by go_num, hj, by rw [kunhide HSU]; rfl⟩
              case measure => simp [intOf]; omega
            | false =>
              go_wp2_with fail
              go_round
              case rel => exact ⟨j + 1, by go_num, hj, by rw [kunhide HSU, Bool.false_or]⟩
              case measure => simp [intOf]; omega
          · obtain rfl : j = out.length := by omega
            rw [List.take_length]
            obtain ⟨hnd, hko, hmk, hms, hgk, hig⟩ := kunhide HF
            by_cases hmem : more ∈ out
            · rw [(any_mem out more).2 hmem]
              have hch := kCnt_hit out more more.size rfl (by unfold kText; rw [decide_eq_true_eq]; exact hmk) hmem
              have HG := khide (show gk - 1 < gk ∧ (more2.data.toList = List.replicate more2.size 107 ∧ more2.size + 2 * (many - out.length) + kCnt out more2.size ≤ 15 ∧ (n - (i + 1)) + 2 * (many - out.length) + kCnt out more2.size ≤ gk - 1 ∧ (i + 1) + (gk - 1) ≤ n + 15) from (by
                have hm2 := kunhide HM2
                rw [hm2.2]
                exact ⟨by omega, by rw [← hm2.2]; exact hm2.1, by omega, by omega, by omega⟩))
              clear hch
              clear hnd hko hmk hms hgk hig hmem hj
              go_wp2_with fail
              go_roundg (gk - 1)
              case measure => exact (kunhide HG).1
              case rel => exact ⟨out, more2, i + 1, by go_num, rfl, kunhide HOWN, kunhide HB, by omega, (kunhide HF).1, (kunhide HF).2.1, (kunhide HG).2⟩
            · have hnm : out.any (fun x => x.toList == more.toList) = false := by
                cases hq : out.any (fun x => x.toList == more.toList) with
                | false => rfl
                | true => exact absurd ((any_mem out more).1 hq) hmem
              rw [hnm]
              have hnd2 : (out ++ [more]).Nodup := by
                rw [List.nodup_append]
                refine ⟨hnd, by simp, ?_⟩
                intro x hx y hy e
                rw [List.mem_singleton.1 hy] at e
                exact hmem (e ▸ hx)
              have hko2 : ∀ x, x ∈ out ++ [more] → keyOk x := by
                intro x hx
                rcases List.mem_append.1 hx with hx | hx
                · exact hko x hx
                · rw [List.mem_singleton.1 hx]; exact kunhide HSK
              have hco := kCnt_own out more more.size rfl
              have hcm := kCnt_mono out more.size
              have HG := khide (show gk - 1 < gk ∧ (more2.data.toList = List.replicate more2.size 107 ∧ more2.size + 2 * (many - (out ++ [more]).length) + kCnt (out ++ [more]) more2.size ≤ 15 ∧ (n - (i + 1)) + 2 * (many - (out ++ [more]).length) + kCnt (out ++ [more]) more2.size ≤ gk - 1 ∧ (i + 1) + (gk - 1) ≤ n + 15) from (by
                have hm2 := kunhide HM2
                rw [hm2.2, List.length_append, hco]
                exact ⟨by omega, by rw [← hm2.2]; exact hm2.1, by simp; omega, by simp; omega, by omega⟩))
              clear hco hcm
              have HND := khide hnd2
              have HKO := khide hko2
              have hol : out.length ≤ 7 := by omega
              clear hnm hnd2 hko2 hnd hko hmk hms hgk hig hmem hj
              go_wp2_with (at_builtin; refine wpList_append_own _ rfl _ _ 25 rfl w.heap.size 9 i0 (.string ⟨#[]⟩) 1 16 Tryd.underlying25 hi hz0 hz1 hz2 rfl (by decide) _ _ _ rfl ((kunhide HOWN).alloc _) ⟨wr.heap.size, 0, none⟩ 1 1 [.string more] rfl rfl (none_cell _ _ _) (none_one _) (by unfold maxLen; omega) (by omega) (kalloc_le (kunhide HB) _) ?_)
              intro V' w1 hown' hgrow _
              have hB1 : Below w.heap.size w w1 := ((kunhide HB).alloc (kunhide HB).size _).grown hgrow (kalloc_le (kunhide HB) _) (fun q hq => ((kunhide HOWN).lt q hq).1)
              have hown2 : w1.ownsRow w.heap.size 9 1 V' (out ++ [more]).length ((out ++ [more]).map Value.string) := by
                rw [List.length_append, List.map_append]
                exact hown'
              have HO2 := khide hown2
              have HB2 := khide hB1
              clear hown' hgrow hown2 hB1
              go_wp2_with fail
              go_roundg (gk - 1)
              case measure => exact (kunhide HG).1
              case rel => exact ⟨out ++ [more], more2, i + 1, by go_num, rfl, kunhide HO2, kunhide HB2, by simp; omega, kunhide HND, kunhide HKO, (kunhide HG).2⟩
    · have e1 : ¬ (out.length : Int) < (many : Int) := by omega
      have HVS := khide hvs
      have hlen : out.length = many := by omega
      clear hown hvs hgk hig hms hmk hle
      have HH := khide (And.intro hlen (And.intro hnd (And.intro hko hB)))
      clear hlen hnd hko hB
      go_wp2_with fail
      go_ret
      exact ⟨_, rfl, out, ⟨va, vc, rfl, hvc, kunhide HVS⟩, (kunhide HH).1, (kunhide HH).2.1, (kunhide HH).2.2.1, (kunhide HH).2.2.2⟩
end Go.Proofs.YtigpfbfkdccdaaaDoor
