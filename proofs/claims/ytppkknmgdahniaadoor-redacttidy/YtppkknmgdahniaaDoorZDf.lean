/- What is proved here: what the document's own short and word answer, walked. What is proved here: what the document's own named answers, walked; condition: at most seven keys are asked for. What is proved here: a row of the call's own that grows, with the number of its block; rows of values that are told with it. What is proved here: what the document's own Built answers, walked. -/
import Derived.Test.YtppkknmgdahniaaDoorZDa
import Derived.Test.YtppkknmgdahniaaDoorZBc
import Derived.Deep.LoopGhost
import Derived.Test.YtppkknmgdahniaaDoorZDb
import Derived.Test.YtppkknmgdahniaaDoorZDe
import Derived.Deep.DeepCutAuto
import Derived.Deep.CutRange
import Derived.Deep.CutBlock
import Derived.Deep.RegionWith
namespace Go.Proofs.YtppkknmgdahniaaDoor
set_option maxRecDepth 100000
open Go.RowKit
set_option linter.unusedVariables false
set_option linter.unusedSimpArgs false

/-- At most a hundred bytes. -/
def shortB (s : ByteArray) : ByteArray := if 100 < s.size then s.extract 0 100 else s
theorem shortB_size (s : ByteArray) : (shortB s).size ≤ 100 := by
  unfold shortB
  split
  · rw [ByteArray.size_extract]; omega
  · omega
def wordB (s : ByteArray) : ByteArray := if Lib.validD (shortB s).data.toList = true then shortB s else ⟨#[97]⟩
theorem wordB_size (s : ByteArray) : (wordB s).size ≤ 100 := by
  unfold wordB
  split
  · exact shortB_size s
  · decide
theorem wordB_valid (s : ByteArray) : Lib.validD (wordB s).data.toList = true := by
  unfold wordB
  split
  · assumption
  · decide
theorem short_any (s : ByteArray) (w : World) : Calls Tryd.prog 36 #[.string s] w fun e w' => e = .returned (.string (shortB s)) ∧ w' = w := by
  unfold shortB
  by_cases h : 100 < s.size
  · rw [if_pos h]
    have h1 : (100 : Int) < (s.size : Int) := by omega
    have h2 : (100 : Int) ≤ (s.size : Int) := by omega
    go_enter Tryd.func36, Tryd.ntmps36
    go_wp2
    go_ret
    exact ⟨rfl, rfl⟩
  · rw [if_neg h]
    have h1 : ¬ (100 : Int) < (s.size : Int) := by omega
    go_enter Tryd.func36, Tryd.ntmps36
    go_wp2
    go_ret
    exact ⟨rfl, rfl⟩
set_option maxHeartbeats 1000000 in
theorem word_any (s : ByteArray) (w : World) : Calls Tryd.prog 37 #[.string s] w fun e w' => e = .returned (.string (wordB s)) ∧ w' = w := by
  obtain ⟨t, ht⟩ : ∃ t, shortB s = t := ⟨_, rfl⟩
  have hs : t.size ≤ 100 := by rw [← ht]; exact shortB_size s
  have C1 : ∀ W, Calls Tryd.prog 36 #[.string s] W fun e w' => e = .returned (.string t) ∧ w' = W := fun W => by rw [← ht]; exact short_any s W
  obtain ⟨b, hb⟩ : ∃ b, Lib.validD t.data.toList = b := ⟨_, rfl⟩
  have C2 : ∀ W, Calls Tryd.prog 30 #[.string t] W fun e w' => e = .returned (.bool b) ∧ w' = W := fun W => ref_valid t (by omega) b hb W
  unfold wordB
  rw [ht, hb]
  clear ht hb hs
  cases b with
  | true =>
    rw [if_pos rfl]
    go_enter Tryd.func37, Tryd.ntmps37
    go_wp2_with fail
    refine (C1 _).mono ?_
    rintro e W ⟨rfl, rfl⟩
    go_wp2_with fail
    refine (C2 _).mono ?_
    rintro e W ⟨rfl, rfl⟩
    go_wp2_with fail
    go_ret
    exact ⟨rfl, rfl⟩
  | false =>
    rw [if_neg (by decide)]
    go_enter Tryd.func37, Tryd.ntmps37
    go_wp2_with fail
    refine (C1 _).mono ?_
    rintro e W ⟨rfl, rfl⟩
    go_wp2_with fail
    refine (C2 _).mono ?_
    rintro e W ⟨rfl, rfl⟩
    go_wp2_with fail
    go_ret
    exact ⟨rfl, rfl⟩
end Go.Proofs.YtppkknmgdahniaaDoor

namespace Go.Proofs.YtppkknmgdahniaaDoor
set_option maxRecDepth 100000
open Go.RowKit
set_option linter.unusedVariables false
set_option linter.unusedSimpArgs false

/-- Texts of nothing but k. -/
def kText (x : ByteArray) : Bool := decide (x.data.toList = List.replicate x.size 107)
def kCnt (out : List ByteArray) (m : Nat) : Nat := out.countP fun x => kText x && decide (m ≤ x.size)
theorem kCnt_add (out : List ByteArray) (s : ByteArray) (m : Nat) : kCnt (out ++ [s]) m ≤ kCnt out m + 1 := by
  unfold kCnt
  rw [List.countP_append, List.countP_cons, List.countP_nil]
  split <;> omega
theorem kCnt_mono (out : List ByteArray) (m : Nat) : kCnt out (m + 1) ≤ kCnt out m := by
  unfold kCnt
  refine List.countP_mono_left ?_
  intro x _ hx
  simp only [Bool.and_eq_true, decide_eq_true_eq] at hx ⊢
  exact ⟨hx.1, by omega⟩
theorem kCnt_own (out : List ByteArray) (s : ByteArray) (m : Nat) (hs : s.size = m) : kCnt (out ++ [s]) (m + 1) = kCnt out (m + 1) := by
  unfold kCnt
  rw [List.countP_append, List.countP_cons, List.countP_nil, if_neg (by simp; intro _; omega), Nat.add_zero, Nat.add_zero]
theorem kCnt_hit : ∀ (out : List ByteArray) (s : ByteArray) (m : Nat), s.size = m → kText s = true → s ∈ out → kCnt out (m + 1) + 1 ≤ kCnt out m
  | [], _, _, _, _, h => absurd h (by simp)
  | x :: r, s, m, hs, hk, h => by
    have hm := kCnt_mono r m
    have e1 : kCnt (x :: r) (m + 1) = kCnt r (m + 1) + if (kText x && decide (m + 1 ≤ x.size)) = true then 1 else 0 := List.countP_cons
    have e2 : kCnt (x :: r) m = kCnt r m + if (kText x && decide (m ≤ x.size)) = true then 1 else 0 := List.countP_cons
    by_cases e : x = s
    · subst e
      rw [if_neg (by simp; intro _; omega)] at e1
      rw [if_pos (by simp [hk]; omega)] at e2
      omega
    · have hr : s ∈ r := by
        rcases List.mem_cons.1 h with g | g
        · exact absurd g.symm e
        · exact g
      have ih := kCnt_hit r s m hs hk hr
      by_cases p : (kText x && decide (m + 1 ≤ x.size)) = true
      · rw [if_pos p] at e1
        rw [if_pos (by simp only [Bool.and_eq_true, decide_eq_true_eq] at p ⊢; exact ⟨p.1, by omega⟩)] at e2
        omega
      · rw [if_neg p] at e1
        omega
/-- What keys may be. -/
def keyOk (x : ByteArray) : Prop := x.size ≤ 100 ∧ Lib.validD x.data.toList = true
theorem kText_valid (m : Nat) : Lib.validD (List.replicate m (107 : UInt8)) = true := by
  have := Qm.ascii_valid (List.replicate m (107 : UInt8)) [] (fun c hc => by rw [List.mem_replicate] at hc; rw [hc.2]; decide)
  rw [List.append_nil] at this
  rw [this]
  rfl
theorem any_mem (out : List ByteArray) (s : ByteArray) : out.any (fun x => x.toList == s.toList) = true ↔ s ∈ out := by
  rw [List.any_eq_true]
  constructor
  · rintro ⟨x, hx, he⟩
    have h1 := beq_iff_eq.1 he
    rw [Lib.toList_data, Lib.toList_data] at h1
    have : x = s := by
      cases x; cases s
      congr 1
      exact Array.toList_inj.1 h1
    rwa [← this]
  · intro h
    exact ⟨s, h, beq_self_eq_true _⟩

theorem none_cell (W : World) (v : Value) (t : TypeId) : ∀ j u, [v][j]? = some u → (W.alloc (.cells #[v] t)).cell? ((⟨W.heap.size, 0, none⟩ : Addr).add j) = some u := by
  intro j u hj
  match j, hj with
  | 0, hj => simp at hj; subst hj; simp [Addr.add]
theorem none_one (s : ByteArray) : ∀ u ∈ [Value.string s], u.oneCell' = true := by
  intro u hu
  simp at hu
  subst hu
  rfl

set_option maxHeartbeats 2000000 in
set_option maxRecDepth 1000000 in
theorem named_any (ok : Nat → Prop) (a : Option Addr) (n c : Nat) (ks : List ByteArray) (many : Nat) (w : World) (hn : ks.length = n) (hn9 : n ≤ 140737488355328) (hm : many ≤ 7)
    (hks : ∀ i, ∀ h : i < ks.length, ∃ b o, a = some ⟨b, o, none⟩ ∧ ok b ∧ b < w.heap.size ∧ w.cell? ⟨b, o + i, none⟩ = some (.string (ks[i]'h))) :
    Calls Tryd.prog 38 #[.slice a n c, .int .i64 (many : Int)] w fun e w' => ∃ v' out, e = .returned v' ∧ StrsIn (fun b => w.heap.size ≤ b) w' v' out ∧ out.length = many ∧ out.Nodup ∧ (∀ x, x ∈ out → keyOk x) ∧ Below w.heap.size w w' := by
  obtain ⟨i0, hi, hz0, hz1, hz2⟩ := info_parts kinfo_str
  have HK := khide hks
  have HN := khide hn
  clear hks hn
  go_enter Tryd.func38, Tryd.ntmps38
  go_wp2_with fail
  go_loopg [5, 6, 7] (n + 15) (fun g V M I wr => ∃ (out : List ByteArray) (more : ByteArray) (i : Nat), I = .int .i64 (i : Int) ∧ M = .string more ∧ wr.ownsRow w.heap.size 9 1 V out.length (out.map Value.string) ∧ Below w.heap.size w wr ∧ out.length ≤ many ∧ out.Nodup ∧ (∀ x, x ∈ out → keyOk x) ∧
    more.data.toList = List.replicate more.size 107 ∧ more.size + 2 * (many - out.length) + kCnt out more.size ≤ 15 ∧ (n - i) + 2 * (many - out.length) + kCnt out more.size ≤ g ∧ i + g ≤ n + 15)
  case atStart => exact ⟨[], ⟨#[107]⟩, 0, rfl, rfl, World.ownsRow_made w #[] 0 (Nat.le_refl _) (by decide) rfl, (Below.refl _ w).alloc (Nat.le_refl _) _, by simp, List.nodup_nil, fun x hx => by simp at hx, rfl, by show 1 + 2 * (many - 0) + 0 ≤ 15; omega, by show n - 0 + 2 * (many - 0) + 0 ≤ n + 15; omega, by omega⟩
  case round =>
    obtain ⟨out, more, i, rfl, rfl, hown, hB, hle, hnd, hko, hmk, hms, hgk, hig⟩ := hrel
    obtain ⟨va, vc, rfl, hvc, hvs⟩ := strs_of_own hown
    by_cases h1 : out.length < many
    · have e1 : (out.length : Int) < (many : Int) := by omega
      have hi9 : i < 9223372036854775807 := by omega
      have w1 : IntKind.i64.wrap ((i : Int) + 1) = ((i + 1 : Nat) : Int) := by rw [IntKind.wrap_i64]; omega
      have HOWN := khide hown
      have HB := khide hB
      have HVS := khide hvs
      have HF := khide (And.intro hnd (And.intro hko (And.intro hmk (And.intro hms (And.intro hgk hig)))))
      by_cases h2 : i < n
      · obtain ⟨b, o, hao, hb, hcell⟩ := str_at (kunhide HK) hB i (by have := kunhide HN; omega)
        obtain ⟨s0, hs0⟩ : ∃ s0, ks[i]'(by have := kunhide HN; omega) = s0 := ⟨_, rfl⟩
        rw [hs0] at hcell
        subst hao
        have e2 : (i : Int) < (n : Int) := by omega
        have C := word_any s0
        obtain ⟨s, hs⟩ : ∃ s, wordB s0 = s := ⟨_, rfl⟩
        rw [hs] at C
        have hsk : keyOk s := by rw [← hs]; exact ⟨wordB_size _, wordB_valid _⟩
        have HSK := khide hsk
        have HC := khide C
        clear hs0 C hs hsk hown hB hvs hnd hko hmk hms hgk hig hi9
        go_wp2_with fail
        refine (kunhide HC _).mono ?_
        rintro e W ⟨rfl, rfl⟩
        go_wp2_with fail
        go_loop [9, 10] (fun t k => ∃ j : Nat, k = .int .i64 (j : Int) ∧ j ≤ out.length ∧ t = .bool ((out.take j).any fun x => x.toList == s.toList)) (fun _ k => out.length - (intOf k).toNat)
        case atStart => exact ⟨0, rfl, by omega, rfl⟩
        case round =>
          obtain ⟨j, rfl, hj9, rfl⟩ := hrel
          by_cases hj : j < out.length
          · obtain ⟨gb, go, hga, hgb, hgc⟩ := str_at (kunhide HVS) (Below.refl _ _) j hj
            subst hga
            have hsu : (out.take (j + 1)).any (fun x => x.toList == s.toList) = ((out.take j).any (fun x => x.toList == s.toList) || (out[j]'hj).toList == s.toList) := by
              rw [List.take_succ_eq_append_getElem hj, List.any_append]
              simp
            obtain ⟨x, hx⟩ : ∃ x, out[j]'hj = x := ⟨_, rfl⟩
            rw [hx] at hgc hsu
            obtain ⟨T, hT⟩ : ∃ T, (out.take j).any (fun x => x.toList == s.toList) = T := ⟨_, rfl⟩
            rw [hT] at hsu ⊢
            have HSU := khide hsu
            have e5 : (j : Int) < (out.length : Int) := by omega
            clear hsu hT hx
            cases T with
            | true =>
              go_wp2_with fail
              go_round
              case rel => exact ⟨j + 1, by go_num, hj, by rw [kunhide HSU]; rfl⟩
              case measure => simp [intOf]; omega
            | false =>
              go_wp2_with fail
              go_round
              case rel => exact ⟨j + 1, by go_num, hj, by rw [kunhide HSU, Bool.false_or]⟩
              case measure => simp [intOf]; omega
          · obtain rfl : j = out.length := by omega
            rw [List.take_length]
            obtain ⟨hnd, hko, hmk, hms, hgk, hig⟩ := kunhide HF
            by_cases hmem : s ∈ out
            · rw [(any_mem out s).2 hmem]
              have HG := khide (show gk - 1 < gk ∧ (more.data.toList = List.replicate more.size 107 ∧ more.size + 2 * (many - out.length) + kCnt out more.size ≤ 15 ∧ (n - (i + 1)) + 2 * (many - out.length) + kCnt out more.size ≤ gk - 1 ∧ (i + 1) + (gk - 1) ≤ n + 15) from ⟨by omega, hmk, hms, by omega, by omega⟩)
              clear hnd hko hmk hms hgk hig hmem hj
              go_wp2_with fail
              go_roundg (gk - 1)
              case measure => exact (kunhide HG).1
              case rel => exact ⟨out, more, i + 1, by go_num, rfl, kunhide HOWN, kunhide HB, by omega, (kunhide HF).1, (kunhide HF).2.1, (kunhide HG).2⟩
            · have hnm : out.any (fun x => x.toList == s.toList) = false := by
                cases hq : out.any (fun x => x.toList == s.toList) with
                | false => rfl
                | true => exact absurd ((any_mem out s).1 hq) hmem
              rw [hnm]
              have hnd2 : (out ++ [s]).Nodup := by
                rw [List.nodup_append]
                refine ⟨hnd, by simp, ?_⟩
                intro x hx y hy e
                rw [List.mem_singleton.1 hy] at e
                exact hmem (e ▸ hx)
              have hko2 : ∀ x, x ∈ out ++ [s] → keyOk x := by
                intro x hx
                rcases List.mem_append.1 hx with hx | hx
                · exact hko x hx
                · rw [List.mem_singleton.1 hx]; exact kunhide HSK
              have hca := kCnt_add out s more.size
              have HG := khide (show gk - 1 < gk ∧ (more.data.toList = List.replicate more.size 107 ∧ more.size + 2 * (many - (out ++ [s]).length) + kCnt (out ++ [s]) more.size ≤ 15 ∧ (n - (i + 1)) + 2 * (many - (out ++ [s]).length) + kCnt (out ++ [s]) more.size ≤ gk - 1 ∧ (i + 1) + (gk - 1) ≤ n + 15) from (by
                rw [List.length_append]
                exact ⟨by omega, hmk, by simp; omega, by simp; omega, by omega⟩))
              clear hca
              have HND := khide hnd2
              have HKO := khide hko2
              have hol : out.length ≤ 7 := by omega
              clear hnm hnd2 hko2 hnd hko hmk hms hgk hig hmem hj
              go_wp2_with (at_builtin; refine wpList_append_own _ rfl _ _ 27 rfl w.heap.size 9 i0 (.string ⟨#[]⟩) 1 16 Tryd.underlying27 hi hz0 hz1 hz2 rfl (by decide) _ _ _ rfl ((kunhide HOWN).alloc _) ⟨W.heap.size, 0, none⟩ 1 1 [.string s] rfl rfl (none_cell _ _ _) (none_one _) (by unfold maxLen; omega) (by omega) (kalloc_le (kunhide HB) _) ?_)
              intro V' w1 hown' hgrow _
              have hB1 : Below w.heap.size w w1 := ((kunhide HB).alloc (kunhide HB).size _).grown hgrow (kalloc_le (kunhide HB) _) (fun q hq => ((kunhide HOWN).lt q hq).1)
              have hown2 : w1.ownsRow w.heap.size 9 1 V' (out ++ [s]).length ((out ++ [s]).map Value.string) := by
                rw [List.length_append, List.map_append]
                exact hown'
              have HO2 := khide hown2
              have HB2 := khide hB1
              clear hown' hgrow hown2 hB1
              go_wp2_with fail
              go_roundg (gk - 1)
              case measure => exact (kunhide HG).1
              case rel => exact ⟨out ++ [s], more, i + 1, by go_num, rfl, kunhide HO2, kunhide HB2, by simp; omega, kunhide HND, kunhide HKO, (kunhide HG).2⟩
      · have e2 : ¬ (i : Int) < (n : Int) := by omega
        obtain ⟨more2, hm2⟩ : ∃ more2, more ++ (⟨#[107]⟩ : ByteArray) = more2 := ⟨_, rfl⟩
        have hm2s : more2.size = more.size + 1 := by rw [← hm2, ByteArray.size_append]; rfl
        have hm2l : more2.data.toList = List.replicate more2.size 107 := by
          rw [hm2s, ← hm2, ByteArray.data_append, Array.toList_append, hmk, List.replicate_succ']
        have HM2 := khide (And.intro hm2l hm2s)
        have j1 : ¬ (9223372036854775807 < more.size + 1) := by omega
        have hsk : keyOk more := ⟨by omega, by rw [hmk]; exact kText_valid _⟩
        have HSK := khide hsk
        clear hm2l hm2s hsk hown hB hvs hnd hko hmk hms hgk hig hi9
        go_wp2_with fail
        go_loop [9, 10] (fun t k => ∃ j : Nat, k = .int .i64 (j : Int) ∧ j ≤ out.length ∧ t = .bool ((out.take j).any fun x => x.toList == more.toList)) (fun _ k => out.length - (intOf k).toNat)
        case atStart => exact ⟨0, rfl, by omega, rfl⟩
        case round =>
          obtain ⟨j, rfl, hj9, rfl⟩ := hrel
          by_cases hj : j < out.length
          · obtain ⟨gb, go, hga, hgb, hgc⟩ := str_at (kunhide HVS) (Below.refl _ _) j hj
            subst hga
            have hsu : (out.take (j + 1)).any (fun x => x.toList == more.toList) = ((out.take j).any (fun x => x.toList == more.toList) || (out[j]'hj).toList == more.toList) := by
              rw [List.take_succ_eq_append_getElem hj, List.any_append]
              simp
            obtain ⟨x, hx⟩ : ∃ x, out[j]'hj = x := ⟨_, rfl⟩
            rw [hx] at hgc hsu
            obtain ⟨T, hT⟩ : ∃ T, (out.take j).any (fun x => x.toList == more.toList) = T := ⟨_, rfl⟩
            rw [hT] at hsu ⊢
            have HSU := khide hsu
            have e5 : (j : Int) < (out.length : Int) := by omega
            clear hsu hT hx
            cases T with
            | true =>
              go_wp2_with fail
              go_round
              case rel => exact ⟨j + 1, by go_num, hj, by rw [kunhide HSU]; rfl⟩
              case measure => simp [intOf]; omega
            | false =>
              go_wp2_with fail
              go_round
              case rel => exact ⟨j + 1, by go_num, hj, by rw [kunhide HSU, Bool.false_or]⟩
              case measure => simp [intOf]; omega
          · obtain rfl : j = out.length := by omega
            rw [List.take_length]
            obtain ⟨hnd, hko, hmk, hms, hgk, hig⟩ := kunhide HF
            by_cases hmem : more ∈ out
            · rw [(any_mem out more).2 hmem]
              have hch := kCnt_hit out more more.size rfl (by unfold kText; rw [decide_eq_true_eq]; exact hmk) hmem
              have HG := khide (show gk - 1 < gk ∧ (more2.data.toList = List.replicate more2.size 107 ∧ more2.size + 2 * (many - out.length) + kCnt out more2.size ≤ 15 ∧ (n - (i + 1)) + 2 * (many - out.length) + kCnt out more2.size ≤ gk - 1 ∧ (i + 1) + (gk - 1) ≤ n + 15) from (by
                have hm2 := kunhide HM2
                rw [hm2.2]
                exact ⟨by omega, by rw [← hm2.2]; exact hm2.1, by omega, by omega, by omega⟩))
              clear hch
              clear hnd hko hmk hms hgk hig hmem hj
              go_wp2_with fail
              go_roundg (gk - 1)
              case measure => exact (kunhide HG).1
              case rel => exact ⟨out, more2, i + 1, by go_num, rfl, kunhide HOWN, kunhide HB, by omega, (kunhide HF).1, (kunhide HF).2.1, (kunhide HG).2⟩
            · have hnm : out.any (fun x => x.toList == more.toList) = false := by
                cases hq : out.any (fun x => x.toList == more.toList) with
                | false => rfl
                | true => exact absurd ((any_mem out more).1 hq) hmem
              rw [hnm]
              have hnd2 : (out ++ [more]).Nodup := by
                rw [List.nodup_append]
                refine ⟨hnd, by simp, ?_⟩
                intro x hx y hy e
                rw [List.mem_singleton.1 hy] at e
                exact hmem (e ▸ hx)
              have hko2 : ∀ x, x ∈ out ++ [more] → keyOk x := by
                intro x hx
                rcases List.mem_append.1 hx with hx | hx
                · exact hko x hx
                · rw [List.mem_singleton.1 hx]; exact kunhide HSK
              have hco := kCnt_own out more more.size rfl
              have hcm := kCnt_mono out more.size
              have HG := khide (show gk - 1 < gk ∧ (more2.data.toList = List.replicate more2.size 107 ∧ more2.size + 2 * (many - (out ++ [more]).length) + kCnt (out ++ [more]) more2.size ≤ 15 ∧ (n - (i + 1)) + 2 * (many - (out ++ [more]).length) + kCnt (out ++ [more]) more2.size ≤ gk - 1 ∧ (i + 1) + (gk - 1) ≤ n + 15) from (by
                have hm2 := kunhide HM2
                rw [hm2.2, List.length_append, hco]
                exact ⟨by omega, by rw [← hm2.2]; exact hm2.1, by simp; omega, by simp; omega, by omega⟩))
              clear hco hcm
              have HND := khide hnd2
              have HKO := khide hko2
              have hol : out.length ≤ 7 := by omega
              clear hnm hnd2 hko2 hnd hko hmk hms hgk hig hmem hj
              go_wp2_with (at_builtin; refine wpList_append_own _ rfl _ _ 27 rfl w.heap.size 9 i0 (.string ⟨#[]⟩) 1 16 Tryd.underlying27 hi hz0 hz1 hz2 rfl (by decide) _ _ _ rfl ((kunhide HOWN).alloc _) ⟨wr.heap.size, 0, none⟩ 1 1 [.string more] rfl rfl (none_cell _ _ _) (none_one _) (by unfold maxLen; omega) (by omega) (kalloc_le (kunhide HB) _) ?_)
              intro V' w1 hown' hgrow _
              have hB1 : Below w.heap.size w w1 := ((kunhide HB).alloc (kunhide HB).size _).grown hgrow (kalloc_le (kunhide HB) _) (fun q hq => ((kunhide HOWN).lt q hq).1)
              have hown2 : w1.ownsRow w.heap.size 9 1 V' (out ++ [more]).length ((out ++ [more]).map Value.string) := by
                rw [List.length_append, List.map_append]
                exact hown'
              have HO2 := khide hown2
              have HB2 := khide hB1
              clear hown' hgrow hown2 hB1
              go_wp2_with fail
              go_roundg (gk - 1)
              case measure => exact (kunhide HG).1
              case rel => exact ⟨out ++ [more], more2, i + 1, by go_num, rfl, kunhide HO2, kunhide HB2, by simp; omega, kunhide HND, kunhide HKO, (kunhide HG).2⟩
    · have e1 : ¬ (out.length : Int) < (many : Int) := by omega
      have HVS := khide hvs
      have hlen : out.length = many := by omega
      clear hown hvs hgk hig hms hmk hle
      have HH := khide (And.intro hlen (And.intro hnd (And.intro hko hB)))
      clear hlen hnd hko hB
      go_wp2_with fail
      go_ret
      exact ⟨_, rfl, out, ⟨va, vc, rfl, hvc, kunhide HVS⟩, (kunhide HH).1, (kunhide HH).2.1, (kunhide HH).2.2.1, (kunhide HH).2.2.2⟩
end Go.Proofs.YtppkknmgdahniaaDoor

namespace Go.Proofs.YtppkknmgdahniaaDoor
set_option maxRecDepth 100000
open Go.RowKit
set_option linter.unusedVariables false
set_option linter.unusedSimpArgs false

theorem run_append_own2 {P : Program} (w : World) (base : Nat) (t ty e : TypeId) (i : TypeInfo) (z : Value) (size bytes : Nat) (ht : P.underlying t = some (.slice e)) (hi : P.info? e = some i) (hz : i.zero = some z)
    (hsize : i.size = size) (hby : i.bytes = bytes) (hzs : z.cells.size = size) (hsz : 0 < size)
    (g cap n : Nat) (xs : List Value) (hown : w.ownsRow base e size (.slice (some ⟨g, 0, none⟩) n cap) n xs)
    (a : Addr) (m c : Nat) (news : List Value) (hl : news.length = m * size) (hnews : ∀ j u, news[j]? = some u → w.cell? (a.add j) = some u) (h1 : ∀ u ∈ news, u.oneCell' = true)
    (h63 : n + m ≤ maxLen) (hbytes : (n + m) * bytes ≤ 140737488355328) (hbase : base ≤ w.heap.size) :
    ∃ g' cap' w', (Builtin.append_ #[t, t] ty #[.slice (some ⟨g, 0, none⟩) n cap, .slice (some a) m c]).run P w = .ok (.slice (some ⟨g', 0, none⟩) (n + m) cap') w' ∧
      w'.ownsRow base e size (.slice (some ⟨g', 0, none⟩) (n + m) cap') (n + m) (xs ++ news) ∧ w.grownBy w' (some g) ∧ (g' = g ∨ w.heap.size ≤ g') := by
  rcases hown.2 with ⟨h, _⟩ | ⟨g', cap', cur, hv, hbg, hg, hnc, hcm, hcs, htake⟩
  · cases h
  · have e1 := Value.slice.inj hv
    obtain ⟨rfl, _, _⟩ := Addr.mk.inj (Option.some.inj e1.1)
    obtain rfl := e1.2.2
    by_cases hroom : n + m ≤ cap
    · obtain ⟨w', r1, r2, r3⟩ := run_append_fits (P := P) w base t ty e i size ht hi hsize g n cap xs hown a m c news hl hnews h1 hroom
      exact ⟨g, cap, w', r1, r2, r3, .inl rfl⟩
    · obtain ⟨v', w', r1, r2, r3⟩ := run_append_arg_grows (P := P) w t ty e i z size bytes ht hi hz hsize hby hzs hsz ⟨g, 0, none⟩ n cap xs hown.1 (hown.cells (g := g) rfl) a m c news hl hnews (by omega) h63 hbytes
      rcases r2.2 with ⟨_, h0⟩ | ⟨g2, cap2, cur2, hv2, hbg2, hg2, hnc2, hcm2, hcs2, ht2⟩
      · omega
      · subst hv2
        refine ⟨g2, cap2, w', r1, ⟨r2.1, .inr ⟨g2, cap2, cur2, rfl, by omega, hg2, hnc2, hcm2, hcs2, ht2⟩⟩, ⟨r3.os, r3.tape, r3.output, r3.size, fun k hk _ => r3.block k hk (by simp)⟩, .inr hbg2⟩
theorem wpList_append_own2 {P : Program} (w : World) {ops : Array Oper} {rest : List Oper} {o : Oper} {a : Act} {Q : Exit → Act → World → Prop} (hgd : o.guard = none) (s x : Operand) (t : TypeId)
    (ho : o.op = .call { callee := .builtin .append, args := #[s, x], argTypes := #[t, t] })
    (base : Nat) (e : TypeId) (i : TypeInfo) (z : Value) (size bytes : Nat) (ht : P.underlying t = some (.slice e)) (hi : P.info? e = some i) (hz : i.zero = some z)
    (hsize : i.size = size) (hby : i.bytes = bytes) (hzs : z.cells.size = size) (hsz : 0 < size)
    (g cap n : Nat) (xs : List Value) (hs : a.eval s = .slice (some ⟨g, 0, none⟩) n cap) (hown : w.ownsRow base e size (.slice (some ⟨g, 0, none⟩) n cap) n xs)
    (ad : Addr) (m c : Nat) (news : List Value) (hx : a.eval x = .slice (some ad) m c) (hl : news.length = m * size) (hnews : ∀ j u, news[j]? = some u → w.cell? (ad.add j) = some u) (h1 : ∀ u ∈ news, u.oneCell' = true)
    (h63 : n + m ≤ maxLen) (hbytes : (n + m) * bytes ≤ 140737488355328) (hbase : base ≤ w.heap.size)
    (h : ∀ g' cap' w', w'.ownsRow base e size (.slice (some ⟨g', 0, none⟩) (n + m) cap') (n + m) (xs ++ news) → w.grownBy w' (some g) → (g' = g ∨ w.heap.size ≤ g') → wpList P ops Q rest (a.put o.dst (.slice (some ⟨g', 0, none⟩) (n + m) cap')) w') :
    wpList P ops Q (o :: rest) a w := by
  refine wpList_plain hgd fun K hK => ?_
  obtain ⟨g', cap', w', hr, h2, h3, h4⟩ := run_append_own2 (P := P) w base t o.type e i z size bytes ht hi hz hsize hby hzs hsz g cap n xs hown ad m c news hl hnews h1 h63 hbytes hbase
  unfold Oper.wp execOp
  simp only [ho, resolve, invoke, builtin, Sem.run_bind, Sem.run_pure, Result.andThen_ok, List.map_toArray, List.map_cons, List.map_nil, hs, hx, hr]
  exact hK _ _ (h g' cap' w' h2 h3 h4)

/-- A row of values that the call owns, with the trees that they are. -/
def RowIn (lo : Nat) (w : World) (d g cap : Nat) (Ts : List Tr) : Prop :=
  ∃ css : List (List Value), css.length = Ts.length ∧ (∀ c, c ∈ css → c.length = 9 ∧ ∀ u, u ∈ c → u.oneCell' = true) ∧ w.ownsRow lo 31 9 (.slice (some ⟨g, 0, none⟩) Ts.length cap) Ts.length css.flatten ∧
    ∀ j, ∀ h1 : j < css.length, ∀ h2 : j < Ts.length, Lies (fun b => lo ≤ b ∧ b ≠ g) w d (.agg (css[j]'h1).toArray) (Ts[j]'h2)
theorem flat_len : ∀ css : List (List Value), (∀ c, c ∈ css → c.length = 9) → css.flatten.length = css.length * 9
  | [], _ => rfl
  | c :: r, h => by
    rw [List.flatten_cons, List.length_append, flat_len r (fun x hx => h x (by simp [hx])), h c (by simp), List.length_cons]
    omega
theorem flat_at : ∀ (css : List (List Value)), (∀ c, c ∈ css → c.length = 9) → ∀ (i r : Nat), r < 9 → ∀ h : i < css.length, css.flatten[i * 9 + r]? = (css[i]'h)[r]?
  | [], _, _, _, _, h => absurd h (by simp)
  | c :: t, hc, 0, r, hr, _ => by
    rw [List.flatten_cons, Nat.zero_mul, Nat.zero_add, List.getElem?_append_left (by rw [hc c (by simp)]; exact hr)]
    rfl
  | c :: t, hc, i + 1, r, hr, h => by
    have hl := hc c (by simp)
    rw [List.flatten_cons, List.getElem?_append_right (by omega), show (i + 1) * 9 + r - c.length = i * 9 + r by omega, flat_at t (fun x hx => hc x (by simp [hx])) i r hr (by simpa using h)]
    rfl
theorem flat_drop : ∀ (css : List (List Value)), (∀ c, c ∈ css → c.length = 9) → ∀ i, (css.drop i).flatten = css.flatten.drop (i * 9)
  | [], _, i => by simp
  | c :: t, hc, 0 => by simp
  | c :: t, hc, i + 1 => by
    have hl := hc c (by simp)
    rw [List.drop_succ_cons, flat_drop t (fun x hx => hc x (by simp [hx])) i, List.flatten_cons, show (i + 1) * 9 = c.length + i * 9 by omega]
    exact (List.drop_length_add_append (l₁ := c) (l₂ := t.flatten) (i := i * 9)).symm
theorem flat_take : ∀ (css : List (List Value)), (∀ c, c ∈ css → c.length = 9) → ∀ i, (css.take i).flatten = css.flatten.take (i * 9)
  | [], _, i => by simp
  | c :: t, hc, 0 => by simp
  | c :: t, hc, i + 1 => by
    have hl := hc c (by simp)
    rw [List.take_succ_cons, List.flatten_cons, flat_take t (fun x hx => hc x (by simp [hx])) i, List.flatten_cons, show (i + 1) * 9 = c.length + i * 9 by omega]
    exact (List.take_length_add_append (l₁ := c) (l₂ := t.flatten) (i := i * 9)).symm
/-- The cells of a part of a row. -/
theorem row_news {lo d g cap : Nat} {w : World} {Ts : List Tr} {css : List (List Value)} (hc : ∀ c, c ∈ css → c.length = 9) (hown : w.ownsRow lo 31 9 (.slice (some ⟨g, 0, none⟩) Ts.length cap) Ts.length css.flatten) (i : Nat) :
    ∀ j u, (css.drop i).flatten[j]? = some u → w.cell? ((⟨g, i * 9, none⟩ : Addr).add j) = some u := by
  intro j u hj
  rw [flat_drop css hc i, List.getElem?_drop] at hj
  have := hown.cells (g := g) rfl (i * 9 + j) u hj
  have e1 : (⟨g, 0, none⟩ : Addr).add (i * 9 + j) = ⟨g, i * 9 + j, none⟩ := by unfold Addr.add; split <;> simp_all
  have e2 : (⟨g, i * 9, none⟩ : Addr).add j = ⟨g, i * 9 + j, none⟩ := by unfold Addr.add; split <;> simp_all
  rw [e1] at this
  rw [e2]
  exact this
theorem RowIn.kids {lo d g cap : Nat} {w : World} {Ts : List Tr} {ok : Nat → Prop} (h : RowIn lo w d g cap Ts) (hg : ok g) (hi : ∀ b, lo ≤ b → b ≠ g → ok b) : CapOk (some ⟨g, 0, none⟩) Ts.length cap ∧
    ∀ i, ∀ hi : i < Ts.length, ∃ b o cs, (some (⟨g, 0, none⟩ : Addr)) = some ⟨b, o, none⟩ ∧ ok b ∧ b < w.heap.size ∧ Row9 w b (o + i * 9) cs ∧ Lies ok w d (.agg cs) (Ts[i]'hi) := by
  obtain ⟨css, h1, h2, hown, h4⟩ := h
  have hlt := (hown.lt g rfl).2
  refine ⟨?_, fun i hi' => ?_⟩
  · rcases hown.2 with ⟨e, _⟩ | ⟨g', cap', cur, hv, _, _, hnc, _⟩
    · cases e
    · have e1 := Value.slice.inj hv
      rw [e1.2.2]
      exact ⟨hnc, fun e => by cases e⟩
  · refine ⟨g, 0, (css[i]'(by omega)).toArray, rfl, hg, hlt, ?_, (h4 i (by omega) hi').weak (fun b _ hb => hi b hb.1 hb.2)⟩
    intro r hr
    have hc9 : (css[i]'(by omega)).length = 9 := (h2 _ (List.getElem_mem _)).1
    have hr9 : r < 9 := by simpa [hc9] using hr
    have hfa := flat_at css (fun c hc => (h2 c hc).1) i r hr9 (by omega)
    have := hown.cells (g := g) rfl (i * 9 + r) ((css[i]'(by omega))[r]'(by omega)) (by rw [hfa, List.getElem?_eq_getElem (by omega)])
    have e1 : (⟨g, 0, none⟩ : Addr).add (i * 9 + r) = ⟨g, 0 + i * 9 + r, none⟩ := by unfold Addr.add; split <;> simp_all
    rw [e1] at this
    rw [this]
    simp
theorem RowIn.keep {lo d g cap : Nat} {w w' : World} {Ts : List Tr} (h : RowIn lo w d g cap Ts) (hk : Kept (fun b => lo ≤ b) w w') (d' : Nat) (hd : d ≤ d') : RowIn lo w' d' g cap Ts := by
  obtain ⟨css, h1, h2, hown, h4⟩ := h
  refine ⟨css, h1, h2, ⟨hown.1, ?_⟩, fun j j1 j2 => ((h4 j j1 j2).keep (hk.weak (fun b _ hb => hb.1)) (fun b _ hb => hb)).more hd⟩
  rcases hown.2 with ⟨e, e2⟩ | ⟨g', cap', cur, hv, hg, hh, r⟩
  · exact .inl ⟨e, e2⟩
  · refine .inr ⟨g', cap', cur, hv, hg, ?_, r⟩
    rw [hk.2 g' hg (Array.getElem?_eq_some_iff.1 hh).1]
    exact hh
/-- A value more. -/
theorem RowIn.more {lo d g cap g' cap' : Nat} {w w' : World} {Ts : List Tr} {css : List (List Value)} {c : List Value} {t : Tr} (h1 : css.length = Ts.length) (h2 : ∀ c, c ∈ css → c.length = 9 ∧ ∀ u, u ∈ c → u.oneCell' = true)
    (h4 : ∀ j, ∀ h1 : j < css.length, ∀ h2 : j < Ts.length, Lies (fun b => lo ≤ b ∧ b ≠ g) w d (.agg (css[j]'h1).toArray) (Ts[j]'h2))
    (hc : c.length = 9 ∧ ∀ u, u ∈ c → u.oneCell' = true) (hl : Lies (fun b => lo ≤ b ∧ b ≠ g) w d (.agg c.toArray) t)
    (hown : w'.ownsRow lo 31 9 (.slice (some ⟨g', 0, none⟩) (Ts.length + 1) cap') (Ts.length + 1) (css.flatten ++ c)) (hgr : w.grownBy w' (some g)) (hgg : g' = g ∨ w.heap.size ≤ g') : RowIn lo w' d g' cap' (Ts ++ [t]) := by
  have hkept : Kept (fun b => lo ≤ b ∧ b ≠ g) w w' := ⟨hgr.size, fun b hb hlb => hgr.block b hlb (fun e => hb.2 (Option.some.inj e))⟩
  have conv : ∀ (v : Value) (t : Tr), Lies (fun b => lo ≤ b ∧ b ≠ g) w d v t → Lies (fun b => lo ≤ b ∧ b ≠ g') w' d v t := by
    intro v t hv
    have h5 : Lies (fun b => (lo ≤ b ∧ b ≠ g) ∧ b < w.heap.size) w d v t := hv.weak (fun b hb hq => ⟨hq, hb⟩)
    exact h5.keep (hkept.weak (fun b _ hb => hb.1)) (fun b hb hq => ⟨hq.1.1, by rcases hgg with rfl | e; exact hq.1.2; omega⟩)
  refine ⟨css ++ [c], by simp [h1], ?_, ?_, ?_⟩
  · intro x hx
    rcases List.mem_append.1 hx with hx | hx
    · exact h2 x hx
    · rw [List.mem_singleton.1 hx]; exact hc
  · rw [List.flatten_append, List.length_append]
    simpa using hown
  · intro j j1 j2
    by_cases e : j < css.length
    · rw [List.getElem_append_left e, List.getElem_append_left (by omega)]
      exact conv _ _ (h4 j e (by omega))
    · have e2 : j = css.length := by simp at j1; omega
      subst e2
      rw [List.getElem_append_right (by omega), List.getElem_append_right (by omega)]
      simp only [h1, Nat.sub_self, List.getElem_cons_zero]
      exact conv _ _ hl
end Go.Proofs.YtppkknmgdahniaaDoor

namespace Go.Proofs.YtppkknmgdahniaaDoor
set_option maxRecDepth 100000
open Go.RowKit
set_option linter.unusedVariables false
set_option linter.unusedSimpArgs false

/-- An item, in memory. -/
def ItemAt (w : World) (a : Option Addr) (i : Nat) : Prop := ∃ (b o : Nat) (k m : Int) (msk : Nat) (nu tx : ByteArray) (ka : Option Addr) (kc : Nat) (ks : List ByteArray), a = some ⟨b, o, none⟩ ∧ b < w.heap.size ∧ msk < 18446744073709551616 ∧
  (w.cell? ⟨b, o + i * 6, none⟩ = some (.int .i64 k) ∧ w.cell? ⟨b, o + i * 6 + 1, none⟩ = some (.int .i64 m) ∧ w.cell? ⟨b, o + i * 6 + 2, none⟩ = some (.int .u64 (msk : Int)) ∧ w.cell? ⟨b, o + i * 6 + 3, none⟩ = some (.string nu) ∧ w.cell? ⟨b, o + i * 6 + 4, none⟩ = some (.string tx) ∧
    w.cell? ⟨b, o + i * 6 + 5, none⟩ = some (.slice ka ks.length kc)) ∧ ks.length ≤ 140737488355328 ∧
  ∀ j, ∀ h : j < ks.length, ∃ b o, ka = some ⟨b, o, none⟩ ∧ True ∧ b < w.heap.size ∧ w.cell? ⟨b, o + j, none⟩ = some (.string (ks[j]'h))
theorem ItemAt.below {w w' : World} {a : Option Addr} {i : Nat} (hB : Below w.heap.size w w') (h : ItemAt w a i) : ItemAt w' a i := by
  obtain ⟨b, o, k, m, msk, nu, tx, ka, kc, ks, h1, h2, h3, ⟨c0, c1, c2, c3, c4, c5⟩, h5, h6⟩ := h
  refine ⟨b, o, k, m, msk, nu, tx, ka, kc, ks, h1, Nat.lt_of_lt_of_le h2 hB.size, h3, ?_, h5, ?_⟩
  · refine ⟨?_, ?_, ?_, ?_, ?_, ?_⟩ <;> (rw [hB.cell (by exact h2)]; assumption)
  · intro j hj
    obtain ⟨b', o', e, _, hb, hc⟩ := h6 j hj
    exact ⟨b', o', e, trivial, Nat.lt_of_lt_of_le hb hB.size, by rw [hB.cell (by exact hb)]; exact hc⟩

theorem and_7 (k : Int) : (BitVec.ofInt 64 k &&& BitVec.ofInt 64 7).toNat < 8 := by
  rw [BitVec.toNat_and]
  exact Nat.lt_of_le_of_lt Nat.and_le_right (by decide)
theorem bits_7 (k : Int) : ∃ q : Nat, q < 8 ∧ bits BinOp.and IntKind.i64 k 7 = (q : Int) := by
  refine ⟨(BitVec.ofInt 64 k &&& BitVec.ofInt 64 7).toNat, and_7 k, ?_⟩
  have h := and_7 k
  show IntKind.i64.wrap ((BitVec.ofInt 64 k &&& BitVec.ofInt 64 7).toNat : Int) = _
  rw [IntKind.wrap_i64]
  omega
theorem bits_71 (k : Int) : ∃ kd : Int, (kd = 1 ∨ kd = 2 ∨ kd = 3 ∨ kd = 4 ∨ kd = 5 ∨ kd = 6 ∨ kd = 7 ∨ kd = 8) ∧ wrap64 (bits BinOp.and IntKind.i64 k 7 + 1) = kd := by
  obtain ⟨q, h1, h2⟩ := bits_7 k
  refine ⟨(q : Int) + 1, by omega, ?_⟩
  rw [h2]
  unfold wrap64
  omega
/-- A number that may be. -/
def NumOk (ng : Bool) (dg : ByteArray) (sc : Int) : Prop := ∃ d, Dm.May d ∧ ng = d.ng ∧ dg = ⟨d.ds.toArray⟩ ∧ sc = (d.sc : Int)
theorem num_seven : NumOk false ⟨#[55]⟩ 0 := ⟨⟨false, [55], 0⟩, ⟨by intro c hc; simp at hc; subst hc; decide, by decide, by decide, .inr ⟨⟨55, [], rfl, by decide⟩, .inl rfl⟩⟩, rfl, rfl, rfl⟩
theorem parse_shape (s : ByteArray) (hs : s.size ≤ 800) : ∃ ng dg sc er, (er = 0 ∧ NumOk ng dg sc ∨ (er = 3 ∨ er = 4)) ∧
    ∀ W, Calls Tryd.prog 35 #[.string s] W fun e w' => e = .returned (.tuple #[.agg #[.bool ng, .string dg, .int .i64 sc], .int .i64 er]) ∧ Below W.heap.size W w' := by
  have C := fun W => rparse_any s W hs
  cases h : Dm.parseL s.data.toList with
  | none =>
    rw [h] at C
    exact ⟨false, ⟨#[]⟩, 0, 4, .inr (.inr rfl), C⟩
  | some r =>
    cases r with
    | none =>
      rw [h] at C
      exact ⟨false, ⟨#[]⟩, 0, 3, .inr (.inl rfl), C⟩
    | some d =>
      rw [h] at C
      exact ⟨d.ng, ⟨d.ds.toArray⟩, (d.sc : Int), 0, .inl ⟨rfl, d, Dm.parse_may h, rfl, rfl, rfl⟩, C⟩
/-- A block that holds so many cells. -/
def Box (W : World) (S : Nat) (c : Array Value) : Prop := (∀ r, W.cell? ⟨S, r, none⟩ = c[r]?) ∧ (∀ r, W.frozen? ⟨S, r, none⟩ = false) ∧ S < W.heap.size
theorem Box.new (w : World) (c : Array Value) (t : TypeId) : Box (w.alloc (.cells c t)) w.heap.size c := by
  refine ⟨fun r => World.cell?_alloc_at _ _ _ _ rfl, fun r => World.frozen?_alloc_at _ _ _ _ rfl, by simp⟩
theorem Box.kept {ok : Nat → Prop} {W W' : World} {S : Nat} {c : Array Value} (h : Box W S c) (hk : Kept ok W W') (ho : ok S) : Box W' S c := by
  obtain ⟨h1, h2, h3⟩ := h
  refine ⟨fun r => by rw [hk.cell ho h3]; exact h1 r, fun r => ?_, Nat.lt_of_lt_of_le h3 hk.1⟩
  rw [← h2 r]
  exact World.frozen?_of_block (a := ⟨S, r, none⟩) (hk.2 S ho h3)
theorem Box.set {W : World} {S : Nat} {c c' : Array Value} (h : Box W S c) (q : Nat) (x : Value) (hq : q < c.size) (hc : ∀ r, c'[r]? = if r = q then some x else c[r]?) : Box (W.setCell ⟨S, q, none⟩ x) S c' := by
  obtain ⟨h1, h2, h3⟩ := h
  refine ⟨fun r => ?_, fun r => ?_, by simpa [World.setCell] using h3⟩
  · rw [hc r]
    by_cases e : r = q
    · subst e
      rw [if_pos rfl]
      exact World.cell?_setCell_same _ _ _ (u := c[r]'hq) (by rw [h1 r, Array.getElem?_eq_getElem hq])
    · rw [if_neg e, World.cell?_setCell_other _ _ _ _ (fun e2 => e (Addr.mk.inj e2).2.1.symm)]
      exact h1 r
  · rw [← h2 r]
    exact World.frozen?_setCell _ _ _ _

/-- What a node of such a tree is, but for its keys. -/
def HdOk (h : Hd) (m : Nat) : Prop := 1 ≤ h.k ∧ h.k ≤ 8 ∧ m ≤ 7 ∧ (h.k ≠ 6 → h.k ≠ 7 → m = 0) ∧ (h.k = 4 → NumOk h.ng h.dg h.sc) ∧ (h.k ≠ 4 → h.ng = false ∧ h.dg = ⟨#[]⟩ ∧ h.sc = 0) ∧ (h.k = 5 → keyOk h.tx) ∧ (h.k ≠ 5 → h.tx = ⟨#[]⟩) ∧ (h.k = 8 → h.cd = 40) ∧ (h.k ≠ 8 → h.cd = 0)
def goodH (h : Hd) (m : Nat) : Prop := HdOk h m ∧ (h.k = 7 → h.ks.length = m ∧ h.ks.Nodup ∧ ∀ x, x ∈ h.ks → keyOk x) ∧ (h.k ≠ 7 → h.ks = [])
/-- A tree of a row. -/
def goodT : Nat → Tr → Prop
  | 0, _ => True
  | n + 1, t => goodH (Tr.hd t) (Tr.kd t).length ∧ ∀ k, k ∈ Tr.kd t → goodT n k
theorem goodT_less : ∀ (n : Nat) (t : Tr), goodT (n + 1) t → goodT n t
  | 0, _, _ => trivial
  | n + 1, t, h => ⟨h.1, fun k hk => goodT_less n k (h.2 k hk)⟩
theorem sizeT_more : ∀ (n : Nat) (t : Tr), sizeT n t ≤ sizeT (n + 1) t
  | 0, t => sizeT_pos 1 t
  | n + 1, t => by
    have := map_sum_le (sizeT n) (sizeT (n + 1)) (sizeT_more n) (Tr.kd t)
    show 1 + _ ≤ 1 + _
    omega
theorem good_ok : ∀ (n : Nat) (t : Tr), goodT n t → okT n t
  | 0, _, _ => trivial
  | n + 1, t, h => by
    obtain ⟨⟨h1, h2, h3⟩, h4⟩ := h
    have hm := h1.2.2.1
    refine ⟨?_, by omega, fun k hk => good_ok n k (h4 k hk)⟩
    by_cases e : (Tr.hd t).k = 7
    · rw [(h2 e).1]; omega
    · rw [h3 e]; simp
/-- A row that is owned, with values that lie where they may. -/
def RowOk (ok : Nat → Prop) (lo : Nat) (w : World) (d g cap : Nat) (Ts : List Tr) : Prop :=
  ∃ css : List (List Value), css.length = Ts.length ∧ (∀ c, c ∈ css → c.length = 9 ∧ ∀ u, u ∈ c → u.oneCell' = true) ∧ w.ownsRow lo 31 9 (.slice (some ⟨g, 0, none⟩) Ts.length cap) Ts.length css.flatten ∧
    ∀ j, ∀ h1 : j < css.length, ∀ h2 : j < Ts.length, Lies ok w d (.agg (css[j]'h1).toArray) (Ts[j]'h2)
theorem owns_keep {ok : Nat → Prop} {lo n g m cap : Nat} {w w' : World} {t : TypeId} {xs : List Value} (h : w.ownsRow lo t n (.slice (some ⟨g, 0, none⟩) m cap) m xs) (hk : Kept ok w w') (hg : ok g) : w'.ownsRow lo t n (.slice (some ⟨g, 0, none⟩) m cap) m xs := by
  refine ⟨h.1, ?_⟩
  rcases h.2 with ⟨e, e2⟩ | ⟨g', cap', cur, hv, hbg, hh, r⟩
  · exact .inl ⟨e, e2⟩
  · obtain ⟨rfl, _, _⟩ := Addr.mk.inj (Option.some.inj (Value.slice.inj hv).1)
    refine .inr ⟨g, cap', cur, hv, hbg, ?_, r⟩
    rw [hk.2 g hg (Array.getElem?_eq_some_iff.1 hh).1]
    exact hh
theorem RowOk.keep {ok ok' ok2 : Nat → Prop} {lo d d' g cap : Nat} {w w' : World} {Ts : List Tr} (h : RowOk ok lo w d g cap Ts) (hk : Kept ok2 w w') (hi : ∀ b, b < w.heap.size → ok b → ok2 b ∧ ok' b) (hg : ok2 g) (hd : d ≤ d') : RowOk ok' lo w' d' g cap Ts := by
  obtain ⟨css, h1, h2, hown, h4⟩ := h
  exact ⟨css, h1, h2, owns_keep hown hk hg, fun j j1 j2 => ((h4 j j1 j2).keep (hk.weak (fun b hb ho => (hi b hb ho).1)) (fun b hb ho => (hi b hb ho).2)).more hd⟩
theorem RowOk.kids {ok ok' : Nat → Prop} {lo d g cap : Nat} {w : World} {Ts : List Tr} (h : RowOk ok lo w d g cap Ts) (hg : ok' g) (hi : ∀ b, b < w.heap.size → ok b → ok' b) : KidsIn ok' (Lies ok' w d) w (.slice (some ⟨g, 0, none⟩) Ts.length cap) Ts := by
  obtain ⟨css, h1, h2, hown, h4⟩ := h
  have hlt := (hown.lt g rfl).2
  refine ⟨_, cap, rfl, ?_, fun i hi' => ?_⟩
  · rcases hown.2 with ⟨e, _⟩ | ⟨g', cap', cur, hv, _, _, hnc, _⟩
    · cases e
    · have e1 := Value.slice.inj hv
      rw [e1.2.2]
      exact ⟨hnc, fun e => by cases e⟩
  · refine ⟨g, 0, (css[i]'(by omega)).toArray, rfl, hg, hlt, ?_, (h4 i (by omega) hi').weak hi⟩
    intro r hr
    have hc9 : (css[i]'(by omega)).length = 9 := (h2 _ (List.getElem_mem _)).1
    have hr9 : r < 9 := by simpa [hc9] using hr
    have hfa := flat_at css (fun c hc => (h2 c hc).1) i r hr9 (by omega)
    have := hown.cells (g := g) rfl (i * 9 + r) ((css[i]'(by omega))[r]'(by omega)) (by rw [hfa, List.getElem?_eq_getElem (by omega)])
    have e1 : (⟨g, 0, none⟩ : Addr).add (i * 9 + r) = ⟨g, 0 + i * 9 + r, none⟩ := by unfold Addr.add; split <;> simp_all
    rw [e1] at this
    rw [this]
    simp
/-- A part of a row, in a row of its own. -/
theorem row_part9 {lo B d g' cap' gE : Nat} {X X1 : World} {Ts' : List Tr} {css' : List (List Value)} (h1 : css'.length = Ts'.length) (h2 : ∀ c, c ∈ css' → c.length = 9 ∧ ∀ u, u ∈ c → u.oneCell' = true)
    (h4 : ∀ j, ∀ h1 : j < css'.length, ∀ h2 : j < Ts'.length, Lies (fun b => lo ≤ b ∧ b < B) X d (.agg (css'[j]'h1).toArray) (Ts'[j]'h2))
    (hown : X1.ownsRow lo 31 9 (.slice (some ⟨g', 0, none⟩) Ts'.length cap') Ts'.length css'.flatten) (hgr : X.grownBy X1 (some gE)) (hE : B ≤ gE) : RowOk (fun b => lo ≤ b ∧ b < B) lo X1 d g' cap' Ts' := by
  have hkept : Kept (fun b => b < B) X X1 := ⟨hgr.size, fun b hb hlb => hgr.block b hlb (fun e => by have := Option.some.inj e; omega)⟩
  exact ⟨css', h1, h2, hown, fun j j1 j2 => (h4 j j1 j2).keep (hkept.weak (fun b _ hb => hb.2)) (fun b _ hb => hb)⟩
theorem RowIn.ok {lo d g cap : Nat} {w : World} {Ts : List Tr} (h : RowIn lo w d g cap Ts) : RowOk (fun b => lo ≤ b ∧ b ≠ g) lo w d g cap Ts := h
end Go.Proofs.YtppkknmgdahniaaDoor
