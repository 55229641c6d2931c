/- What is proved here: what the law CatsWords does with any row of texts, any choice of them and any other text, walked; conditions: how the row lies; the text is one that can lie in memory. -/
import Derived.Test.YtebmmnfjkckffaaCu
namespace Go.Proofs.Ytebmmnfjkckffaa.Cm
theorem mod_step {m k : Nat} (hb : m.testBit k = true) : m % 2 ^ k ||| 2 ^ k = m % 2 ^ (k + 1) := by rw [mod_bit, if_pos hb]
theorem mod_stay {m k : Nat} (hb : m.testBit k = false) : m % 2 ^ k = m % 2 ^ (k + 1) := by rw [mod_bit, hb]; simp
theorem words_ahead {x : Tx} (h : Word x) (l : Tx) : words (x ++ 32 :: 32 :: l) = x :: words l := by
  rw [words_part, words_one h.2 h.1, words_blank]; rfl
end Go.Proofs.Ytebmmnfjkckffaa.Cm
namespace Go.Proofs.Ytebmmnfjkckffaa
open Go.RowKit Go.Maps
set_option linter.unusedVariables false
set_option linter.unusedSimpArgs false

theorem take_mem (L : List Cm.Tx) (k : Nat) (hk : k < L.length) (s : Cm.Tx) : decide (s ∈ L.take (k + 1)) = (decide (s ∈ L.take k) || decide (L[k]'hk = s)) := by
  rw [List.take_succ_eq_append_getElem hk, Bool.eq_iff_iff]
  simp only [decide_eq_true_eq, List.mem_append, List.mem_singleton, Bool.or_eq_true]
  constructor
  · rintro (h | h)
    · exact .inl h
    · exact .inr h.symm
  · rintro (h | h)
    · exact .inl h
    · exact .inr h.symm

set_option maxRecDepth 1000000 in
set_option maxHeartbeats 4000000 in
theorem words_walk (a : Option Addr) (n c : Nat) (ss : List ByteArray) (x : Nat) (s : ByteArray) (w : World) (hn2 : n ≤ 9223372036854775807) (hx : x < 18446744073709551616) (hs9 : s.size ≤ 140737488355328) (hs : StrsIn w a n ss) :
    Calls Try.prog 6 #[.slice a n c, .int .u64 (x : Int), .string s] w fun e w' => e = .returned (.bool true) ∧ Below w.heap.size w w' := by
  have hsh := Lf_short ss
  have hl70 : (Lf ss).length ≤ 70 := by rw [Lf_len]; omega
  have CF := fun W (h : StrsIn W a n ss) => few_any a n c ss hn2 W h
  have hst : ∀ W, Below w.heap.size w W → StrsIn W a n ss := fun W h => hs.step h
  generalize Lf ss = L at *
  obtain ⟨nn, hnn⟩ : ∃ nn, L.length = nn := ⟨_, rfl⟩
  rw [hnn] at CF hl70
  obtain ⟨q, hq⟩ : ∃ q, Cm.mayE L = q := ⟨_, rfl⟩
  have hl : ∀ x ∈ L, x.length ≤ 1000 := fun x hx => by have := hsh x hx; omega
  have C13 : ∀ g cap W, RowAt W g L → Calls Try.prog 13 #[.slice (some ⟨g, 0, none⟩) nn cap] W fun e w' => e = .returned (.int .i64 (q : Int)) ∧ Below W.heap.size W w' := fun g cap W h => may_any g nn cap L hnn (by omega) hl q hq W h
  go_enter Try.func6, Try.ntmps6
  go_wp2_with fail
  refine (shown_any _).mono ?_
  rintro e W1 ⟨rfl, hB⟩
  go_wp2_with fail
  refine (CF _ (hst _ hB)).mono ?_
  rintro e W4 ⟨bA, g, cap, rfl, hg, hr⟩
  replace hB := hB.trans (bA.mono hB.size)
  clear CF hst hs bA hg
  go_wp2_with fail
  refine (C13 _ _ _ hr).mono ?_
  rintro e W5 ⟨rfl, b5⟩
  replace hr := hr.step b5
  replace hB := hB.trans (b5.mono hB.size)
  clear b5 C13 hn2
  by_cases hq0 : q = 0
  · subst hq0
    obtain ⟨h64, hd, hnm⟩ := may_zero hq
    rw [hnn] at h64
    have CM : ∀ (t : ByteArray) (qq ee : Nat), t.size ≤ 9223372036854775806 → Cm.maskF L 0 (Cm.words t.data.toList) = (qq, ee) → ∀ W, RowAt W g L → Calls Try.prog 17 #[.slice (some ⟨g, 0, none⟩) nn cap, .string t] W fun e w' => e = .returned (.tuple #[.int .u64 (qq : Int), .int .i64 (ee : Int)]) ∧ Below W.heap.size W w' := fun t qq ee ht hm W h => mask_any g nn cap L hnn h64 hl hd t ht qq ee hm W h
    have HCM := hide CM
    have HD := hide hd
    have HNM := hide hnm
    have HN := hide hnn
    have HSH := hide hsh
    have HS9 := hide hs9
    have HX := hide hx
    clear CM hd hnm hnn hsh hl hl70 hq hs9 hx
    go_wp2_with fail
    go_loopw [8, 9, 10, 11, 12] (fun nv bv wv kv iv wr => ∃ (k : Nat) (tn tb : ByteArray), k ≤ nn ∧ iv = .int .i64 (k : Int) ∧ nv = .string tn ∧ bv = .string tb ∧ wv = .int .u64 ((x % 2 ^ k : Nat) : Int) ∧ kv = .bool (decide (s.data.toList ∈ L.take k)) ∧
      tn.data.toList = Cm.flatB (Cm.selK L x k) ∧ Cm.words tb.data.toList = (Cm.selK L x k).reverse ∧ tn.size ≤ k * 103 ∧ tb.size ≤ k * 103 ∧ Below w.heap.size w wr ∧ RowAt wr g L) (fun _ _ _ _ iv _ => nn - (intOf iv).toNat)
    case atStart => exact ⟨0, ⟨#[]⟩, ⟨#[]⟩, by omega, rfl, rfl, rfl, by rw [Nat.pow_zero, Nat.mod_one]; rfl, rfl, rfl, rfl, Nat.le_refl _, Nat.le_refl _, hB, hr⟩
    case round =>
      obtain ⟨k, tn, tb, hk, rfl, rfl, rfl, rfl, rfl, htn, htb, hsn, hsb, hB, hr⟩ := hrel
      have HTN := hide htn
      have HTB := hide htb
      have HSN := hide hsn
      have HSB := hide hsb
      obtain ⟨kb, hkb⟩ : ∃ kb, decide (s.data.toList ∈ L.take k) = kb := ⟨_, rfl⟩
      rw [hkb]
      have HKB := hide hkb
      obtain ⟨wq, hwq⟩ : ∃ wq, x % 2 ^ k = wq := ⟨_, rfl⟩
      rw [hwq]
      have HWQ := hide hwq
      clear htn htb hsn hsb hkb hwq
      by_cases hlt : k < nn
      · have hkL : k < L.length := by have := unhide HN; omega
        obtain ⟨y, hy, hy2, hy3⟩ := txt (L[k]'hkL)
        have hc := hr.2 k hkL
        rw [hy] at hc
        have hyw := Cm.name_word (unhide HNM _ (List.getElem_mem hkL))
        have hyl := unhide HSH _ (List.getElem_mem hkL)
        obtain ⟨bq, hbq⟩ : ∃ bq, decide (L[k]'hkL = s.data.toList) = bq := ⟨_, rfl⟩
        have he := list_eq y s
        rw [hy2, hbq] at he
        have hkn := take_mem L k hkL s.data.toList
        rw [unhide HKB, hbq] at hkn
        have HKN := hide hkn
        have hbt := bit_tmod x k
        cases hb : x.testBit k
        · rw [hb] at hbt
          have hsel := Cm.selK_no (L := L) hb
          have HT1 := hide (show tn.data.toList = Cm.flatB (Cm.selK L x (k + 1)) by rw [hsel]; exact unhide HTN)
          have HT2 := hide (show Cm.words tb.data.toList = (Cm.selK L x (k + 1)).reverse by rw [hsel]; exact unhide HTB)
          have HW2 := hide (show wq = x % 2 ^ (k + 1) by rw [← Cm.mod_stay hb]; exact (unhide HWQ).symm)
          have HZ1 := hide (show tn.size ≤ (k + 1) * 103 by have := unhide HSN; omega)
          have HZ2 := hide (show tb.size ≤ (k + 1) * 103 by have := unhide HSB; omega)
          clear hb hy hy2 hy3 hyw hyl hbq hkn hsel hkL
          cases kb
          all_goals
            go_wp2
            go_roundw
            case rel => exact ⟨k + 1, tn, tb, hlt, by go_num, rfl, rfl, by rw [← unhide HW2], by rw [unhide HKN]; simp, unhide HT1, unhide HT2, unhide HZ1, unhide HZ2, hB, hr⟩
            case measure => simp [intOf]; omega
        · rw [hb] at hbt
          have hk64 : k < 64 := by omega
          have hsel := Cm.selK_yes (L := L) (m := x) hkL hb
          rw [← hy2] at hsel hyw hyl
          have hmk : Cm.maskF L 0 (Cm.words y.data.toList) = (2 ^ k, 0) := by
            rw [Cm.words_one hyw.2 hyw.1, hy2, Cm.maskF_hit _ _ (Cm.idx_some (unhide HD) hkL), Cm.maskF_nil, Nat.zero_or]
          have hyz : y.size ≤ 100 := by rw [← len_size]; exact hyl
          have CY := unhide HCM y _ _ (by omega) hmk
          have hbw := bit_wrap k
          have hbn : Cm.bitN k = 2 ^ k := by unfold Cm.bitN; rw [if_pos hk64]
          have hp1 : 2 ^ k < 18446744073709551616 := by rw [← hbn]; exact Cm.bitN_lt k
          rw [hbn] at hbw
          have hbw2 : IntKind.u64.wrap ((2 : Int) ^ k) = ((2 ^ k : Nat) : Int) := by have := hbw; rwa [Nat.min_eq_left (by omega)] at this
          have hwl : wq < 18446744073709551616 := by rw [← unhide HWQ]; exact Nat.lt_of_le_of_lt (Nat.mod_le _ _) (unhide HX)
          have hor : bits BinOp.or IntKind.u64 (wq : Int) ((2 ^ k : Nat) : Int) = ((x % 2 ^ (k + 1) : Nat) : Int) := by rw [u64_or_nat _ _ hwl hp1, ← Cm.mod_step hb, unhide HWQ]
          obtain ⟨w2, hw2⟩ : ∃ w2, x % 2 ^ (k + 1) = w2 := ⟨_, rfl⟩
          rw [hw2] at hor
          have HW2 := hide hw2
          generalize hpk : 2 ^ k = pk at *
          have HT1 := hide (show (tn ++ ⟨#[32]⟩ ++ y).data.toList = Cm.flatB (Cm.selK L x (k + 1)) by rw [hsel, Cm.flatB_snoc, app_data, app_data, unhide HTN, List.append_assoc]; rfl)
          have HT2 := hide (show Cm.words (y ++ ⟨#[32, 32]⟩ ++ tb).data.toList = (Cm.selK L x (k + 1)).reverse by
            rw [hsel, List.reverse_append, app_data, app_data, List.append_assoc]
            show Cm.words (y.data.toList ++ 32 :: 32 :: tb.data.toList) = _
            rw [Cm.words_ahead hyw, unhide HTB]
            rfl)
          have HZ1 := hide (show (tn ++ ⟨#[32]⟩ ++ y).size ≤ (k + 1) * 103 by rw [app_size, app_size]; have := unhide HSN; show tn.size + 1 + y.size ≤ _; omega)
          have HZ2 := hide (show (y ++ ⟨#[32, 32]⟩ ++ tb).size ≤ (k + 1) * 103 by rw [app_size, app_size]; have := unhide HSB; show y.size + 2 + tb.size ≤ _; omega)
          have hs1 : tn.size ≤ 100000 := by have := unhide HSN; omega
          have hs2 : tb.size ≤ 100000 := by have := unhide HSB; omega
          have j1 : ¬ (9223372036854775807 < tn.size + 1) := by omega
          have j2 : ¬ (9223372036854775807 < tn.size + 1 + y.size) := by omega
          have j3 : ¬ (9223372036854775807 < y.size + 2) := by omega
          have j4 : ¬ (9223372036854775807 < y.size + 2 + tb.size) := by omega
          clear hb hy hy2 hy3 hyw hyl hbq hkn hsel hmk hbn hp1 hwl hw2 hpk hkL hyz hs1 hs2
          cases kb
          all_goals
            go_wp2_with fail
            refine (CY _ hr).mono ?_
            rintro e W6 ⟨rfl, b6⟩
            have hB2 := hB.trans (b6.mono hB.size)
            have hr2 := hr.step b6
            have hc2 := (b6.cell (p := ⟨g, k, none⟩) hr.1).trans hc
            clear b6 hB hr hc CY
            go_wp2
            go_roundw
            case rel => exact ⟨k + 1, tn ++ ⟨#[32]⟩ ++ y, y ++ ⟨#[32, 32]⟩ ++ tb, hlt, by go_num, rfl, rfl, by rw [unhide HW2], by rw [unhide HKN]; simp, unhide HT1, unhide HT2, unhide HZ1, unhide HZ2, hB2, hr2⟩
            case measure => simp [intOf]; omega
      · have hkn : k = nn := by omega
        have hLn : L.length = nn := unhide HN
        have hms := Cm.maskF_sel (unhide HD) x nn (by omega)
        have hmem : ∀ z ∈ Cm.selK L x nn, z ∈ L := fun z hz => Cm.selK_mem (by omega) hz
        have hwf : Cm.words (Cm.flatB (Cm.selK L x nn)) = Cm.selK L x nn := Cm.words_flat (fun z hz => Cm.name_word (unhide HNM _ (hmem z hz)))
        have htn := unhide HTN
        have htb := unhide HTB
        have hwq := unhide HWQ
        rw [hkn] at htn htb hwq
        have hs1 : tn.size ≤ 100000 := by have := unhide HSN; omega
        have hs2 : tb.size ≤ 100000 := by have := unhide HSB; omega
        have CA := unhide HCM tn wq 0 (by omega) (by rw [htn, hwf, hms, hwq])
        have CB := unhide HCM tb wq 0 (by omega) (by rw [htb, Cm.maskF_rev (unhide HD) _ hmem, hms, hwq])
        have hlast : (tn ++ ⟨#[32]⟩ ++ s).data.toList = tn.data.toList ++ 32 :: s.data.toList := by rw [app_data, app_data, List.append_assoc]; rfl
        obtain ⟨⟨qg, eg⟩, hqg⟩ : ∃ p, Cm.maskF L 0 (Cm.words (tn ++ ⟨#[32]⟩ ++ s).data.toList) = p := ⟨_, rfl⟩
        have hs9 := unhide HS9
        have CC := unhide HCM (tn ++ ⟨#[32]⟩ ++ s) qg eg (by rw [app_size, app_size]; show tn.size + 1 + s.size ≤ _; omega) hqg
        obtain ⟨bn, hbn⟩ : ∃ bn, Cm.nameB s.data.toList = bn := ⟨_, rfl⟩
        have CN : ∀ W, Calls Try.prog 10 #[.string s] W fun e w' => e = .returned (.bool bn) ∧ w' = W := fun W => hbn ▸ mayName_any s W (by omega)
        have hkb := unhide HKB
        rw [hkn, List.take_of_length_le (by omega)] at hkb
        have hout : kb = false → bn = true → eg = 20 := fun h1 h2 => by
          rw [h1] at hkb
          rw [h2] at hbn
          have hns := of_decide_eq_false hkb
          have hsw := Cm.name_word hbn
          rw [hlast, Cm.words_part, htn, hwf, Cm.words_one hsw.2 hsw.1, (Cm.maskF_app _ _ 0 hmem (unhide HD)).1, Cm.maskF_miss _ _ (Cm.idx_none hns)] at hqg
          exact (congrArg Prod.snd hqg).symm
        have j1 : ¬ (9223372036854775807 < tn.size + 1) := by omega
        have j2 : ¬ (9223372036854775807 < tn.size + 1 + s.size) := by omega
        clear hkn hLn hms hmem hwf htn htb hwq hs1 hs2 hlast hqg hs9 hbn hkb HTN HTB HWQ HSN HSB HKB HCM HD HNM HN HSH HS9 HX
        have fin : ∀ (kb bn : Bool), (kb = false → bn = true → eg = 20) → (kb = true ∨ (kb = false ∧ bn = false) ∨ (kb = false ∧ bn = true ∧ eg = 20)) := fun kb bn h => by
          cases kb
          · cases bn
            · exact .inr (.inl ⟨rfl, rfl⟩)
            · exact .inr (.inr ⟨rfl, rfl, h rfl rfl⟩)
          · exact .inl rfl
        rcases fin kb bn hout with rfl | ⟨rfl, rfl⟩ | ⟨rfl, rfl, rfl⟩
        all_goals
          clear hout fin
          go_wp2_with fail
          refine (CA _ hr).mono ?_
          rintro e W6 ⟨rfl, b6⟩
          have hB2 := hB.trans (b6.mono hB.size)
          have hr2 := hr.step b6
          clear b6 hB hr CA
          go_wp2_with fail
          refine (CB _ hr2).mono ?_
          rintro e W7 ⟨rfl, b6⟩
          have hB3 := hB2.trans (b6.mono hB2.size)
          have hr3 := hr2.step b6
          clear b6 hB2 hr2 CB
          go_wp2_with fail
          refine (CC _ hr3).mono ?_
          rintro e W8 ⟨rfl, b6⟩
          have hB4 := hB3.trans (b6.mono hB3.size)
          clear b6 hB3 hr3 CC
          go_wp2_with (go_at_call 10; refine (CN _).mono ?_; rintro e w9 ⟨rfl, rfl⟩)
          go_ret
          exact ⟨rfl, hB4⟩
  · have dq : ((q : Int) == 0) = false := beq_eq_false_iff_ne.2 (by omega)
    clear hq hnn hsh hl hl70 hq0 hr
    go_wp2
    go_ret
    exact ⟨rfl, hB⟩
end Go.Proofs.Ytebmmnfjkckffaa
