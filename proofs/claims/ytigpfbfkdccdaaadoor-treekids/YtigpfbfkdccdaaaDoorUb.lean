/- What is proved here: what Norm of the document's own answers does, walked; conditions: as each theorem states. -/
import Derived.Test.YtigpfbfkdccdaaaDoorUa
import Derived.Test.YtigpfbfkdccdaaaDoorRt
import Derived.Lib.IndexBytes
namespace Go.Proofs.YtigpfbfkdccdaaaDoor
open Go.RowKit
set_option linter.unusedVariables false
set_option linter.unusedSimpArgs false

def strLen : Value → Nat | .string s => s.size | _ => 0
theorem ba_ext (s : ByteArray) : s = ⟨s.data.toList.toArray⟩ := by cases s; simp
theorem ba_nil {s : ByteArray} (h : s.data.toList = []) : s = ⟨#[]⟩ := by rw [ba_ext s, h]
theorem nil_list (s : ByteArray) : s.toList.isEmpty = decide (s.data.toList = []) := by
  rw [toList_eq]; cases s.data.toList <;> simp
theorem int48 {c : UInt8} : ((c.toNat : Int) = 48) ↔ c = 48 := by
  constructor
  · intro h; apply UInt8.toNat_inj.1; show c.toNat = 48; omega
  · intro h; rw [h]; rfl
theorem cons_of (s : ByteArray) (h : 0 < s.size) : s.data.toList = s[0] :: s.data.toList.drop 1 := by
  have := List.drop_eq_getElem_cons (l := s.data.toList) (i := 0) (by rw [← size_len]; exact h)
  rwa [List.drop_zero] at this
theorem norm_step {l : List UInt8} {q : ByteArray} {n j : Nat} (h0 : q.size - 1 < q.size) (h48 : (q[q.size - 1].toNat : Int) = 48) (hj : 0 < j) (hjn : j ≤ n) (HQ : Dm.tl l = q.data.toList ++ List.replicate (n - j) 48) :
    Dm.tl l = (q.extract 0 (q.size - 1)).data.toList ++ List.replicate (n - (j - 1)) 48 := by
  have hz := size_len q
  have := Dm.back_step (d := q.data.toList) (k := n - j) (by omega) (by rw [← last_ba q h0 (by omega)]; exact int48.1 h48)
  rw [HQ, this, Go.Lib.extract_data, List.drop_zero, ← hz, show n - j + 1 = n - (j - 1) by omega, Nat.sub_zero]
theorem norm_tail {q : ByteArray} (h0 : q.size - 1 < q.size) (h48 : ¬ (q[q.size - 1].toNat : Int) = 48) : Dm.noTail q.data.toList := by
  have hz := size_len q
  exact Dm.back_stop (by omega) (by rw [← last_ba q h0 (by omega)]; exact fun e => h48 (int48.2 e))
theorem norm_big (ng : Bool) {l : List UInt8} {q : ByteArray} {n j : Nat} (hd : Dm.allD l) (hjn : j ≤ n) (HQ : Dm.tl l = q.data.toList ++ List.replicate (n - j) 48) (hne : q.data.toList ≠ []) (h2 : j = 0 ∨ Dm.noTail q.data.toList) (hb : 60 < q.size ∨ 60 < j) : Dm.Rep (Dm.sgn ng (Dm.num l)) n none := by
  have := Dm.norm_rep (ng := ng) hd hjn HQ hne h2
  unfold Dm.fin at this
  rwa [if_pos (by rw [← size_len]; exact hb)] at this
theorem norm_ok (ng : Bool) {l : List UInt8} {q : ByteArray} {n j : Nat} (hd : Dm.allD l) (hjn : j ≤ n) (HQ : Dm.tl l = q.data.toList ++ List.replicate (n - j) 48) (hne : q.data.toList ≠ []) (h2 : j = 0 ∨ Dm.noTail q.data.toList) (hb : ¬ (60 < q.size ∨ 60 < j)) : Dm.Rep (Dm.sgn ng (Dm.num l)) n (some ⟨ng, q.data.toList, j⟩) := by
  have := Dm.norm_rep (ng := ng) hd hjn HQ hne h2
  unfold Dm.fin at this
  rwa [if_neg (by rw [← size_len]; exact hb)] at this
theorem norm_nil (ng : Bool) {l : List UInt8} {q : ByteArray} {n j : Nat} (HQ : Dm.tl l = q.data.toList ++ List.replicate (n - j) 48) (h : ¬ 0 < q.size) : Dm.Rep (Dm.sgn ng (Dm.num l)) n (some ⟨false, [48], 0⟩) := by
  have e : q.data.toList = [] := by apply List.eq_nil_of_length_eq_zero; rw [← size_len]; omega
  rw [e, List.nil_append] at HQ
  exact Dm.norm_zero n (Dm.tl_zeros HQ)
theorem list_ne {q : ByteArray} (h : (0 : Int) < (q.size : Int)) : q.data.toList ≠ [] := by
  intro e
  have := size_len q; rw [e, List.length_nil] at this; omega
set_option maxRecDepth 100000 in
set_option maxHeartbeats 2000000 in
theorem norm_any (ng : Bool) (s : ByteArray) (n : Nat) (l : List UInt8) (w : World) (hl : s.data.toList = l) (hs : s.size ≤ 200000) (hn : n ≤ 200000) (hd : Dm.allD l) :
    Calls Tryd.prog 69 #[.bool ng, .string s, .int .i64 (n : Int)] w fun e w' => ∃ r, e = .returned (.tuple #[.agg #[.bool (rx r), .string (ry r), .int .i64 (rz r)], .int .i64 (re r)]) ∧ Dm.Rep (Dm.sgn ng (Dm.num l)) n r ∧ Below w.heap.size w w' := by
  have HL := hide hl
  have HD := hide hd
  clear hl hd
  have hO := Own.start w
  go_enter Tryd.func69, Tryd.ntmps69
  go_wp2
  go_loop [1] (fun v => ∃ t : ByteArray, v = .string t ∧ t.size ≤ s.size ∧ Dm.tl t.data.toList = Dm.tl l) (fun v => strLen v)
  case atStart => exact ⟨s, rfl, Nat.le_refl _, by rw [unhide HL]⟩
  case round =>
    obtain ⟨t, rfl, hts, htl⟩ := hrel
    have HT := hide htl
    clear htl
    by_cases h0 : 0 < t.size
    · by_cases h1 : (t[0].toNat : Int) = 48
      · go_wp2
        go_round
        case rel =>
          refine ⟨t.extract 1 t.size, rfl, ?_, ?_⟩
          · rw [size_len, Go.Lib.extract_to_end, List.length_drop, ← size_len]; omega
          · rw [← unhide HT, Go.Lib.extract_to_end]
            conv => rhs; rw [cons_of t h0]
            rw [Dm.tl_step (int48.1 h1)]
        case measure => simp [strLen, ByteArray.size_extract]; omega
      · have hst : t.data.toList = Dm.tl l := by
          rw [← unhide HT]; exact (Dm.tl_stop (.inr ⟨_, _, cons_of t h0, fun e => h1 (int48.2 e)⟩)).symm
        have HS := hide hst
        clear hst HT
        go_wp2
        go_loop [1, 2] (fun v k => ∃ (q : ByteArray) (j : Nat), v = .string q ∧ k = .int .i64 (j : Int) ∧ j ≤ n ∧ q.size ≤ t.size ∧ Dm.tl l = q.data.toList ++ List.replicate (n - j) 48) (fun _ k => (intOf k).toNat)
        case atStart => exact ⟨t, n, rfl, rfl, Nat.le_refl _, Nat.le_refl _, by rw [unhide HS]; simp⟩
        case round =>
          obtain ⟨q, j, rfl, rfl, hj, hqt, hq⟩ := hrel
          have HQ := hide hq
          clear hq HS
          obtain ⟨o1, o2, o3, o4, o5, o6⟩ := hO.facts
          by_cases hq0 : (0 : Int) < (q.size : Int)
          · have he : q.toList.isEmpty = false := by
              rw [nil_list, decide_eq_false_iff_not]; intro e
              have := size_len q; rw [e, List.length_nil] at this; omega
            have hne : Hid (q.data.toList ≠ []) := by
              intro e
              have := size_len q; rw [e, List.length_nil] at this; omega
            by_cases hj0 : (0 : Int) < (j : Int)
            · have hq2 : ((q.size : Int) - 1).toNat = q.size - 1 := by omega
              have hq1 : q.size - 1 < q.size := by omega
              by_cases h48 : (q[q.size - 1].toNat : Int) = 48
              · go_wp2
                go_round
                case rel =>
                  refine ⟨q.extract 0 (q.size - 1), j - 1, rfl, by go_num, by omega, ?_, ?_⟩
                  · rw [ByteArray.size_extract]; omega
                  · exact norm_step hq1 h48 (by omega) hj (unhide HQ)
                case measure => simp only [intOf]; omega
              · have H2 : Hid (j = 0 ∨ Dm.noTail q.data.toList) := .inr (norm_tail hq1 h48)
                by_cases g1 : (60 : Int) < (q.size : Int)
                · go_wp2
                  refine bodyPost_ret (v := tV none) (by simp [results, Tryd.results69, go_sem, tV, rx, ry, rz, re]) rfl ⟨none, rfl, norm_big ng (unhide HD) hj (unhide HQ) (list_ne hq0) (unhide H2) (.inl (by omega)), hO.1⟩
                · by_cases g2 : (60 : Int) < (j : Int)
                  · go_wp2
                    refine bodyPost_ret (v := tV none) (by simp [results, Tryd.results69, go_sem, tV, rx, ry, rz, re]) rfl ⟨none, rfl, norm_big ng (unhide HD) hj (unhide HQ) (list_ne hq0) (unhide H2) (.inr (by omega)), hO.1⟩
                  · go_wp2
                    refine bodyPost_ret (v := tV (some ⟨ng, q.data.toList, j⟩)) (by simp [results, Tryd.results69, go_sem, tV, rx, ry, rz, re]) rfl ⟨_, rfl, norm_ok ng (unhide HD) hj (unhide HQ) (list_ne hq0) (unhide H2) (by omega), (Below.refl _ _).alloc (Nat.le_refl _) _⟩
            · have H2 : Hid (j = 0 ∨ Dm.noTail q.data.toList) := .inl (by omega)
              by_cases g1 : (60 : Int) < (q.size : Int)
              · go_wp2
                refine bodyPost_ret (v := tV none) (by simp [results, Tryd.results69, go_sem, tV, rx, ry, rz, re]) rfl ⟨none, rfl, norm_big ng (unhide HD) hj (unhide HQ) (list_ne hq0) (unhide H2) (.inl (by omega)), hO.1⟩
              · go_wp2
                refine bodyPost_ret (v := tV (some ⟨ng, q.data.toList, j⟩)) (by simp [results, Tryd.results69, go_sem, tV, rx, ry, rz, re]) rfl ⟨_, rfl, norm_ok ng (unhide HD) hj (unhide HQ) (list_ne hq0) (unhide H2) (by omega), (Below.refl _ _).alloc (Nat.le_refl _) _⟩
          · have he : q.toList.isEmpty = true := by
              rw [nil_list, decide_eq_true_eq]
              apply List.eq_nil_of_length_eq_zero; rw [← size_len]; omega
            by_cases hj0 : (0 : Int) < (j : Int)
            all_goals
              go_wp2
              refine bodyPost_ret (v := tV (some ⟨false, [48], 0⟩)) (by simp [results, Tryd.results69, go_sem, tV, rx, ry, rz, re]) rfl ⟨_, rfl, norm_nil ng (unhide HQ) (by omega), (Below.refl _ _).alloc (Nat.le_refl _) _⟩
    · have hst : t.data.toList = Dm.tl l := by
        have e : t.data.toList = [] := by apply List.eq_nil_of_length_eq_zero; rw [← size_len]; omega
        rw [← unhide HT, e]; rfl
      have HS := hide hst
      clear hst HT
      go_wp2
      go_loop [1, 2] (fun v k => v = .string t ∧ k = .int .i64 (n : Int)) (fun _ _ => 0)
      case atStart => exact ⟨rfl, rfl⟩
      case round =>
        obtain ⟨rfl, rfl⟩ := hrel
        obtain ⟨o1, o2, o3, o4, o5, o6⟩ := hO.facts
        have he : t.toList.isEmpty = true := by
          rw [nil_list, decide_eq_true_eq]
          apply List.eq_nil_of_length_eq_zero; rw [← size_len]; omega
        have HQ : Hid (Dm.tl l = t.data.toList ++ List.replicate (n - n) 48) := by
          show Dm.tl l = _
          rw [Nat.sub_self, List.replicate_zero, List.append_nil]; exact (unhide HS).symm
        have hq0 : ¬ (0 : Int) < (t.size : Int) := by omega
        by_cases hj0 : (0 : Int) < (n : Int)
        all_goals
          go_wp2
          refine bodyPost_ret (v := tV (some ⟨false, [48], 0⟩)) (by simp [results, Tryd.results69, go_sem, tV, rx, ry, rz, re]) rfl ⟨_, rfl, norm_nil ng (unhide HQ) (by omega), (Below.refl _ _).alloc (Nat.le_refl _) _⟩
end Go.Proofs.YtigpfbfkdccdaaaDoor
