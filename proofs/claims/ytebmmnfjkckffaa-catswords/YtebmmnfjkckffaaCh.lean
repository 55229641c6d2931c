/- What is proved here: what the document's own Words does, walked; conditions: as each theorem states. -/
import Derived.Test.YtebmmnfjkckffaaCe
import Derived.Test.YtebmmnfjkckffaaCp
namespace Go.Proofs.Ytebmmnfjkckffaa
open Go.RowKit Go.Maps
set_option linter.unusedVariables false
set_option linter.unusedSimpArgs false

/-- What is read so far. -/
def WInv (l : Cm.Tx) (i f : Nat) (ws : List Cm.Tx) : Prop :=
  (i ≤ l.length ∧ f ≤ i ∧ ws.length ≤ i ∧ Cm.words l = ws ++ Cm.spl ((l.drop f).take (i - f)) (l.drop i)) ∨ (i = l.length + 1 ∧ ws = Cm.words l)
theorem WInv.start (l : Cm.Tx) : WInv l 0 0 [] := .inl ⟨Nat.zero_le _, Nat.le_refl _, Nat.le_refl _, rfl⟩
theorem cur_len (l : Cm.Tx) {i f : Nat} (h : i ≤ l.length) (hf : f ≤ i) : ((l.drop f).take (i - f)).length = i - f := by
  rw [List.length_take, List.length_drop]; omega
theorem cur_nil (l : Cm.Tx) {i f : Nat} (h : i ≤ l.length) (hf : f ≤ i) : ((l.drop f).take (i - f)) = [] ↔ ¬ f < i := by
  rw [← List.length_eq_zero_iff, cur_len l h hf]; omega
theorem WInv.blank {l : Cm.Tx} {i f : Nat} {ws : List Cm.Tx} (h : WInv l i f ws) (hi : i < l.length) (hc : l[i]'hi = 32) :
    WInv l (i + 1) (i + 1) (if f < i then ws ++ [(l.drop f).take (i - f)] else ws) := by
  obtain ⟨h1, h2, h3, h4⟩ := h.resolve_right (by omega)
  rw [List.drop_eq_getElem_cons hi, hc, Cm.spl_blank] at h4
  have hn := cur_nil l h1 h2
  refine .inl ⟨by omega, Nat.le_refl _, by split <;> (try simp only [List.length_append, List.length_singleton]) <;> omega, ?_⟩
  rw [Nat.sub_self, List.take_zero]
  by_cases g : f < i
  · rw [if_neg (fun e => hn.1 e g)] at h4
    rw [if_pos g, h4, List.append_assoc]
    rfl
  · rw [if_pos (hn.2 g)] at h4
    rw [if_neg g, h4]
theorem WInv.more {l : Cm.Tx} {i f : Nat} {ws : List Cm.Tx} (h : WInv l i f ws) (hi : i < l.length) (hc : l[i]'hi ≠ 32) : WInv l (i + 1) f ws := by
  obtain ⟨h1, h2, h3, h4⟩ := h.resolve_right (by omega)
  rw [List.drop_eq_getElem_cons hi, Cm.spl_more _ _ _ hc] at h4
  refine .inl ⟨by omega, by omega, by omega, ?_⟩
  rw [h4]
  congr 2
  rw [show i + 1 - f = (i - f) + 1 by omega, List.take_succ_eq_append_getElem (by rw [List.length_drop]; omega), List.getElem_drop]
  congr 2
  simp only [show f + (i - f) = i by omega]
theorem WInv.last {l : Cm.Tx} {f : Nat} {ws : List Cm.Tx} (h : WInv l l.length f ws) :
    WInv l (l.length + 1) (l.length + 1) (if f < l.length then ws ++ [(l.drop f).take (l.length - f)] else ws) := by
  obtain ⟨h1, h2, h3, h4⟩ := h.resolve_right (by omega)
  rw [List.drop_length, Cm.spl_nil] at h4
  have hn := cur_nil l h1 h2
  refine .inr ⟨rfl, ?_⟩
  by_cases g : f < l.length
  · rw [if_neg (fun e => hn.1 e g)] at h4
    rw [if_pos g, h4]
  · rw [if_pos (hn.2 g), List.append_nil] at h4
    rw [if_neg g, h4]
theorem ext_list (s : ByteArray) (a b : Nat) : (s.extract a b).data.toList = (s.data.toList.drop a).take (b - a) := by
  rw [ByteArray.data_extract, Array.toList_extract]

set_option maxRecDepth 100000 in
set_option maxHeartbeats 2000000 in
theorem words_any (s : ByteArray) (hs : s.size ≤ 1000000) (w : World) :
    Calls Try.prog 21 #[.string s] w fun e w' => Below w.heap.size w w' ∧ ∃ g cap, e = .returned (.slice (some ⟨g, 0, none⟩) (Cm.words s.data.toList).length cap) ∧ w.heap.size ≤ g ∧ RowAt w' g (Cm.words s.data.toList) := by
  obtain ⟨i0, hi, hz0, hz1, hz2⟩ := info_parts info9
  have hsl : s.data.toList.length = s.size := by rw [Array.length_toList]; rfl
  go_enter Try.func21, Try.ntmps21
  go_wp2
  go_loopw [3, 4, 5] (fun o fr i wr => ∃ (k f g cap n : Nat) (ws : List Cm.Tx), i = .int .i64 (k : Int) ∧ fr = .int .i64 (f : Int) ∧ o = .slice (some ⟨g, 0, none⟩) n cap ∧ ws.length = n ∧ WInv s.data.toList k f ws ∧ w.heap.size ≤ g ∧ wr.ownsRow w.heap.size 9 1 (.slice (some ⟨g, 0, none⟩) n cap) n (ws.map encS) ∧ Below w.heap.size w wr) (fun _ _ i _ => s.size + 1 - (intOf i).toNat)
  case atStart =>
    refine ⟨0, 0, w.heap.size, 0, 0, [], rfl, rfl, rfl, rfl, WInv.start _, Nat.le_refl _, ⟨rfl, .inr ⟨w.heap.size, 0, #[], rfl, Nat.le_refl _, ?_, Nat.le_refl _, by unfold maxLen; omega, rfl, rfl⟩⟩, (Below.refl _ _).alloc (Nat.le_refl _) _⟩
    exact heap_alloc_new w _
  case round =>
    obtain ⟨k, f, g, cap, n, ws, rfl, rfl, rfl, hn, hW, hg, hown, hB⟩ := hrel
    by_cases hle : k ≤ s.size
    · have hnk : n ≤ k ∧ f ≤ k := by
        rcases hW with h | h
        · omega
        · omega
      have hpush : ws.map encS ++ [.string (s.extract f k)] = (ws ++ [(s.data.toList.drop f).take (k - f)]).map encS := by
        rw [List.map_append, List.map_cons, List.map_nil]
        congr 2
        show Value.string _ = Value.string _
        congr 1
        rw [← ext_list s f k, Array.toArray_toList]
      have c1 : (0 : Int) ≤ (f : Int) := by omega
      have c2 : (f : Int) ≤ (k : Int) := by omega
      have c3 : (k : Int) ≤ (s.size : Int) := by omega
      by_cases hend : k = s.size
      · have hW2 := (show WInv s.data.toList s.data.toList.length f ws by rw [hsl, ← hend]; exact hW).last
        rw [hsl, ← hend] at hW2
        have dE : ((k : Int) == (s.size : Int)) = true := beq_iff_eq.2 (by omega)
        by_cases hfk : f < k
        · rw [if_pos hfk] at hW2
          have HW2 := hide hW2
          have dF : decide ((f : Int) < (k : Int)) = true := decide_eq_true (by omega)
          clear hW hW2 hend
          have hnl : n ≤ 1000001 := by omega
          have hst : ∀ W' : World, ∀ g2 cap2, W'.ownsRow w.heap.size 9 1 (.slice (some ⟨g2, 0, none⟩) (n + 1) cap2) (n + 1) (ws.map encS ++ [.string (s.extract f k)]) → W'.ownsRow w.heap.size 9 1 (.slice (some ⟨g2, 0, none⟩) (n + 1) cap2) (n + 1) ((ws ++ [(s.data.toList.drop f).take (k - f)]).map encS) := fun W' g2 cap2 h => by rw [← hpush]; exact h
          clear hpush
          go_wp2_with (at_builtin; refine wpList_append_lies _ rfl _ _ 22 rfl w.heap.size 9 i0 (.string ⟨#[]⟩) 1 16 Try.underlying22 hi hz0 hz1 hz2 rfl (by decide) _ n _ rfl (hown.alloc _) ⟨wr.heap.size, 0, none⟩ 1 1 [.string (s.extract f k)] rfl rfl (cell_one_new wr _ _) (by intro u hu; rw [List.mem_singleton.1 hu]; rfl) (by omega) (by unfold maxLen; omega) (by omega) (Nat.le_trans hB.size (by simp)) (wr.heap.size + 1) (by simp) ?_)
          intro g2 cap2 w1 hown2 hgrow hat hlt2
          replace hown2 := hst _ _ _ hown2
          have hgrow2 : wr.grownBy w1 (some g) := (World.grownBy_alloc wr _ (some g)).trans hgrow
          have hB2 : Below w.heap.size w w1 := hB.grown hgrow2 hB.size (fun j hj => by cases hj; exact hg)
          have hg2 : w.heap.size ≤ g2 := by
            rcases hat with h | h
            · have : g = g2 := by simpa [Value.ownBlock] using h
              omega
            · have := hB.size; omega
          clear hown hgrow hgrow2 hat hst hB hnl
          go_wp2
          go_roundw
          case rel => exact ⟨k + 1, k + 1, g2, cap2, n + 1, ws ++ [(s.data.toList.drop f).take (k - f)], by go_num, by go_num, rfl, by rw [List.length_append, List.length_singleton, hn], unhide HW2, hg2, hown2, hB2⟩
          case measure => simp [intOf]; omega
        · rw [if_neg hfk] at hW2
          have HW2 := hide hW2
          have dF : decide ((f : Int) < (k : Int)) = false := decide_eq_false (by omega)
          clear hW hW2 hend hpush
          go_wp2
          go_roundw
          case rel => exact ⟨k + 1, k + 1, g, cap, n, ws, by go_num, by go_num, rfl, hn, unhide HW2, hg, hown, hB⟩
          case measure => simp [intOf]; omega
      · have hlt : k < s.size := by omega
        have hgk : s.data.toList[k]'(by rw [hsl]; exact hlt) = s[k]'hlt := rfl
        have dE : ((k : Int) == (s.size : Int)) = false := beq_eq_false_iff_ne.2 (by omega)
        obtain ⟨c, hc⟩ : ∃ c, (s[k]'hlt).toNat = c := ⟨_, rfl⟩
        by_cases h32 : c = 32
        · have hb : s[k]'hlt = 32 := UInt8.toNat_inj.1 (by rw [hc, h32]; rfl)
          have hW2 := hW.blank (by rw [hsl]; exact hlt) (hgk.trans hb)
          have dC : ((c : Int) == 32) = true := beq_iff_eq.2 (by omega)
          by_cases hfk : f < k
          · rw [if_pos hfk] at hW2
            have HW2 := hide hW2
            have dF : decide ((f : Int) < (k : Int)) = true := decide_eq_true (by omega)
            clear hW hW2 hend hgk hb h32
            have hnl : n ≤ 1000001 := by omega
            have hst : ∀ W' : World, ∀ g2 cap2, W'.ownsRow w.heap.size 9 1 (.slice (some ⟨g2, 0, none⟩) (n + 1) cap2) (n + 1) (ws.map encS ++ [.string (s.extract f k)]) → W'.ownsRow w.heap.size 9 1 (.slice (some ⟨g2, 0, none⟩) (n + 1) cap2) (n + 1) ((ws ++ [(s.data.toList.drop f).take (k - f)]).map encS) := fun W' g2 cap2 h => by rw [← hpush]; exact h
            clear hpush
            go_wp2_with (at_builtin; refine wpList_append_lies _ rfl _ _ 22 rfl w.heap.size 9 i0 (.string ⟨#[]⟩) 1 16 Try.underlying22 hi hz0 hz1 hz2 rfl (by decide) _ n _ rfl (hown.alloc _) ⟨wr.heap.size, 0, none⟩ 1 1 [.string (s.extract f k)] rfl rfl (cell_one_new wr _ _) (by intro u hu; rw [List.mem_singleton.1 hu]; rfl) (by omega) (by unfold maxLen; omega) (by omega) (Nat.le_trans hB.size (by simp)) (wr.heap.size + 1) (by simp) ?_)
            intro g2 cap2 w1 hown2 hgrow hat hlt2
            replace hown2 := hst _ _ _ hown2
            have hgrow2 : wr.grownBy w1 (some g) := (World.grownBy_alloc wr _ (some g)).trans hgrow
            have hB2 : Below w.heap.size w w1 := hB.grown hgrow2 hB.size (fun j hj => by cases hj; exact hg)
            have hg2 : w.heap.size ≤ g2 := by
              rcases hat with h | h
              · have : g = g2 := by simpa [Value.ownBlock] using h
                omega
              · have := hB.size; omega
            clear hown hgrow hgrow2 hat hst hB hnl
            go_wp2
            go_roundw
            case rel => exact ⟨k + 1, k + 1, g2, cap2, n + 1, ws ++ [(s.data.toList.drop f).take (k - f)], by go_num, by go_num, rfl, by rw [List.length_append, List.length_singleton, hn], unhide HW2, hg2, hown2, hB2⟩
            case measure => simp [intOf]; omega
          · rw [if_neg hfk] at hW2
            have HW2 := hide hW2
            have dF : decide ((f : Int) < (k : Int)) = false := decide_eq_false (by omega)
            clear hW hW2 hend hgk hb h32 hpush
            go_wp2
            go_roundw
            case rel => exact ⟨k + 1, k + 1, g, cap, n, ws, by go_num, by go_num, rfl, hn, unhide HW2, hg, hown, hB⟩
            case measure => simp [intOf]; omega
        · have hW2 := hW.more (by rw [hsl]; exact hlt) (fun e => h32 (by rw [← hc, ← hgk, e]; rfl))
          have HW2 := hide hW2
          have dC : ((c : Int) == 32) = false := beq_eq_false_iff_ne.2 (by omega)
          clear hW hW2 hend hgk h32 hpush
          go_wp2
          go_roundw
          case rel => exact ⟨k + 1, f, g, cap, n, ws, by go_num, rfl, rfl, hn, unhide HW2, hg, hown, hB⟩
          case measure => simp [intOf]; omega
    · have hk : ws = Cm.words s.data.toList := by
        rcases hW with h | h
        · omega
        · exact h.2
      subst hk
      have d1 : decide ((k : Int) ≤ (s.size : Int)) = false := decide_eq_false (by omega)
      clear hW
      go_wp2
      go_ret
      exact ⟨hB, g, cap, by rw [hn]; rfl, hg, row_of hown hn⟩
end Go.Proofs.Ytebmmnfjkckffaa
