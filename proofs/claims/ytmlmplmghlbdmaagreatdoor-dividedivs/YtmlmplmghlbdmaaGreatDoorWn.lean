/- What is proved here: what Add of package dec does with decimals of one sign, walked; conditions: both may be. -/
import Derived.Test.YtmlmplmghlbdmaaGreatDoorWm
namespace Go.Proofs.YtmlmplmghlbdmaaGreatDoor
open Go.RowKit
set_option linter.unusedVariables false
set_option linter.unusedSimpArgs false

set_option maxRecDepth 100000 in
set_option maxHeartbeats 1000000 in
theorem add_same (na : Bool) (a b : ByteArray) (ja jb n : Nat) (w : World) (hma : Dm.mayB na a.data.toList ja = true) (hmb : Dm.mayB na b.data.toList jb = true) (ha : a.size ≤ 60) (hb : b.size ≤ 60) (hn : max (ja : Int) (jb : Int) = (n : Int)) (hn60 : n ≤ 60) (hda : Dm.allD a.data.toList) (hdb : Dm.allD b.data.toList) :
    Calls Tryz.prog 68 #[.agg #[.bool na, .string a, .int .i64 ja], .agg #[.bool na, .string b, .int .i64 jb]] w fun e w' => ∃ r, e = .returned (tV r) ∧ Dm.Rep (Dm.sgn na (Dm.num a.data.toList * 10 ^ (n - ja) + Dm.num b.data.toList * 10 ^ (n - jb))) n r ∧ Below w.heap.size w w' := by
  have ht := Tri.start w (.bool na) (.string a) (.int .i64 (ja : Int)) (.bool na) (.string b) (.int .i64 (jb : Int)) 23
  have hsa : a.size ≤ maxLen := by unfold maxLen; omega
  have hsb : b.size ≤ maxLen := by unfold maxLen; omega
  have hja : ja ≤ n := by omega
  have hjb : jb ≤ n := by omega
  have HMA := hide hma
  have HMB := hide hmb
  clear hma hmb
  have tok1 : True := trivial
  have tok2 : True := trivial
  go_enter Tryz.func68, Tryz.ntmps68
  go_wp2_with (first | (go_at_call 31; have _t := tok1; refine (may_b na a ja true _ hsa (unhide HMA)).mono ?_; rintro e w1 ⟨rfl, hb1⟩; have ht1 := ht.next hb1; clear tok1 _t ht hb1; obtain ⟨⟨c0, c1, c2⟩, ⟨d0, d1, d2⟩⟩ := ht1.cells) | (go_at_call 31; have _t := tok2; refine (may_b na b jb true _ hsb (unhide HMB)).mono ?_; rintro e w2 ⟨rfl, hb2⟩; have ht2 := ht1.next hb2; clear tok2 _t ht1 hb2 c0 c1 c2 d0 d1 d2; obtain ⟨⟨c0, c1, c2⟩, ⟨d0, d1, d2⟩⟩ := ht2.cells))
  have e0 : (-(n : Int)).toNat = 0 := by omega
  have e1 : ((n : Int)).toNat = n := by omega
  have E0 := hide e0
  have E1 := hide e1
  clear e0 e1
  go_region_held3 (fun w' => (w'.cell? ⟨w.heap.size, 0, none⟩ = some (.bool na) ∧ w'.cell? ⟨w.heap.size, 1, none⟩ = some (.string a) ∧ w'.cell? ⟨w.heap.size, 2, none⟩ = some (.int .i64 (ja : Int))) ∧ (w'.cell? ⟨w.heap.size + 1, 0, none⟩ = some (.bool na) ∧ w'.cell? ⟨w.heap.size + 1, 1, none⟩ = some (.string b) ∧ w'.cell? ⟨w.heap.size + 1, 2, none⟩ = some (.int .i64 (jb : Int)))) (first | exact (Two.store ht5.1 _ _ _).2.2 | exact ht5.cells | exact ht4.cells | exact ht2.cells | exact ht2.drew.cells) (first | (go_at_call 93; refine (combine_any na na a b ja jb n 1 _ ha hb hja hjb hn60 hda hdb (.inl rfl) (by omega)).mono ?_; rintro e w4 ⟨g, L, rfl, hL0, hL1, hLd, hrow, hnum, hbw⟩; have ht4 := Tri.next (by first | exact ht2 | exact ht2.drew) hbw; obtain ⟨⟨c0, c1, c2⟩, ⟨d0, d1, d2⟩⟩ := ht4.cells; have HN := hide hnum; clear hnum) | (go_at_call 74; refine (fit_r _ g L.length L _ _ rfl hL0 (by omega) (by omega) (by omega) hLd (by first | exact hrow | exact Row.below hrow (Below.refl _ _).drew)).mono ?_; rintro e w5 ⟨r, rfl, hrep, hb5⟩; have ht5 := Tri.next (by first | exact ht4 | exact ht4.drew) hb5; obtain ⟨⟨k0, k1, k2⟩, ⟨f0, f1, f2⟩⟩ := ht5.out; have HREP := hide hrep; clear hrep))
  all_goals go_wp2
  all_goals
    refine bodyPost_ret (v := tV r) ?_ rfl ⟨r, rfl, ?_, ht5.end _ _ _⟩
    · simp [results, Tryz.results68, go_sem, k0, k1, k2, tV]
    · have := unhide HREP
      have hnn : Dm.num L = Dm.num a.data.toList * 10 ^ (n - ja) + Dm.num b.data.toList * 10 ^ (n - jb) := by have := unhide HN; omega
      rw [unhide E0, unhide E1, Dm.p10_zero, Int.mul_one, hnn] at this
      exact this
end Go.Proofs.YtmlmplmghlbdmaaGreatDoor
