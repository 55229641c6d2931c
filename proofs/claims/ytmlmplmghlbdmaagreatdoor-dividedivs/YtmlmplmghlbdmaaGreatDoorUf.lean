/- What is proved here: what Add, Turn and Sub of the document's own answers do, walked; conditions: both decimals may be. -/
import Derived.Test.YtmlmplmghlbdmaaGreatDoorUb
import Derived.Test.YtmlmplmghlbdmaaGreatDoorUd
import Derived.Test.YtmlmplmghlbdmaaGreatDoorUe
import Derived.Deep.RegionHeld3
namespace Go.Proofs.YtmlmplmghlbdmaaGreatDoor
open Go.RowKit
set_option linter.unusedVariables false
set_option linter.unusedSimpArgs false

theorem bl_eq : ∀ (x y : List UInt8), Op.bytesLess x y = decide (x < y)
  | [], [] => by simp [Op.bytesLess]
  | [], _ :: _ => by simp [Op.bytesLess]
  | _ :: _, [] => by simp [Op.bytesLess]
  | a :: x, b :: y => by
    rw [Op.bytesLess, bl_eq x y, Bool.eq_iff_iff]
    simp [List.cons_lt_cons_iff]
theorem less_num (x y : List UInt8) (hx : Dm.allD x) (hy : Dm.allD y) (h : x.length = y.length) : Op.bytesLess (⟨x.toArray⟩ : ByteArray).toList (⟨y.toArray⟩ : ByteArray).toList = decide (Dm.num x < Dm.num y) := by
  rw [bl_eq, toList_eq, toList_eq, mk_list, mk_list]
  exact decide_eq_decide.2 (Dm.num_lex x y hx hy h).symm
theorem norm_r (ng : Bool) (L : List UInt8) (S : Nat) (q : Int) (w : World) (hL : L.length ≤ 1000) (hS : S ≤ 1000) (hd : Dm.allD L) (hq : Dm.sgn ng (Dm.num L) = q) :
    Calls Tryz.prog 43 #[.bool ng, .string ⟨L.toArray⟩, .int .i64 (S : Int)] w fun e w' => ∃ r, e = .returned (.tuple #[.agg #[.bool (rx r), .string (ry r), .int .i64 (rz r)], .int .i64 (re r)]) ∧ Dm.Rep q S r ∧ Below w.heap.size w w' := by
  subst hq
  exact norm_any ng ⟨L.toArray⟩ S L w rfl (by rw [mk_size]; omega) (by omega) hd
theorem plus_b (X Y : List UInt8) (n : Nat) (w : World) (hx : Hid (X.length = n)) (hy : Hid (Y.length = n)) (hn : n ≤ 200) (dx : Dm.allD X) (dy : Dm.allD Y) :
    Calls Tryz.prog 40 #[.string ⟨X.toArray⟩, .string ⟨Y.toArray⟩] w fun e w' => ∃ L : List UInt8, e = .returned (.string ⟨L.toArray⟩) ∧ Dm.allD L ∧ L.length ≤ 1000 ∧ Dm.num L = Dm.num X + Dm.num Y ∧ Below w.heap.size w w' := by
  refine (plus_any ⟨X.toArray⟩ ⟨Y.toArray⟩ n w (by rw [mk_size]; exact hx) (by rw [mk_size]; exact hy) (by omega) dx dy).mono ?_
  rintro e w' ⟨L, rfl, h1, h2, h3, h4⟩
  exact ⟨L, rfl, h1, by omega, h3, h4⟩
theorem minus_b (X Y : List UInt8) (n : Nat) (w : World) (hx : Hid (X.length = n)) (hy : Hid (Y.length = n)) (hn : n ≤ 200) (dx : Dm.allD X) (dy : Dm.allD Y) (hle : Dm.num Y ≤ Dm.num X) :
    Calls Tryz.prog 53 #[.string ⟨X.toArray⟩, .string ⟨Y.toArray⟩] w fun e w' => ∃ L : List UInt8, e = .returned (.string ⟨L.toArray⟩) ∧ Dm.allD L ∧ L.length ≤ 1000 ∧ Dm.num L + Dm.num Y = Dm.num X ∧ Below w.heap.size w w' := by
  refine (minus_any ⟨X.toArray⟩ ⟨Y.toArray⟩ n w (by rw [mk_size]; exact hx) (by rw [mk_size]; exact hy) (by omega) dx dy hle).mono ?_
  rintro e w' ⟨L, rfl, h1, h2, h3, h4⟩
  exact ⟨L, rfl, h1, by omega, h3, h4⟩
theorem sgn_sub {na nb : Bool} {L X Y A B : Nat} (hne : (na == nb) = false) (hX : X = A) (hY : Y = B) (h : L + Y = X) : Dm.sgn na L = Dm.sgn na A + Dm.sgn nb B := by
  subst hX hY h
  cases na <;> cases nb <;> simp at hne <;> simp [Dm.sgn] <;> omega
theorem sgn_sub' {na nb : Bool} {L X Y A B : Nat} (hne : (na == nb) = false) (hX : X = A) (hY : Y = B) (h : L + X = Y) : Dm.sgn nb L = Dm.sgn na A + Dm.sgn nb B := by
  subst hX hY h
  cases na <;> cases nb <;> simp at hne <;> simp [Dm.sgn] <;> omega
set_option maxRecDepth 100000 in
set_option maxHeartbeats 2000000 in
theorem radd_same (na : Bool) (a b : List UInt8) (ja jb S n p q : Nat) (w : World) (ha : a.length ≤ 60) (hb : b.length ≤ 60) (da : Dm.allD a) (db : Dm.allD b) (hp : ja + p = S) (hq : jb + q = S) (hS60 : S ≤ 60) (hS : p = 0 ∨ q = 0) (hn1 : a.length + p ≤ n) (hn2 : b.length + q ≤ n) (hn : n = a.length + p ∨ n = b.length + q) :
    Calls Tryz.prog 27 #[.agg #[.bool na, .string ⟨a.toArray⟩, .int .i64 (ja : Int)], .agg #[.bool na, .string ⟨b.toArray⟩, .int .i64 (jb : Int)]] w fun e w' => ∃ r, e = .returned (.tuple #[.agg #[.bool (rx r), .string (ry r), .int .i64 (rz r)], .int .i64 (re r)]) ∧ Dm.Rep (Dm.sgn na (Dm.num a * 10 ^ p + Dm.num b * 10 ^ q)) S r ∧ Below w.heap.size w w' := by
  have ht := Tri.start w (.bool na) (.string ⟨a.toArray⟩) (.int .i64 (ja : Int)) (.bool na) (.string ⟨b.toArray⟩) (.int .i64 (jb : Int)) 23
  obtain ⟨X, hX⟩ : ∃ X, alignL a p n = X := ⟨_, rfl⟩
  obtain ⟨Y, hY⟩ : ∃ Y, alignL b q n = Y := ⟨_, rfl⟩
  have hXl : X.length = n := by rw [← hX]; exact align_len hn1
  have hYl : Y.length = n := by rw [← hY]; exact align_len hn2
  have hXd : Dm.allD X := by rw [← hX]; exact align_allD _ _ da
  have hYd : Dm.allD Y := by rw [← hY]; exact align_allD _ _ db
  have HXN : Hid (Dm.num X = Dm.num a * 10 ^ p) := by show _ = _; rw [← hX]; exact align_num _ _ _
  have HYN : Hid (Dm.num Y = Dm.num b * 10 ^ q) := by show _ = _; rw [← hY]; exact align_num _ _ _
  have HXL := hide hXl
  have HYL := hide hYl
  clear hXl hYl
  go_enter Tryz.func27, Tryz.ntmps27
  go_wp2_with fail
  refine (align_any na na a b ja jb S n p q _ ha hb hp hq hS60 hS hn1 hn2 hn).mono ?_
  rw [hX, hY]
  rintro e w1 ⟨rfl, hb1⟩
  have ht1 := ht.next hb1
  clear hb1 hX hY ht
  obtain ⟨⟨c0, c1, c2⟩, ⟨d0, d1, d2⟩⟩ := ht1.cells
  go_wp2_with fail
  go_region_held3 (fun w' => (w'.cell? ⟨w.heap.size, 0, none⟩ = some (.bool na) ∧ w'.cell? ⟨w.heap.size, 1, none⟩ = some (.string ⟨a.toArray⟩) ∧ w'.cell? ⟨w.heap.size, 2, none⟩ = some (.int .i64 (ja : Int))) ∧ (w'.cell? ⟨w.heap.size + 1, 0, none⟩ = some (.bool na) ∧ w'.cell? ⟨w.heap.size + 1, 1, none⟩ = some (.string ⟨b.toArray⟩) ∧ w'.cell? ⟨w.heap.size + 1, 2, none⟩ = some (.int .i64 (jb : Int)))) (first | exact (Two.store ht5.1 _ _ _).2.2 | exact ht5.cells | exact ht4.cells | exact ht1.cells | exact ht1.drew.cells) (first | (go_at_call 40; refine (plus_b X Y n _ HXL HYL (by omega) hXd hYd).mono ?_; rintro e w4 ⟨L, rfl, hLd, hLl, hnum, hbw⟩; have ht4 := Tri.next (by first | exact ht1 | exact ht1.drew) hbw; clear c0 c1 c2 d0 d1 d2; obtain ⟨⟨c0, c1, c2⟩, ⟨d0, d1, d2⟩⟩ := ht4.cells; have HN := hide hnum; clear hnum hbw) | (go_at_call 43; refine (norm_r na L S _ _ hLl (by omega) hLd rfl).mono ?_; rintro e w5 ⟨r, rfl, hrep, hb5⟩; have ht5 := Tri.next (by first | exact ht4 | exact ht4.drew) hb5; obtain ⟨⟨k0, k1, k2⟩, ⟨f0, f1, f2⟩⟩ := ht5.out; have HREP := hide hrep; clear hrep hb5))
  all_goals go_wp2
  all_goals
    refine bodyPost_ret (v := tV r) ?_ rfl ⟨r, rfl, ?_, ht5.end _ _ _⟩
    · simp [results, Tryz.results27, go_sem, k0, k1, k2, tV]
    · have := unhide HREP
      rw [unhide HN, unhide HXN, unhide HYN] at this
      exact this
set_option maxRecDepth 100000 in
set_option maxHeartbeats 2000000 in
theorem radd_ge (na nb : Bool) (a b : List UInt8) (ja jb S n p q : Nat) (w : World) (ha : a.length ≤ 60) (hb : b.length ≤ 60) (da : Dm.allD a) (db : Dm.allD b) (hp : ja + p = S) (hq : jb + q = S) (hS60 : S ≤ 60) (hS : p = 0 ∨ q = 0) (hn1 : a.length + p ≤ n) (hn2 : b.length + q ≤ n) (hn : n = a.length + p ∨ n = b.length + q) (hne : (na == nb) = false) (hge : Dm.num b * 10 ^ q ≤ Dm.num a * 10 ^ p) :
    Calls Tryz.prog 27 #[.agg #[.bool na, .string ⟨a.toArray⟩, .int .i64 (ja : Int)], .agg #[.bool nb, .string ⟨b.toArray⟩, .int .i64 (jb : Int)]] w fun e w' => ∃ r, e = .returned (.tuple #[.agg #[.bool (rx r), .string (ry r), .int .i64 (rz r)], .int .i64 (re r)]) ∧ Dm.Rep (Dm.sgn na (Dm.num a * 10 ^ p) + Dm.sgn nb (Dm.num b * 10 ^ q)) S r ∧ Below w.heap.size w w' := by
  have ht := Tri.start w (.bool na) (.string ⟨a.toArray⟩) (.int .i64 (ja : Int)) (.bool nb) (.string ⟨b.toArray⟩) (.int .i64 (jb : Int)) 23
  obtain ⟨X, hX⟩ : ∃ X, alignL a p n = X := ⟨_, rfl⟩
  obtain ⟨Y, hY⟩ : ∃ Y, alignL b q n = Y := ⟨_, rfl⟩
  have hXl : X.length = n := by rw [← hX]; exact align_len hn1
  have hYl : Y.length = n := by rw [← hY]; exact align_len hn2
  have hXd : Dm.allD X := by rw [← hX]; exact align_allD _ _ da
  have hYd : Dm.allD Y := by rw [← hY]; exact align_allD _ _ db
  have HXN : Hid (Dm.num X = Dm.num a * 10 ^ p) := by show _ = _; rw [← hX]; exact align_num _ _ _
  have HYN : Hid (Dm.num Y = Dm.num b * 10 ^ q) := by show _ = _; rw [← hY]; exact align_num _ _ _
  have hle : Dm.num Y ≤ Dm.num X := by rw [unhide HXN, unhide HYN]; exact hge
  have hbl := less_num X Y hXd hYd (by omega)
  rw [decide_eq_false (by omega)] at hbl
  have hbl2 : Op.bytesLess X Y = false := by rw [toList_eq, toList_eq] at hbl; exact hbl
  have HGE := hide hge
  clear hge
  have HXL := hide hXl
  have HYL := hide hYl
  clear hXl hYl
  go_enter Tryz.func27, Tryz.ntmps27
  go_wp2_with fail
  refine (align_any na nb a b ja jb S n p q _ ha hb hp hq hS60 hS hn1 hn2 hn).mono ?_
  rw [hX, hY]
  rintro e w1 ⟨rfl, hb1⟩
  have ht1 := ht.next hb1
  clear hb1 hX hY ht
  obtain ⟨⟨c0, c1, c2⟩, ⟨d0, d1, d2⟩⟩ := ht1.cells
  go_wp2_with fail
  go_region_held3 (fun w' => (w'.cell? ⟨w.heap.size, 0, none⟩ = some (.bool na) ∧ w'.cell? ⟨w.heap.size, 1, none⟩ = some (.string ⟨a.toArray⟩) ∧ w'.cell? ⟨w.heap.size, 2, none⟩ = some (.int .i64 (ja : Int))) ∧ (w'.cell? ⟨w.heap.size + 1, 0, none⟩ = some (.bool nb) ∧ w'.cell? ⟨w.heap.size + 1, 1, none⟩ = some (.string ⟨b.toArray⟩) ∧ w'.cell? ⟨w.heap.size + 1, 2, none⟩ = some (.int .i64 (jb : Int)))) (first | exact (Two.store ht5.1 _ _ _).2.2 | exact ht5.cells | exact ht4.cells | exact ht1.cells | exact ht1.drew.cells) (first | (go_at_call 53; refine (minus_b X Y n _ HXL HYL (by omega) hXd hYd hle).mono ?_; rintro e w4 ⟨L, rfl, hLd, hLl, hnum, hbw⟩; have ht4 := Tri.next (by first | exact ht1 | exact ht1.drew) hbw; clear c0 c1 c2 d0 d1 d2; obtain ⟨⟨c0, c1, c2⟩, ⟨d0, d1, d2⟩⟩ := ht4.cells; have HN := hide hnum; clear hnum hbw) | (go_at_call 43; refine (norm_r na L S _ _ hLl (by omega) hLd rfl).mono ?_; rintro e w5 ⟨r, rfl, hrep, hb5⟩; have ht5 := Tri.next (by first | exact ht4 | exact ht4.drew) hb5; obtain ⟨⟨k0, k1, k2⟩, ⟨f0, f1, f2⟩⟩ := ht5.out; have HREP := hide hrep; clear hrep hb5))
  all_goals go_wp2
  all_goals
    refine bodyPost_ret (v := tV r) ?_ rfl ⟨r, rfl, ?_, ht5.end _ _ _⟩
    · simp [results, Tryz.results27, go_sem, k0, k1, k2, tV]
    · have := unhide HREP
      rw [sgn_sub hne (unhide HXN) (unhide HYN) (unhide HN)] at this
      exact this
set_option maxRecDepth 100000 in
set_option maxHeartbeats 2000000 in
theorem radd_lt (na nb : Bool) (a b : List UInt8) (ja jb S n p q : Nat) (w : World) (ha : a.length ≤ 60) (hb : b.length ≤ 60) (da : Dm.allD a) (db : Dm.allD b) (hp : ja + p = S) (hq : jb + q = S) (hS60 : S ≤ 60) (hS : p = 0 ∨ q = 0) (hn1 : a.length + p ≤ n) (hn2 : b.length + q ≤ n) (hn : n = a.length + p ∨ n = b.length + q) (hne : (na == nb) = false) (hlt : Dm.num a * 10 ^ p < Dm.num b * 10 ^ q) :
    Calls Tryz.prog 27 #[.agg #[.bool na, .string ⟨a.toArray⟩, .int .i64 (ja : Int)], .agg #[.bool nb, .string ⟨b.toArray⟩, .int .i64 (jb : Int)]] w fun e w' => ∃ r, e = .returned (.tuple #[.agg #[.bool (rx r), .string (ry r), .int .i64 (rz r)], .int .i64 (re r)]) ∧ Dm.Rep (Dm.sgn na (Dm.num a * 10 ^ p) + Dm.sgn nb (Dm.num b * 10 ^ q)) S r ∧ Below w.heap.size w w' := by
  have ht := Tri.start w (.bool na) (.string ⟨a.toArray⟩) (.int .i64 (ja : Int)) (.bool nb) (.string ⟨b.toArray⟩) (.int .i64 (jb : Int)) 23
  obtain ⟨X, hX⟩ : ∃ X, alignL a p n = X := ⟨_, rfl⟩
  obtain ⟨Y, hY⟩ : ∃ Y, alignL b q n = Y := ⟨_, rfl⟩
  have hXl : X.length = n := by rw [← hX]; exact align_len hn1
  have hYl : Y.length = n := by rw [← hY]; exact align_len hn2
  have hXd : Dm.allD X := by rw [← hX]; exact align_allD _ _ da
  have hYd : Dm.allD Y := by rw [← hY]; exact align_allD _ _ db
  have HXN : Hid (Dm.num X = Dm.num a * 10 ^ p) := by show _ = _; rw [← hX]; exact align_num _ _ _
  have HYN : Hid (Dm.num Y = Dm.num b * 10 ^ q) := by show _ = _; rw [← hY]; exact align_num _ _ _
  have hle : Dm.num X ≤ Dm.num Y := by rw [unhide HXN, unhide HYN]; exact Nat.le_of_lt hlt
  have hbl := less_num X Y hXd hYd (by omega)
  rw [decide_eq_true (by rw [unhide HXN, unhide HYN]; exact hlt)] at hbl
  have hbl2 : Op.bytesLess X Y = true := by rw [toList_eq, toList_eq] at hbl; exact hbl
  have HLT := hide hlt
  clear hlt
  have HXL := hide hXl
  have HYL := hide hYl
  clear hXl hYl
  go_enter Tryz.func27, Tryz.ntmps27
  go_wp2_with fail
  refine (align_any na nb a b ja jb S n p q _ ha hb hp hq hS60 hS hn1 hn2 hn).mono ?_
  rw [hX, hY]
  rintro e w1 ⟨rfl, hb1⟩
  have ht1 := ht.next hb1
  clear hb1 hX hY ht
  obtain ⟨⟨c0, c1, c2⟩, ⟨d0, d1, d2⟩⟩ := ht1.cells
  go_wp2_with fail
  go_region_held3 (fun w' => (w'.cell? ⟨w.heap.size, 0, none⟩ = some (.bool na) ∧ w'.cell? ⟨w.heap.size, 1, none⟩ = some (.string ⟨a.toArray⟩) ∧ w'.cell? ⟨w.heap.size, 2, none⟩ = some (.int .i64 (ja : Int))) ∧ (w'.cell? ⟨w.heap.size + 1, 0, none⟩ = some (.bool nb) ∧ w'.cell? ⟨w.heap.size + 1, 1, none⟩ = some (.string ⟨b.toArray⟩) ∧ w'.cell? ⟨w.heap.size + 1, 2, none⟩ = some (.int .i64 (jb : Int)))) (first | exact (Two.store ht5.1 _ _ _).2.2 | exact ht5.cells | exact ht4.cells | exact ht1.cells | exact ht1.drew.cells) (first | (go_at_call 53; refine (minus_b Y X n _ HYL HXL (by omega) hYd hXd hle).mono ?_; rintro e w4 ⟨L, rfl, hLd, hLl, hnum, hbw⟩; have ht4 := Tri.next (by first | exact ht1 | exact ht1.drew) hbw; clear c0 c1 c2 d0 d1 d2; obtain ⟨⟨c0, c1, c2⟩, ⟨d0, d1, d2⟩⟩ := ht4.cells; have HN := hide hnum; clear hnum hbw) | (go_at_call 43; refine (norm_r nb L S _ _ hLl (by omega) hLd rfl).mono ?_; rintro e w5 ⟨r, rfl, hrep, hb5⟩; have ht5 := Tri.next (by first | exact ht4 | exact ht4.drew) hb5; obtain ⟨⟨k0, k1, k2⟩, ⟨f0, f1, f2⟩⟩ := ht5.out; have HREP := hide hrep; clear hrep hb5))
  all_goals go_wp2
  all_goals
    refine bodyPost_ret (v := tV r) ?_ rfl ⟨r, rfl, ?_, ht5.end _ _ _⟩
    · simp [results, Tryz.results27, go_sem, k0, k1, k2, tV]
    · have := unhide HREP
      rw [sgn_sub' hne (unhide HXN) (unhide HYN) (unhide HN)] at this
      exact this
/-- Add of the document's own answers. -/
theorem radd_r (x : Bool) (y : List UInt8) (z : Nat) (x2 : Bool) (y2 : List UInt8) (z2 : Nat) (w : World) (h : Dm.May ⟨x, y, z⟩) (h2 : Dm.May ⟨x2, y2, z2⟩) :
    Calls Tryz.prog 27 #[.agg #[.bool x, .string ⟨y.toArray⟩, .int .i64 (z : Int)], .agg #[.bool x2, .string ⟨y2.toArray⟩, .int .i64 (z2 : Int)]] w fun e w' => ∃ r, e = .returned (.tuple #[.agg #[.bool (rx r), .string (ry r), .int .i64 (rz r)], .int .i64 (re r)]) ∧ Dm.Rep (Dm.sg ⟨x, y, z⟩ * Dm.p10 z2 + Dm.sg ⟨x2, y2, z2⟩ * Dm.p10 z) (z + z2) r ∧ Below w.heap.size w w' := by
  obtain ⟨l1, l2, l3⟩ := may_len h
  obtain ⟨m1, m2, m3⟩ := may_len h2
  simp only at l1 l2 l3 m1 m2 m3
  obtain ⟨S, hS⟩ : ∃ S : Nat, max (z : Int) (z2 : Int) = (S : Int) := ⟨max z z2, by omega⟩
  obtain ⟨n, hn⟩ : ∃ n : Nat, max (y.length + (S - z)) (y2.length + (S - z2)) = n := ⟨_, rfl⟩
  cases hxx : (x == x2) with
  | true =>
    obtain rfl : x = x2 := beq_iff_eq.1 hxx
    refine (radd_same x y y2 z z2 S n (S - z) (S - z2) w l2 m2 h.1 h2.1 (by omega) (by omega) (by omega) (by omega) (by omega) (by omega) (by omega)).mono ?_
    rintro e w' ⟨r, rfl, hr, hB⟩
    refine ⟨r, rfl, sum_up hS ?_, hB⟩
    have e : Dm.sgn x (Dm.num y * 10 ^ (S - z) + Dm.num y2 * 10 ^ (S - z2)) = Dm.sgn x (Dm.num y * 10 ^ (S - z)) + Dm.sgn x (Dm.num y2 * 10 ^ (S - z2)) := by
      unfold Dm.sgn; cases x <;> simp <;> omega
    rw [e] at hr; exact hr
  | false =>
    by_cases hc : Dm.num y * 10 ^ (S - z) < Dm.num y2 * 10 ^ (S - z2)
    · refine (radd_lt x x2 y y2 z z2 S n (S - z) (S - z2) w l2 m2 h.1 h2.1 (by omega) (by omega) (by omega) (by omega) (by omega) (by omega) (by omega) hxx hc).mono ?_
      rintro e w' ⟨r, rfl, hr, hB⟩
      exact ⟨r, rfl, sum_up hS hr, hB⟩
    · refine (radd_ge x x2 y y2 z z2 S n (S - z) (S - z2) w l2 m2 h.1 h2.1 (by omega) (by omega) (by omega) (by omega) (by omega) (by omega) (by omega) hxx (by omega)).mono ?_
      rintro e w' ⟨r, rfl, hr, hB⟩
      exact ⟨r, rfl, sum_up hS hr, hB⟩
end Go.Proofs.YtmlmplmghlbdmaaGreatDoor
