/- What is proved here: what Parse of the document's own answers does, walked; conditions: the text has at most 800 bytes. -/
import Derived.Test.YtppkknmgdahniaaDoorZDd
import Derived.Test.YtppkknmgdahniaaDoorZDc
import Derived.Deep.DeepCutAuto
namespace Go.Proofs.YtppkknmgdahniaaDoor
set_option maxRecDepth 100000
open Go.RowKit
set_option linter.unusedVariables false
set_option linter.unusedSimpArgs false

theorem run_b (s : ByteArray) (a : Int) (k n : Nat) (w : World) (hs : s.size ≤ 100000) (ha : a = (k : Int)) (hk : k ≤ 100001) (h : ((s.data.toList.drop k).takeWhile Dm.isD).length = n) :
    Calls Tryd.prog 69 #[.string s, .int .i64 a] w fun e w' => e = .returned (.int .i64 (n : Int)) ∧ w' = w := by
  subst ha
  exact run_any s k n w hs hk h
theorem norm_z (ng : Bool) (D : List UInt8) (k : Nat) (q : Int) (w : World) (hL : D.length + k ≤ 1000) (hd : Dm.allD D) (hq : Dm.sgn ng (Dm.num (D ++ List.replicate k 48)) = q) :
    Calls Tryd.prog 71 #[.bool ng, .string (⟨D.toArray⟩ ++ ⟨Array.replicate k 48⟩), .int .i64 0] w fun e w' => ∃ r, e = .returned (.tuple #[.agg #[.bool (rx r), .string (ry r), .int .i64 (rz r)], .int .i64 (re r)]) ∧ Dm.Rep q 0 r ∧ Below w.heap.size w w' := by
  rw [str_join]
  exact norm_r ng _ 0 q w (by rw [List.length_append, List.length_replicate]; exact hL) (by omega) (Dm.allD_append.2 ⟨hd, Dm.allD_zeros _⟩) hq
theorem norm_i (ng : Bool) (D : List UInt8) (z : Int) (k : Nat) (q : Int) (w : World) (hL : D.length ≤ 1000) (hk : k ≤ 1000) (hz : z = (k : Int)) (hd : Dm.allD D) (hq : Dm.sgn ng (Dm.num D) = q) :
    Calls Tryd.prog 71 #[.bool ng, .string ⟨D.toArray⟩, .int .i64 z] w fun e w' => ∃ r, e = .returned (.tuple #[.agg #[.bool (rx r), .string (ry r), .int .i64 (rz r)], .int .i64 (re r)]) ∧ Dm.Rep q k r ∧ Below w.heap.size w w' := by
  subst hz
  exact norm_r ng D k q w hL hk hd hq
theorem pV_fit {ng : Bool} {D : List UInt8} {sc : Int} {r : Option Dm.D} {l : List UInt8} (h : Dm.parseL l = some (Dm.fitL ng D sc)) (hr : r = Dm.fitL ng D sc) : Ending.returned (tV r) = .returned (pV (Dm.parseL l)) := by
  rw [h, ← hr]; cases r <;> rfl

set_option maxRecDepth 100000 in
set_option maxHeartbeats 8000000 in
theorem rparse_any (s : ByteArray) (w : World) (hs : s.size ≤ 800) :
    Calls Tryd.prog 35 #[.string s] w fun e w' => e = .returned (pV (Dm.parseL s.data.toList)) ∧ Below w.heap.size w w' := by
  have hO := Own.start w
  obtain ⟨a, ng, hp, ha, ha1, hcase⟩ := parse_start s
  have HP := hide hp
  clear hp
  obtain ⟨n, hn⟩ : ∃ n, ((s.data.toList.drop a).takeWhile Dm.isD).length = n := ⟨_, rfl⟩
  have hnle : a + n ≤ s.size := by have := tw_le (s.data.toList.drop a); rw [hn, List.length_drop, ← size_len] at this; omega
  have HN := hide hn
  clear hn
  go_enter Tryd.func35, Tryd.ntmps35
  go_upto_region 2 with fail
  go_cut [5] from 12 (fun v wx => v = .bool ng ∧ Own w wx)
  case first =>
    as_aux_lemma =>
      rcases hcase with ⟨g, rfl, rfl⟩ | ⟨g, g1, rfl, rfl⟩ | ⟨g, g1, rfl, rfl⟩
      · go_wp2_with fail
        go_meet
        case rel => exact ⟨rfl, hO⟩
      · have gb : ((s[0].toNat : Int) == 45) = false := beq_eq_false_iff_ne.2 g1
        go_wp2_with fail
        go_meet
        case rel => exact ⟨rfl, hO⟩
      · have gb : ((s[0].toNat : Int) == 45) = true := beq_iff_eq.2 g1
        go_wp2_with fail
        go_meet
        case rel => exact ⟨rfl, hO⟩
  case rest =>
    as_aux_lemma =>
      clear hO
      obtain ⟨rfl, hO⟩ := hcut
      go_upto_if 20 with fail
      go_cut [4] from 12 (fun v wx => v = .int .i64 (a : Int) ∧ Own w wx)
      case first =>
        as_aux_lemma =>
          rcases hcase with ⟨g, rfl, rfl⟩ | ⟨g, g1, rfl, rfl⟩ | ⟨g, g1, rfl, rfl⟩
          all_goals
            go_wp2_with fail
            go_meet
            case rel => exact ⟨rfl, hO⟩
      case rest =>
        as_aux_lemma =>
          clear hO hcase
          obtain ⟨rfl, hO⟩ := hcut
          go_wp2_with fail
          refine (run_b s _ a n _ (by omega) rfl (by omega) (unhide HN)).mono ?_
          rintro e w1 ⟨rfl, rfl⟩
          by_cases hn0 : n = 0
          · subst hn0
            have e := pu_none (ng := ng) (unhide HN)
            have HE := hide e
            clear e
            obtain ⟨o1, o2, o3, o4, o5, o6⟩ := hO.facts
            go_wp2_with fail
            refine bodyPost_ret (v := pV none) (by simp [results, Tryd.results35, go_sem, pV, zV, o1, o2, o3]) rfl ⟨by rw [unhide HP, unhide HE], hO.end _ _ _⟩
          · by_cases hz : ¬ 1 < n ∨ (s.data.toList.drop a).headD 0 ≠ 48
            · have HZ := hide hz
              clear hz
              have h0 : 0 < n := by omega
              have hb0 : ((n : Int) == 0) = false := beq_eq_false_iff_ne.2 (by omega)
              have hz1 : ¬ (1 : Int) < (n : Int) ∨ (∃ g : a < s.size, (1 : Int) < (n : Int) ∧ ((s[a].toNat : Int) == 48) = false) := by
                by_cases g : 1 < n
                · have has : a < s.size := by omega
                  refine .inr ⟨has, by omega, ?_⟩
                  rw [beq_eq_false_iff_ne]
                  intro e
                  rcases unhide HZ with q | q
                  · exact q g
                  · apply q
                    rw [headD_at s a has]; exact (intc 48 (by omega)).1 e
                · exact .inl (by omega)
              go_upto_region 6 with fail
              go_cut [35] from 12 (fun v wx => v = .bool false ∧ wx = w1)
              case first =>
                as_aux_lemma =>
                  rcases hz1 with g | ⟨g, g1, g2⟩
                  all_goals
                    go_wp2_with fail
                    go_meet
                    case rel => exact ⟨rfl, rfl⟩
              case rest =>
                as_aux_lemma =>
                  obtain ⟨rfl, rfl⟩ := hcut
                  clear hz1
                  obtain ⟨pt, hpt⟩ := at_case s (a + n) 46 46 rfl
                  go_upto_region 11 with fail
                  go_cut [55] from 12 (fun v wx => v = .bool pt ∧ wx = wc)
                  case first =>
                    as_aux_lemma =>
                      rcases hpt with ⟨rfl, e1, g, g1, g2⟩ | ⟨rfl, e1, g | ⟨g, g1, g2⟩⟩
                      all_goals
                        clear e1
                        go_wp2_with fail
                        go_meet
                        case rel => exact ⟨rfl, rfl⟩
                  case rest =>
                    as_aux_lemma =>
                      obtain ⟨rfl, rfl⟩ := hcut
                      go_upto_if 55 with fail
                      go_cut [7, 4, 8] from 12 (fun v7 v4 v8 wx => ∃ (D : List UInt8) (b c : Nat), v7 = .string ⟨D.toArray⟩ ∧ v4 = .int .i64 (b : Int) ∧ v8 = .int .i64 (c : Int) ∧ b ≤ s.size ∧ c ≤ 800 ∧ D.length ≤ 800 ∧ Hid (Dm.allD D) ∧ Hid (Dm.parseL s.data.toList = (Dm.expL (s.data.toList.drop b)).map fun t => Dm.fitL ng D ((c : Int) - t)) ∧ Own w wx)
                      case first =>
                        as_aux_lemma =>
                          have hd := tw_allD (s.data.toList.drop a) (unhide HN)
                          have HD := hide hd
                          clear hd hb0
                          rcases hpt with ⟨rfl, e1, g, g1, g2⟩ | ⟨rfl, e1, gg⟩
                          · have E1 := hide e1
                            clear e1 g1 g2
                            obtain ⟨k, hk⟩ : ∃ k, ((s.data.toList.drop (a + n + 1)).takeWhile Dm.isD).length = k := ⟨_, rfl⟩
                            have hkle : a + n + 1 + k ≤ s.size := by have := tw_le (s.data.toList.drop (a + n + 1)); rw [hk, List.length_drop, ← size_len] at this; omega
                            have HK := hide hk
                            clear hk
                            go_wp2_with fail
                            refine (run_b s _ (a + n + 1) k _ (by omega) (by omega) (by omega) (unhide HK)).mono ?_
                            rintro e w2 ⟨rfl, rfl⟩
                            by_cases hk0 : k = 0
                            · subst hk0
                              have e := pu_point_none (ng := ng) (unhide HN) h0 (unhide HZ) (by rw [List.drop_drop]; exact unhide E1) (by rw [List.drop_drop, ← Nat.add_assoc]; exact unhide HK)
                              have HE := hide e
                              clear e
                              obtain ⟨o1, o2, o3, o4, o5, o6⟩ := hO.facts
                              go_wp2_with fail
                              refine bodyPost_ret (v := pV none) (by simp [results, Tryd.results35, go_sem, pV, zV, o1, o2, o3]) rfl ⟨by rw [unhide HP, unhide HE], hO.end _ _ _⟩
                            · have e := pu_point (ng := ng) (unhide HN) h0 (unhide HZ) (by rw [List.drop_drop]; exact unhide E1) (by rw [List.drop_drop, ← Nat.add_assoc]; exact unhide HK) (by omega : 0 < k)
                              have HE := hide e
                              clear e
                              have hb1 : ((k : Int) == 0) = false := beq_eq_false_iff_ne.2 (by omega)
                              go_wp2_with fail
                              go_meet
                              case rel =>
                                refine ⟨(s.data.toList.drop a).take n ++ (s.data.toList.drop (a + n + 1)).take k, a + n + 1 + k, k, congrArg Value.string ?_, congrArg (Value.int .i64) (by omega), rfl, hkle, by omega, ?_, hide (Dm.allD_append.2 ⟨unhide HD, tw_allD _ (unhide HK)⟩), hide ?_, hO⟩
                                · rw [ext_take s a (a + n) n rfl, ext_take s (a + n + 1) (a + n + 1 + k) k rfl, mk_join]
                                · rw [List.length_append, List.length_take, List.length_take, List.length_drop, List.length_drop, ← size_len]; omega
                                · rw [unhide HP, unhide HE, List.drop_drop, List.drop_drop]; simp only [Nat.add_assoc]
                          · skip
                            go_wp2_with fail
                            go_meet
                            case rel =>
                              refine ⟨(s.data.toList.drop a).take n, a + n, 0, congrArg Value.string (ext_take s a (a + n) n rfl), rfl, rfl, by omega, by omega, ?_, HD, hide ?_, hO⟩
                              · rw [List.length_take, List.length_drop, ← size_len]; omega
                              · rw [unhide HP, pu_plain (ng := ng) (unhide HN) h0 (unhide HZ), List.drop_drop]
                                rw [List.drop_drop]
                                rcases e1 with e | e
                                · cases e
                                · exact e
                      case rest =>
                        as_aux_lemma =>
                          clear hO HN HZ hnle hpt h0 hb0 HP
                          obtain ⟨D, b, c, rfl, rfl, rfl, hb, hc, hD, HD, HP, hO⟩ := hcut
                          obtain ⟨pe, hpe⟩ : ∃ pe : Bool, (pe = false ∧ ¬ (b : Int) < (s.size : Int)) ∨ (∃ g : b < s.size, (b : Int) < (s.size : Int) ∧ pe = false ∧ ((s[b].toNat : Int) == 101) = false ∧ ((s[b].toNat : Int) == 69) = false) ∨ (∃ g : b < s.size, (b : Int) < (s.size : Int) ∧ pe = true ∧ ((s[b].toNat : Int) == 101) = true) ∨ (∃ g : b < s.size, (b : Int) < (s.size : Int) ∧ pe = true ∧ ((s[b].toNat : Int) == 101) = false ∧ ((s[b].toNat : Int) == 69) = true) := by
                            by_cases g : b < s.size
                            · cases h1 : ((s[b].toNat : Int) == 101) with
                              | true => exact ⟨true, .inr (.inr (.inl ⟨g, by omega, rfl, h1⟩))⟩
                              | false =>
                                cases h2 : ((s[b].toNat : Int) == 69) with
                                | true => exact ⟨true, .inr (.inr (.inr ⟨g, by omega, rfl, h1, h2⟩))⟩
                                | false => exact ⟨false, .inr (.inl ⟨g, by omega, rfl, h1, h2⟩)⟩
                            · exact ⟨false, .inl ⟨rfl, by omega⟩⟩
                          go_upto_region 18 with fail
                          go_cut [92] from 12 (fun v wx => v = .bool pe ∧ wx = wc)
                          case first =>
                            as_aux_lemma =>
                              rcases hpe with ⟨rfl, g⟩ | ⟨g, g1, rfl, g2, g3⟩ | ⟨g, g1, rfl, g2⟩ | ⟨g, g1, rfl, g2, g3⟩
                              all_goals
                                go_wp2_with fail
                                go_meet
                                case rel => exact ⟨rfl, rfl⟩
                          case rest =>
                            as_aux_lemma =>
                              obtain ⟨rfl, rfl⟩ := hcut
                              go_upto_if 92 with fail
                              go_cut [4, 9] from 12 (fun v4 v9 wx => ∃ (b2 : Nat) (t : Int), v4 = .int .i64 (b2 : Int) ∧ v9 = .int .i64 t ∧ b2 ≤ s.size ∧ -100 ≤ t ∧ t ≤ 100 ∧ Hid (b2 = s.size → Dm.expL (s.data.toList.drop b) = some t) ∧ Hid (b2 ≠ s.size → Dm.expL (s.data.toList.drop b) = none) ∧ Own w wx)
                              case first =>
                                as_aux_lemma =>
                                  rcases hpe with ⟨rfl, g⟩ | ⟨g, g1, rfl, g2, g3⟩ | hpe
                                  · go_wp2_with fail
                                    go_meet
                                    case rel => exact ⟨b, 0, rfl, rfl, hb, by omega, by omega, hide (fun e => exp_end s b e), hide (fun e => absurd (by omega) e), hO⟩
                                  · have e := exp_none s b g (beq_eq_false_iff_ne.1 g2) (beq_eq_false_iff_ne.1 g3)
                                    have HE := hide e
                                    clear e g2 g3
                                    go_wp2_with fail
                                    go_meet
                                    case rel => exact ⟨b, 0, rfl, rfl, hb, by omega, by omega, hide (fun e => absurd e (by omega)), hide (fun _ => unhide HE), hO⟩
                                  · obtain ⟨g, g1, rfl, g2⟩ : ∃ g : b < s.size, (b : Int) < (s.size : Int) ∧ pe = true ∧ ((s[b].toNat : Int) = 101 ∨ (s[b].toNat : Int) = 69) := by
                                      rcases hpe with ⟨g, g1, g2, g3⟩ | ⟨g, g1, g2, g3, g4⟩
                                      · exact ⟨g, g1, g2, .inl (beq_iff_eq.1 g3)⟩
                                      · exact ⟨g, g1, g2, .inr (beq_iff_eq.1 g4)⟩
                                    clear hpe
                                    obtain ⟨q, dn, hq, hqs, hcase⟩ := exp_start s b g g2
                                    have HQ := hide hq
                                    clear hq g2
                                    go_upto_region 20 with fail
                                    go_cut [10] from 12 (fun v wx => v = .bool dn ∧ wx = wc)
                                    case first =>
                                      as_aux_lemma =>
                                        rcases hcase with ⟨f, rfl, rfl⟩ | ⟨f, f1, f2, rfl, rfl⟩ | ⟨f, f1, f2, rfl, rfl⟩ | ⟨f, f1, rfl, rfl⟩
                                        · go_wp2_with fail
                                          go_meet
                                          case rel => exact ⟨rfl, rfl⟩
                                        · have fb := beq_eq_false_iff_ne.2 f1
                                          go_wp2_with fail
                                          go_meet
                                          case rel => exact ⟨rfl, rfl⟩
                                        · have fb := beq_eq_false_iff_ne.2 f2
                                          clear f1
                                          go_wp2_with fail
                                          go_meet
                                          case rel => exact ⟨rfl, rfl⟩
                                        · have fb := beq_iff_eq.2 f1
                                          clear f1
                                          go_wp2_with fail
                                          go_meet
                                          case rel => exact ⟨rfl, rfl⟩
                                    case rest =>
                                      as_aux_lemma =>
                                        obtain ⟨rfl, rfl⟩ := hcut
                                        go_upto_region 21 with fail
                                        go_cut [120] from 12 (fun v wx => v = .bool (decide (q = b + 2)) ∧ wx = wc)
                                        case first =>
                                          as_aux_lemma =>
                                            rcases hcase with ⟨f, rfl, rfl⟩ | ⟨f, f1, f2, rfl, rfl⟩ | ⟨f, f1, f2, rfl, rfl⟩ | ⟨f, f1, rfl, rfl⟩
                                            · go_wp2_with fail
                                              go_meet
                                              case rel => exact ⟨congrArg Value.bool (by simp), rfl⟩
                                            · have fb := beq_eq_false_iff_ne.2 f1
                                              have fc := beq_eq_false_iff_ne.2 f2
                                              clear f1 f2
                                              go_wp2_with fail
                                              go_meet
                                              case rel => exact ⟨congrArg Value.bool (by simp), rfl⟩
                                            · have fb := beq_eq_false_iff_ne.2 f2
                                              have fc := beq_iff_eq.2 f1
                                              clear f1 f2
                                              go_wp2_with fail
                                              go_meet
                                              case rel => exact ⟨congrArg Value.bool (by simp), rfl⟩
                                            · have fb := beq_iff_eq.2 f1
                                              clear f1
                                              go_wp2_with fail
                                              go_meet
                                              case rel => exact ⟨congrArg Value.bool (by simp), rfl⟩
                                        case rest =>
                                          as_aux_lemma =>
                                            obtain ⟨rfl, rfl⟩ := hcut
                                            go_upto_if 120 with fail
                                            go_cut [4] from 12 (fun v wx => v = .int .i64 (q : Int) ∧ wx = wc)
                                            case first =>
                                              as_aux_lemma =>
                                                have hq12 : (q = b + 1 ∧ decide (q = b + 2) = false) ∨ (q = b + 2 ∧ decide (q = b + 2) = true) := by
                                                  have : q = b + 1 ∨ q = b + 2 := by
                                                    rcases hcase with ⟨_, e, _⟩ | ⟨_, _, _, e, _⟩ | ⟨_, _, _, e, _⟩ | ⟨_, _, e, _⟩
                                                    · exact .inl e
                                                    · exact .inl e
                                                    · exact .inr e
                                                    · exact .inr e
                                                  rcases this with e | e
                                                  · exact .inl ⟨e, by rw [e]; simp⟩
                                                  · exact .inr ⟨e, by rw [e]; simp⟩
                                                clear hcase
                                                rcases hq12 with ⟨rfl, e'⟩ | ⟨rfl, e'⟩
                                                · skip
                                                  go_wp2_with fail
                                                  go_meet
                                                  case rel => exact ⟨congrArg (Value.int .i64) (by omega), rfl⟩
                                                · skip
                                                  go_wp2_with fail
                                                  go_meet
                                                  case rel => exact ⟨congrArg (Value.int .i64) (by omega), rfl⟩
                                            case rest =>
                                              as_aux_lemma =>
                                                obtain ⟨rfl, rfl⟩ := hcut
                                                clear hcase
                                                obtain ⟨n2, hn2⟩ : ∃ n2, ((s.data.toList.drop q).takeWhile Dm.isD).length = n2 := ⟨_, rfl⟩
                                                have hn2le : q + n2 ≤ s.size := by have := tw_le (s.data.toList.drop q); rw [hn2, List.length_drop, ← size_len] at this; omega
                                                have HN2 := hide hn2
                                                clear hn2
                                                go_wp2_with fail
                                                refine (run_b s _ q n2 _ (by omega) rfl (by omega) (unhide HN2)).mono ?_
                                                rintro e w3 ⟨rfl, rfl⟩
                                                by_cases hbad : n2 < 1 ∨ 2 < n2
                                                · have e := expU_few (dn := dn) (unhide HN2) hbad
                                                  have e2 : Dm.parseL s.data.toList = none := by rw [unhide HP, unhide HQ, e]; rfl
                                                  have HE := hide e2
                                                  clear e e2
                                                  obtain ⟨o1, o2, o3, o4, o5, o6⟩ := hO.facts
                                                  have hbad2 : (n2 : Int) < 1 ∨ 2 < (n2 : Int) := by omega
                                                  clear hbad
                                                  rcases hbad2 with f | f
                                                  all_goals
                                                    go_wp2_with fail
                                                    refine bodyPost_ret (v := pV none) (by simp [results, Tryd.results35, go_sem, pV, zV, o1, o2, o3]) rfl ⟨by rw [unhide HE], hO.end _ _ _⟩
                                                · have hlo : 1 ≤ n2 := by omega
                                                  have hhi : n2 ≤ 2 := by omega
                                                  clear hbad
                                                  have hd2 := tw_allD (s.data.toList.drop q) (unhide HN2)
                                                  have HD2 := hide hd2
                                                  clear hd2
                                                  go_wp2_with fail
                                                  go_loop [11, 9] (fun i u => ∃ k : Nat, k ≤ n2 ∧ i = .int .i64 (k : Int) ∧ u = .int .i64 (Dm.num ((s.data.toList.drop q).take k) : Int)) (fun i _ => n2 - (intOf i).toNat)
                                                  case atStart => exact ⟨0, by omega, rfl, by rw [List.take_zero]; rfl⟩
                                                  case round =>
                                                    obtain ⟨k, hk, rfl, rfl⟩ := hrel
                                                    have hdk : Dm.allD ((s.data.toList.drop q).take k) := by
                                                      have := unhide HD2
                                                      intro x hx
                                                      exact this x (List.mem_of_mem_take (by rw [show (List.take k (List.take n2 (List.drop q s.data.toList))) = (s.data.toList.drop q).take k from by rw [List.take_take, Nat.min_eq_left hk]]; exact hx))
                                                    have hnb : (Dm.num ((s.data.toList.drop q).take k) : Int) < 100 := by have := num_take_lt (l := s.data.toList.drop q) (k := k) (by omega) hdk; omega
                                                    clear hdk
                                                    by_cases hlt : k < n2
                                                    · have hkq : q + k < s.size := by omega
                                                      have hku : k < (s.data.toList.drop q).length := by rw [List.length_drop, ← size_len]; omega
                                                      have hval : s[q + k] = (s.data.toList.drop q)[k] := by rw [ba_get s (q + k) hkq, List.getElem_drop]
                                                      have hbd : Dm.isD s[q + k] = true := by
                                                        rw [hval]
                                                        exact unhide HD2 _ (by rw [List.mem_take_iff_getElem]; exact ⟨k, by omega, rfl⟩)
                                                      have hbd' := Dm.isD_iff.1 hbd
                                                      have h48 : (48 : Int) ≤ (s[q + k].toNat : Int) := by omega
                                                      have h57 : (s[q + k].toNat : Int) ≤ 57 := by omega
                                                      have HV := hide hval
                                                      clear hbd hbd' hval
                                                      go_wp2_with fail
                                                      go_round
                                                      case rel =>
                                                        refine ⟨k + 1, by omega, by go_num, ?_⟩
                                                        rw [num_take_succ hku, ← unhide HV]
                                                        exact congrArg (Value.int .i64) (by unfold Dm.dv; omega)
                                                      case measure => simp only [intOf]; omega
                                                    · have hkn : k = n2 := by omega
                                                      subst hkn
                                                      cases dn with
                                                      | true =>
                                                        go_wp2_with fail
                                                        go_meet
                                                        case rel =>
                                                          refine ⟨q + k, -(Dm.num ((s.data.toList.drop q).take k) : Int), rfl, rfl, hn2le, by omega, by omega, hide (fun e => ?_), hide (fun e => ?_), hO⟩
                                                          · rw [unhide HQ, expU_all (unhide HN2) ⟨hlo, hhi⟩ (by rw [List.length_drop, ← size_len]; omega)]; rfl
                                                          · rw [unhide HQ, expU_more (unhide HN2) (by rw [List.length_drop, ← size_len]; omega)]
                                                      | false =>
                                                        go_wp2_with fail
                                                        go_meet
                                                        case rel =>
                                                          refine ⟨q + k, (Dm.num ((s.data.toList.drop q).take k) : Int), rfl, rfl, hn2le, by omega, by omega, hide (fun e => ?_), hide (fun e => ?_), hO⟩
                                                          · rw [unhide HQ, expU_all (unhide HN2) ⟨hlo, hhi⟩ (by rw [List.length_drop, ← size_len]; omega)]; rfl
                                                          · rw [unhide HQ, expU_more (unhide HN2) (by rw [List.length_drop, ← size_len]; omega)]
                              case rest =>
                                as_aux_lemma =>
                                  clear hO hpe
                                  obtain ⟨b2, t, rfl, rfl, hb2, ht1, ht2, HT1, HT2, hO⟩ := hcut
                                  obtain ⟨o1, o2, o3, o4, o5, o6⟩ := hO.facts
                                  by_cases hbs : b2 = s.size
                                  · have e := unhide HT1 hbs
                                    have hp2 : Dm.parseL s.data.toList = some (Dm.fitL ng D ((c : Int) - t)) := by rw [unhide HP, e]; rfl
                                    have HP2 := hide hp2
                                    clear e hp2 HT1 HT2
                                    have hb3 : ((b2 : Int) == (s.size : Int)) = true := beq_iff_eq.2 (by omega)
                                    clear hbs
                                    by_cases hneg : (c : Int) - t < 0
                                    · have e := sgn_zeros ng D (-((c : Int) - t)).toNat
                                      have HSG := hide e
                                      clear e
                                      go_wp2_with fail
                                      refine (rzeros_b _ (-((c : Int) - t)).toNat _ (by omega) rfl).mono ?_
                                      rintro e w4 ⟨rfl, rfl⟩
                                      go_wp2_with fail
                                      refine (norm_z ng D _ _ _ (by omega) (unhide HD) (unhide HSG)).mono ?_
                                      rintro e w5 ⟨r, rfl, hr, hb5⟩
                                      have hO5 := hO.step hb5
                                      clear o1 o2 o3 o4 o5 o6 hb5
                                      obtain ⟨o1, o2, o3, o4, o5, o6⟩ := hO5.facts
                                      have hf := parse_last (ng := ng) (D := D) (sc := (c : Int) - t) (unhide HD) (by rw [show ((c : Int) - t).toNat = 0 from by omega]; exact hr)
                                      have HF := hide hf
                                      clear hf hr
                                      go_wp2
                                      refine bodyPost_ret (v := tV r) (by simp [results, Tryd.results35, go_sem, tV, o1, o2, o3]) rfl ⟨pV_fit (unhide HP2) (unhide HF), hO5.end _ _ _⟩
                                    · go_wp2_with fail
                                      refine (norm_i ng D _ ((c : Int) - t).toNat _ _ (by omega) (by omega) (by omega) (unhide HD) rfl).mono ?_
                                      rintro e w5 ⟨r, rfl, hr, hb5⟩
                                      have hO5 := hO.step hb5
                                      clear o1 o2 o3 o4 o5 o6 hb5
                                      obtain ⟨o1, o2, o3, o4, o5, o6⟩ := hO5.facts
                                      have hf := parse_last (ng := ng) (D := D) (sc := (c : Int) - t) (unhide HD) (by rw [show (-((c : Int) - t)).toNat = 0 from by omega, Dm.p10_zero, Int.mul_one]; exact hr)
                                      have HF := hide hf
                                      clear hf hr
                                      go_wp2
                                      refine bodyPost_ret (v := tV r) (by simp [results, Tryd.results35, go_sem, tV, o1, o2, o3]) rfl ⟨pV_fit (unhide HP2) (unhide HF), hO5.end _ _ _⟩
                                  · have e := unhide HT2 hbs
                                    have hp2 : Dm.parseL s.data.toList = none := by rw [unhide HP, e]; rfl
                                    have HP2 := hide hp2
                                    clear e hp2 HT1 HT2
                                    have hb3 : ((b2 : Int) == (s.size : Int)) = false := beq_eq_false_iff_ne.2 (by omega)
                                    clear hbs
                                    go_wp2_with fail
                                    refine bodyPost_ret (v := pV none) (by simp [results, Tryd.results35, go_sem, pV, zV, o1, o2, o3]) rfl ⟨by rw [unhide HP2], hO.end _ _ _⟩
            · have hz1 : 1 < n := by omega
              have has : a < s.size := by omega
              have h48 : (s[a].toNat : Int) = 48 := by
                have := headD_at s a has
                rw [← this]
                have : (s.data.toList.drop a).headD 0 = 48 := by
                  apply Classical.byContradiction; intro e; exact hz (.inr e)
                rw [this]; rfl
              have e := pu_nought (ng := ng) (unhide HN) hz1 (by apply Classical.byContradiction; intro e; exact hz (.inr e))
              have HE := hide e
              clear e hz
              obtain ⟨o1, o2, o3, o4, o5, o6⟩ := hO.facts
              go_wp2_with fail
              refine bodyPost_ret (v := pV none) (by simp [results, Tryd.results35, go_sem, pV, zV, o1, o2, o3]) rfl ⟨by rw [unhide HP, unhide HE], hO.end _ _ _⟩
end Go.Proofs.YtppkknmgdahniaaDoor
