/- What is proved here: what Parse of package dec does at every text; conditions: the text has at most 100000 bytes. -/
import Derived.Test.YtmlmplmghlbdmaaGreatDoorWg
namespace Go.Proofs.YtmlmplmghlbdmaaGreatDoor
open Go.RowKit
set_option linter.unusedVariables false
set_option linter.unusedSimpArgs false

theorem expL_bd {l : List UInt8} {t : Int} (h : Dm.expL l = some t) : -100 ≤ t ∧ t ≤ 100 := by
  have key : ∀ (b : Bool) (u : List UInt8), expU b u = some t → -100 ≤ t ∧ t ≤ 100 := by
    intro b u hu
    unfold expU at hu
    by_cases h1 : u.length < 1 ∨ 2 < u.length
    · rw [if_pos h1] at hu; cases hu
    · rw [if_neg h1] at hu
      by_cases h2 : u.all Dm.isD = true
      · rw [if_pos h2] at hu
        have hd := Dm.allD_all.1 h2
        have hn := num_take_lt (l := u) (k := 2) (by omega) (by rw [List.take_of_length_le (by omega)]; exact hd)
        rw [List.take_of_length_le (by omega)] at hn
        injection hu with hu
        cases b
        · simp at hu; omega
        · simp at hu; omega
      · rw [if_neg h2] at hu; cases hu
  cases l with
  | nil => cases h; omega
  | cons c t' =>
    by_cases hc : c = 101 ∨ c = 69
    · by_cases h1 : t'.head? = some 45
      · obtain ⟨u, rfl⟩ : ∃ u, t' = 45 :: u := by
          cases t' with
          | nil => simp at h1
          | cons d u => simp at h1; exact ⟨u, by rw [h1]⟩
        rw [expL_minus hc] at h; exact key _ _ h
      · by_cases h2 : t'.head? = some 43
        · obtain ⟨u, rfl⟩ : ∃ u, t' = 43 :: u := by
            cases t' with
            | nil => simp at h2
            | cons d u => simp at h2; exact ⟨u, by rw [h2]⟩
          rw [expL_plus hc] at h; exact key _ _ h
        · rw [expL_bare hc h1 h2] at h; exact key _ _ h
    · rw [expL_no ⟨fun e => hc (.inl e), fun e => hc (.inr e)⟩] at h; cases h

theorem pre_yes {l : List UInt8} {c : UInt8} (hc : c ≠ 0) (h : l.headD 0 = c) : Lib.hasPrefix l [c] = true ∧ Lib.trimPrefix l [c] = l.tail := by
  cases l with
  | nil => simp at h; exact absurd h.symm hc
  | cons d t =>
    simp at h; subst h
    have : Lib.hasPrefix (d :: t) [d] = true := by simp [Lib.hasPrefix, List.isPrefixOf]
    exact ⟨this, by unfold Lib.trimPrefix; rw [if_pos this]; rfl⟩
theorem pre_no {l : List UInt8} {c : UInt8} (h : l.headD 0 ≠ c) : Lib.hasPrefix l [c] = false ∧ Lib.trimPrefix l [c] = l := by
  have : Lib.hasPrefix l [c] = false := by
    cases l with
    | nil => rfl
    | cons d t =>
      simp only [List.headD_cons] at h
      have e : (c == d) = false := beq_eq_false_iff_ne.2 (Ne.symm h)
      simp [Lib.hasPrefix, List.isPrefixOf, e]
  exact ⟨this, by unfold Lib.trimPrefix; rw [this]; rfl⟩
theorem mk_empty (l : List UInt8) : (⟨l.toArray⟩ : ByteArray).toList.isEmpty = l.isEmpty := by rw [toList_eq]
theorem tw_len (l : List UInt8) : (l.takeWhile Dm.isD).length ≤ l.length ∧ (l.dropWhile Dm.isD).length ≤ l.length := by
  have := congrArg List.length (List.takeWhile_append_dropWhile (p := Dm.isD) (l := l))
  rw [List.length_append] at this
  omega

theorem parseU_any (s u : ByteArray) (ng : Bool) (w : World) (hu : Lib.trimPrefix s.data.toList [45] = u.data.toList) (hng : Lib.hasPrefix s.data.toList [45] = ng) (hus : u.size ≤ 100000) :
    Calls Tryz.prog 70 #[.string s] w fun e w' => e = .returned (pV (Dm.parseU ng u.data.toList)) ∧ Below w.heap.size w w' := by
  have hus' : u.size ≤ maxLen := by unfold maxLen; omega
  have hul := size_len u
  have l1 := tw_len u.data.toList
  have hwh := mk_list (u.data.toList.takeWhile Dm.isD)
  have hre := mk_list (u.data.toList.dropWhile Dm.isD)
  have hws := mk_size (u.data.toList.takeWhile Dm.isD)
  have hrs := mk_size (u.data.toList.dropWhile Dm.isD)
  have hwe := mk_empty (u.data.toList.takeWhile Dm.isD)
  generalize hwhE : (⟨(u.data.toList.takeWhile Dm.isD).toArray⟩ : ByteArray) = wh at *
  generalize hreE : (⟨(u.data.toList.dropWhile Dm.isD).toArray⟩ : ByteArray) = re at *
  clear hwhE hreE
  unfold Dm.parseU
  by_cases hb : u.data.toList.takeWhile Dm.isD = [] ∨ (1 < (u.data.toList.takeWhile Dm.isD).length ∧ (u.data.toList.takeWhile Dm.isD).headD 0 = 48)
  · rw [if_pos hb]
    refine parse_p1 s u wh re ng w hu hng hus' hwh.symm hre.symm ?_
    rcases hb with hb | ⟨h1, h2⟩
    · left; rw [hwe, hb]; rfl
    · right
      have g : 1 < wh.size := by omega
      refine ⟨by rw [hwe]; cases hq : u.data.toList.takeWhile Dm.isD with | nil => rw [hq] at h1; simp at h1 | cons => rfl, g, ?_⟩
      have h0 : 0 < wh.data.toList.length := by rw [hwh]; omega
      rw [ba_get wh 0 (by omega), ← head_get _ h0, hwh, h2]; rfl
  · rw [if_neg hb]
    have hw0 : wh.toList.isEmpty = false := by
      rw [hwe]
      cases hq : u.data.toList.takeWhile Dm.isD with
      | nil => exact absurd (.inl hq) hb
      | cons => rfl
    have hw1 : ¬ 1 < wh.size ∨ ∃ h : 1 < wh.size, ¬ (wh[0].toNat : Int) = 48 := by
      by_cases g : 1 < wh.size
      · right
        refine ⟨g, ?_⟩
        have h0 : 0 < wh.data.toList.length := by rw [hwh]; omega
        rw [ba_get wh 0 (by omega), ← head_get _ h0, hwh]
        exact natne 48 (by omega) (fun e => hb (.inr ⟨by omega, e⟩))
      · exact .inl g
    by_cases hp : (u.data.toList.dropWhile Dm.isD).headD 0 = 46
    · rw [if_pos hp]
      obtain ⟨q2, q1⟩ := pre_yes (by decide) hp
      rw [← hre] at q1 q2
      have l2 := tw_len (u.data.toList.dropWhile Dm.isD).tail
      have l3 : (u.data.toList.dropWhile Dm.isD).tail.length ≤ (u.data.toList.dropWhile Dm.isD).length := by simp
      have hbe := mk_list (u.data.toList.dropWhile Dm.isD).tail
      have hbs := mk_size (u.data.toList.dropWhile Dm.isD).tail
      have hpa := mk_list ((u.data.toList.dropWhile Dm.isD).tail.takeWhile Dm.isD)
      have hps := mk_size ((u.data.toList.dropWhile Dm.isD).tail.takeWhile Dm.isD)
      have hpe := mk_empty ((u.data.toList.dropWhile Dm.isD).tail.takeWhile Dm.isD)
      have hr2 := mk_list ((u.data.toList.dropWhile Dm.isD).tail.dropWhile Dm.isD)
      have hr2s := mk_size ((u.data.toList.dropWhile Dm.isD).tail.dropWhile Dm.isD)
      rw [hre] at q1
      generalize hE1 : (⟨(u.data.toList.dropWhile Dm.isD).tail.toArray⟩ : ByteArray) = be at *
      generalize hE2 : (⟨((u.data.toList.dropWhile Dm.isD).tail.takeWhile Dm.isD).toArray⟩ : ByteArray) = pa at *
      generalize hE3 : (⟨((u.data.toList.dropWhile Dm.isD).tail.dropWhile Dm.isD).toArray⟩ : ByteArray) = r2 at *
      clear hE1 hE2 hE3
      have b1 : be.size ≤ maxLen := by unfold maxLen; omega
      have b2 : r2.size ≤ maxLen := by unfold maxLen; omega
      have p1 : Lib.trimPrefix re.data.toList [46] = be.data.toList := by rw [hre, hbe]; exact q1
      have p3 : be.data.toList.takeWhile Dm.isD = pa.data.toList := by rw [hbe, hpa]
      have p4 : be.data.toList.dropWhile Dm.isD = r2.data.toList := by rw [hbe, hr2]
      by_cases hpn : (u.data.toList.dropWhile Dm.isD).tail.takeWhile Dm.isD = []
      · rw [if_pos hpn]
        exact parse_p3e s u wh re be pa r2 ng w hu hng hus' hwh.symm hre.symm hw0 hw1 b1 p1 q2 p3 p4 (by rw [hpe, hpn]; rfl)
      · rw [if_neg hpn]
        have hp0 : pa.toList.isEmpty = false := by
          rw [hpe]
          cases hq : (u.data.toList.dropWhile Dm.isD).tail.takeWhile Dm.isD with
          | nil => exact absurd hq hpn
          | cons => rfl
        cases he : Dm.expL ((u.data.toList.dropWhile Dm.isD).tail.dropWhile Dm.isD) with
        | none => exact parse_p4n s u wh re be pa r2 ng w hu hng hus' hwh.symm hre.symm hw0 hw1 b1 p1 q2 p3 p4 hp0 b2 (by rw [hr2]; exact he)
        | some t =>
          have hb := expL_bd he
          have := parse_p4s s u wh re be pa r2 ng w hu hng hus' hwh.symm hre.symm hw0 hw1 b1 p1 q2 p3 p4 hp0 b2 t (by rw [hr2]; exact he) (by omega) (by omega) (by omega) (by omega)
          rw [hwh, hpa, hps] at this
          exact this
    · rw [if_neg hp]
      obtain ⟨q2, q1⟩ := pre_no hp
      rw [← hre] at q1 q2
      have b2 : re.size ≤ maxLen := by unfold maxLen; omega
      cases he : Dm.expL (u.data.toList.dropWhile Dm.isD) with
      | none => exact parse_p3n s u wh re ng w hu hng hus' hwh.symm hre.symm hw0 hw1 b2 q1 q2 (by rw [hre]; exact he)
      | some t =>
        have hb := expL_bd he
        have := parse_p3s s u wh re ng w hu hng hus' hwh.symm hre.symm hw0 hw1 b2 q1 q2 t (by rw [hre]; exact he) (by omega) (by omega) (by omega)
        rw [hwh] at this
        exact this
theorem parse_any (s : ByteArray) (w : World) (hs : s.size ≤ 100000) :
    Calls Tryz.prog 70 #[.string s] w fun e w' => e = .returned (pV (Dm.parseL s.data.toList)) ∧ Below w.heap.size w w' := by
  have hl := size_len s
  unfold Dm.parseL
  by_cases h : s.data.toList.headD 0 = 45
  · rw [if_pos h]
    obtain ⟨q2, q1⟩ := pre_yes (by decide) h
    have e := mk_list s.data.toList.tail
    have := parseU_any s ⟨s.data.toList.tail.toArray⟩ true w (by rw [q1]) q2 (by rw [mk_size]; simp; omega)
    exact this
  · rw [if_neg h]
    obtain ⟨q2, q1⟩ := pre_no h
    exact parseU_any s s false w q1 q2 hs
end Go.Proofs.YtmlmplmghlbdmaaGreatDoor
