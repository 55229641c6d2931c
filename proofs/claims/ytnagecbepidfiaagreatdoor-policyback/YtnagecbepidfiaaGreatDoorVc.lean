/- What is proved here: what the functions of package policy that go through a text line by line do, walked; conditions: as each theorem states. -/
import Derived.Test.YtnagecbepidfiaaGreatDoorVb
import Derived.Test.YtnagecbepidfiaaGreatDoorVs
import Derived.Test.YtnagecbepidfiaaGreatDoorBi
import Derived.OwnWalk
namespace Go.Proofs.YtnagecbepidfiaaGreatDoor.Pol
set_option maxRecDepth 100000
open Go.RowKit Go.Proofs.YtnagecbepidfiaaGreatDoor.Nc Go.Proofs.YtnagecbepidfiaaGreatDoor.Np Go.Proofs.YtnagecbepidfiaaGreatDoor.Nq
set_option linter.unusedVariables false
set_option linter.unusedSimpArgs false

theorem cutMiss_liteN (s : ByteArray) (w : World) (h : (10 : UInt8) ∉ s.data.toList) :
    Calls Tryz.prog 125 #[.string s, .string ⟨#[10]⟩] w fun e w' => e = .returned (.tuple #[.string s, .string ⟨#[]⟩, .bool false]) ∧ ∃ n, w' = w.drewN n := by
  have C := idx_10 s (-1) (ib_miss h)
  clear h
  go_enter Tryz.func125, Tryz.ntmps125
  go_wp2_with fail
  refine (C _).mono ?_
  rintro e w ⟨rfl, rfl⟩
  go_wp2
  go_ret3
  exact ⟨rfl, 0, rfl⟩
theorem cut_partsN {s a r : ByteArray} (h : s.data.toList = a.data.toList ++ 10 :: r.data.toList) : s.size = a.size + 1 + r.size ∧ s.extract 0 a.size = a ∧ s.extract (a.size + 1) s.size = r := by
  have h1 : s.size = a.size + 1 + r.size := by
    have := congrArg List.length h
    rw [List.length_append, List.length_cons, Array.length_toList, Array.length_toList, Array.length_toList] at this
    show s.data.size = a.data.size + 1 + r.data.size
    omega
  have ext : ∀ {x y : ByteArray}, x.data.toList = y.data.toList → x = y := by
    intro x y e
    cases x; cases y
    congr 1
    exact Array.toList_inj.1 e
  refine ⟨h1, ext ?_, ext ?_⟩
  · rw [Lib.extract_data, h, List.drop_zero, Nat.sub_zero, List.take_left' (by rw [Array.length_toList]; rfl)]
  · rw [Lib.extract_data, h, show a.size + 1 = a.data.toList.length + 1 by rw [Array.length_toList]; rfl, List.drop_length_add_append, List.drop_succ_cons, List.drop_zero, List.take_of_length_le]
    rw [Array.length_toList, Array.length_toList]
    show r.data.size ≤ s.size - (a.size + 1)
    have : r.size = r.data.size := rfl
    omega
theorem cutHit_liteN (s a r : ByteArray) (w : World) (hs : s.size ≤ 9223372036854775806) (h : s.data.toList = a.data.toList ++ 10 :: r.data.toList) (ha : (10 : UInt8) ∉ a.data.toList) :
    Calls Tryz.prog 125 #[.string s, .string ⟨#[10]⟩] w fun e w' => e = .returned (.tuple #[.string a, .string r, .bool true]) ∧ ∃ n, w' = w.drewN n := by
  obtain ⟨h1, h2, h3⟩ := cut_partsN h
  have C := idx_10 s (a.size : Int) (by rw [h, ib_hit ha, Array.length_toList]; rfl)
  obtain ⟨n, hn⟩ : ∃ n, a.size = n := ⟨_, rfl⟩
  rw [hn] at h1 h2 h3 C
  have c1 : (0 : Int) ≤ (n : Int) := by omega
  have c2 : (n : Int) ≤ (s.size : Int) := by omega
  have c3 : (0 : Int) ≤ (n : Int) + 1 := by omega
  have c4 : (n : Int) + 1 ≤ (s.size : Int) := by omega
  clear h ha hn h1
  go_enter Tryz.func125, Tryz.ntmps125
  go_wp2_with fail
  refine (C _).mono ?_
  rintro e w ⟨rfl, rfl⟩
  go_wp2_with fail
  go_quiet (fail)
  go_wp2
  go_ret3
  exact ⟨rfl, _, rfl⟩
theorem cutMissN (s : ByteArray) (w : World) (h : (10 : UInt8) ∉ s.data.toList) :
    Calls Tryz.prog 96 #[.string s, .string ⟨#[10]⟩] w fun e w' => e = .returned (.tuple #[.string s, .string ⟨#[]⟩, .bool false]) ∧ ∃ n, w' = w.drewN n := by
  have C := fun W => cutMiss_liteN s W h
  go_enter Tryz.func96, Tryz.ntmps96
  go_wp2_with fail
  refine (C _).mono ?_
  rintro e w ⟨rfl, n, rfl⟩
  go_wp2
  go_ret3
  exact ⟨rfl, n, rfl⟩
theorem cutHitN (s a r : ByteArray) (w : World) (hs : s.size ≤ 9223372036854775806) (h : s.data.toList = a.data.toList ++ 10 :: r.data.toList) (ha : (10 : UInt8) ∉ a.data.toList) :
    Calls Tryz.prog 96 #[.string s, .string ⟨#[10]⟩] w fun e w' => e = .returned (.tuple #[.string a, .string r, .bool true]) ∧ ∃ n, w' = w.drewN n := by
  have C := fun W => cutHit_liteN s a r W hs h ha
  clear h
  go_enter Tryz.func96, Tryz.ntmps96
  go_wp2_with fail
  refine (C _).mono ?_
  rintro e w ⟨rfl, n, rfl⟩
  go_wp2
  go_ret3
  exact ⟨rfl, n, rfl⟩

theorem cutN_ex (T : ByteArray) (hs : T.size ≤ 1000000) : ∃ (a r : ByteArray) (b : Bool),
    (∀ W, Calls Tryz.prog 96 #[.string T, .string ⟨#[10]⟩] W fun e w' => e = .returned (.tuple #[.string a, .string r, .bool b]) ∧ ∃ n, w' = W.drewN n) ∧
    a.data.toList = T.data.toList.takeWhile (fun c => c != 10) ∧ r.data.toList = T.data.toList.drop ((T.data.toList.takeWhile (fun c => c != 10)).length + 1) ∧ a.size ≤ T.size ∧ r.size ≤ T.size := by
  by_cases hm : (10 : UInt8) ∈ T.data.toList
  · obtain ⟨p, q, hpq, hp⟩ : ∃ p q, T.data.toList = p ++ 10 :: q ∧ (10 : UInt8) ∉ p := by
      generalize T.data.toList = l at hm
      induction l with
      | nil => cases hm
      | cons c l ih =>
        by_cases e : c = 10
        · exact ⟨[], l, by rw [e]; rfl, by simp⟩
        · obtain ⟨p, q, h1, h2⟩ := ih (by rcases List.mem_cons.1 hm with g | g; exact absurd g.symm e; exact g)
          exact ⟨c :: p, q, by rw [h1]; rfl, by simp only [List.mem_cons, not_or]; exact ⟨fun g => e g.symm, h2⟩⟩
    have hz : T.size = p.length + 1 + q.length := by
      have := congrArg List.length hpq
      rw [len_size, List.length_append, List.length_cons] at this; omega
    refine ⟨⟨p.toArray⟩, ⟨q.toArray⟩, true, fun W => cutHitN T ⟨p.toArray⟩ ⟨q.toArray⟩ W (by omega) (by simpa using hpq) (by simpa using hp), ?_, ?_, ?_, ?_⟩
    · rw [hpq, take_line hp]
    · rw [hpq, take_line hp, ← List.drop_drop, List.drop_left]; rfl
    · show p.toArray.size ≤ _; simp; omega
    · show q.toArray.size ≤ _; simp; omega
  · have ht : T.data.toList.takeWhile (fun c => c != 10) = T.data.toList := by
      have : ∀ l : List UInt8, (10 : UInt8) ∉ l → l.takeWhile (fun c => c != 10) = l := by
        intro l hl
        induction l with
        | nil => rfl
        | cons c l ih =>
          have hc : c ≠ 10 := fun e => hl (by simp [e])
          rw [List.takeWhile_cons_of_pos (by simpa using hc), ih (fun g => hl (by simp [g]))]
      exact this _ hm
    refine ⟨T, ⟨#[]⟩, false, fun W => cutMissN T W hm, ht.symm, ?_, Nat.le_refl _, Nat.zero_le _⟩
    rw [ht, List.drop_of_length_le (by omega)]
theorem hasPre (s p : ByteArray) (b : Bool) (h : p.data.toList.isPrefixOf s.data.toList = b) (w : World) : Calls Tryz.prog 132 #[.string s, .string p] w fun e w' => e = .returned (.bool b) ∧ w' = w := by
  refine (Go.Proofs.Any.stringslite_HasPrefix (show Go.Proofs.Lays.n206 Tryz.prog Tryz.laysQ_ren from { Tryz.laysQ99 with }) s p w).mono ?_
  rintro e w' ⟨rfl, rfl⟩
  exact ⟨by rw [← h]; rfl, rfl⟩
theorem ext_drop (s : ByteArray) (n : Nat) : (s.extract n s.size).data.toList = s.data.toList.drop n := Np.extr_to s n
theorem pre_len {s p : ByteArray} (h : p.data.toList.isPrefixOf s.data.toList = true) : p.size ≤ s.size := by
  have := (List.isPrefixOf_iff_prefix.1 h).length_le
  rwa [len_size, len_size] at this
theorem cutPre (s p x : ByteArray) (b : Bool) (h : p.data.toList.isPrefixOf s.data.toList = b) (hx : x.data.toList = if b then s.data.toList.drop p.data.toList.length else s.data.toList) (w : World) :
    Calls Tryz.prog 97 #[.string s, .string p] w fun e w' => e = .returned (.tuple #[.string x, .bool b]) ∧ w' = w := by
  have C := fun W => hasPre s p b h W
  have CL : ∀ W, Calls Tryz.prog 126 #[.string s, .string p] W fun e w' => e = .returned (.tuple #[.string x, .bool b]) ∧ w' = W := fun W => by
    cases b
    · have hxs : x = s := bytes_ext (by rw [hx]; rfl)
      subst hxs
      clear h hx
      go_enter Tryz.func126, Tryz.ntmps126
      go_wp2_with fail
      refine (C _).mono ?_
      rintro e w ⟨rfl, rfl⟩
      go_wp2
      go_ret2
      exact ⟨rfl, rfl⟩
    · have hxs : s.extract p.size s.size = x := bytes_ext (by rw [hx, if_pos rfl, ext_drop, len_size])
      have hl := pre_len h
      have c1 : (p.size : Int) ≤ (s.size : Int) := by omega
      have c2 : (0 : Int) ≤ (p.size : Int) := by omega
      clear h hx
      go_enter Tryz.func126, Tryz.ntmps126
      go_wp2_with fail
      refine (C _).mono ?_
      rintro e w ⟨rfl, rfl⟩
      go_wp2
      go_ret2
      exact ⟨rfl, rfl⟩
  clear h hx C
  go_enter Tryz.func97, Tryz.ntmps97
  go_wp2_with fail
  refine (CL _).mono ?_
  rintro e w ⟨rfl, rfl⟩
  go_wp2
  go_ret2
  exact ⟨rfl, rfl⟩
theorem trimPre (s p x : ByteArray) (b : Bool) (h : p.data.toList.isPrefixOf s.data.toList = b) (hx : x.data.toList = if b then s.data.toList.drop p.data.toList.length else s.data.toList) (w : World) :
    Calls Tryz.prog 70 #[.string s, .string p] w fun e w' => e = .returned (.string x) ∧ w' = w := by
  have C := fun W => hasPre s p b h W
  have CL : ∀ W, Calls Tryz.prog 107 #[.string s, .string p] W fun e w' => e = .returned (.string x) ∧ w' = W := fun W => by
    cases b
    · have hxs : x = s := bytes_ext (by rw [hx]; rfl)
      subst hxs
      clear h hx
      go_enter Tryz.func107, Tryz.ntmps107
      go_wp2_with fail
      refine (C _).mono ?_
      rintro e w ⟨rfl, rfl⟩
      go_wp2
      go_ret
      exact ⟨rfl, rfl⟩
    · have hxs : s.extract p.size s.size = x := bytes_ext (by rw [hx, if_pos rfl, ext_drop, len_size])
      have hl := pre_len h
      have c1 : (p.size : Int) ≤ (s.size : Int) := by omega
      have c2 : (0 : Int) ≤ (p.size : Int) := by omega
      clear h hx
      go_enter Tryz.func107, Tryz.ntmps107
      go_wp2_with fail
      refine (C _).mono ?_
      rintro e w ⟨rfl, rfl⟩
      go_wp2
      go_ret
      exact ⟨rfl, rfl⟩
  clear h hx C
  go_enter Tryz.func70, Tryz.ntmps70
  go_wp2_with fail
  refine (CL _).mono ?_
  rintro e w ⟨rfl, rfl⟩
  go_wp2
  go_ret
  exact ⟨rfl, rfl⟩

/-! ### all but one block -/
/-- Nothing but block x has turned. -/
structure Off (x : Nat) (w w' : World) : Prop where
  os : w'.os = w.os
  tape : w'.tape = w.tape
  output : w'.output = w.output
  size : w.heap.size ≤ w'.heap.size
  block : ∀ k, k < w.heap.size → k ≠ x → w'.heap[k]? = w.heap[k]?
theorem Off.refl (x : Nat) (w : World) : Off x w w := ⟨rfl, rfl, rfl, Nat.le_refl _, fun _ _ _ => rfl⟩
theorem Off.trans {x : Nat} {a b c : World} (h : Off x a b) (k : Off x b c) : Off x a c :=
  ⟨k.os.trans h.os, k.tape.trans h.tape, k.output.trans h.output, Nat.le_trans h.size k.size, fun i hi hx => (k.block i (Nat.lt_of_lt_of_le hi h.size) hx).trans (h.block i hi hx)⟩
theorem Off.of_below {x : Nat} {w w' : World} (h : Below w.heap.size w w') : Off x w w' := ⟨h.os, h.tape, h.output, h.size, fun k hk _ => h.block k hk⟩
theorem Off.below {x B : Nat} {a w w' : World} (h : Off x w w') (hb : Below B a w) (hx : B ≤ x) (hB : B ≤ w.heap.size) : Below B a w' :=
  hb.trans ⟨h.os, h.tape, h.output, h.size, fun k hk => h.block k (by omega) (by omega)⟩
theorem Off.cell {x : Nat} {w w' : World} (h : Off x w w') {p : Addr} (hl : p.block < w.heap.size) (hx : p.block ≠ x) : w'.cell? p = w.cell? p := World.cell?_of_block (w := w) (h.block _ hl hx)
theorem Off.frozen {x : Nat} {w w' : World} (h : Off x w w') {p : Addr} (hl : p.block < w.heap.size) (hx : p.block ≠ x) : w'.frozen? p = w.frozen? p := World.frozen?_of_block (w := w) (h.block _ hl hx)
/-- A box that holds a text. -/
def BoxS (w : World) (cb : Nat) (T : ByteArray) : Prop := ∃ ty, w.heap[cb]? = some (.cells #[.string T] ty)
theorem BoxS.lt {w : World} {cb : Nat} {T : ByteArray} (h : BoxS w cb T) : cb < w.heap.size := by
  obtain ⟨ty, h⟩ := h
  rcases Nat.lt_or_ge cb w.heap.size with g | g
  · exact g
  · rw [Array.getElem?_eq_none g] at h; cases h
theorem BoxS.cell {w : World} {cb : Nat} {T : ByteArray} (h : BoxS w cb T) (i : Nat) : w.cell? ⟨cb, i, none⟩ = if i = 0 then some (.string T) else none := by
  obtain ⟨ty, h⟩ := h
  unfold World.cell?
  rw [h]
  cases i with
  | zero => rfl
  | succ i => simp
theorem BoxS.frozen {w : World} {cb : Nat} {T : ByteArray} (h : BoxS w cb T) : w.frozen? ⟨cb, 0, none⟩ = false := by
  obtain ⟨ty, h⟩ := h
  unfold World.frozen?
  rw [h]
  rfl
theorem BoxS.step {w w' : World} {cb : Nat} {T : ByteArray} (h : BoxS w cb T) (hb : Below w.heap.size w w') : BoxS w' cb T := by
  obtain ⟨ty, g⟩ := h
  exact ⟨ty, (hb.block cb (BoxS.lt ⟨ty, g⟩)).trans g⟩
theorem BoxS.off {x : Nat} {w w' : World} {cb : Nat} {T : ByteArray} (h : BoxS w cb T) (hb : Off x w w') (hx : cb ≠ x) : BoxS w' cb T := by
  obtain ⟨ty, g⟩ := h
  exact ⟨ty, (hb.block cb (BoxS.lt ⟨ty, g⟩) hx).trans g⟩
theorem BoxS.put {w : World} {cb : Nat} {T r : ByteArray} (h : BoxS w cb T) : BoxS (w.setCell ⟨cb, 0, none⟩ (.string r)) cb r ∧ Off cb w (w.setCell ⟨cb, 0, none⟩ (.string r)) := by
  have hl := h.lt
  obtain ⟨ty, g⟩ := h
  refine ⟨⟨ty, ?_⟩, rfl, rfl, rfl, by simp [World.setCell], fun k hk hx => Below.heap_setCell _ _ _ _ hx⟩
  have g2 : w.heap[cb] = .cells #[.string T] ty := by
    rw [Array.getElem?_eq_getElem hl] at g
    exact Option.some.inj g
  simp [World.setCell, Array.getElem?_modify, g]
set_option maxHeartbeats 1000000 in
/-- The next line of what a box holds. -/
theorem next_any (cb : Nat) (w0 T x r : ByteArray) (hT : T.size ≤ 1000000) (h : nextF w0.data.toList T.data.toList = (x.data.toList, r.data.toList)) (w : World) (hb : BoxS w cb T) :
    Calls Tryz.prog 95 #[.string w0, .pointer (some ⟨cb, 0, none⟩)] w fun e w' => e = .returned (.string x) ∧ BoxS w' cb r ∧ Off cb w w' := by
  obtain ⟨a, r0, b, CC, ha, hr0, hal, hrl⟩ := cutN_ex T hT
  have hcell : w.cell? ⟨cb, 0, none⟩ = some (.string T) := hb.cell 0
  have hfr := hb.frozen
  obtain ⟨q, hq⟩ : ∃ q, w0.data.toList.isPrefixOf a.data.toList = q := ⟨_, rfl⟩
  obtain ⟨y, hy⟩ : ∃ y : ByteArray, y.data.toList = if q then a.data.toList.drop w0.data.toList.length else a.data.toList := ⟨⟨(if q then a.data.toList.drop w0.data.toList.length else a.data.toList).toArray⟩, by simp⟩
  have CP := fun W => cutPre a w0 y q hq hy W
  unfold nextF at h
  rw [← ha, hq] at h
  cases q
  · rw [if_neg (by decide)] at h
    obtain ⟨hx, hr⟩ := Prod.mk.inj h
    obtain rfl : x = ⟨#[]⟩ := bytes_ext hx.symm
    obtain rfl : r = T := bytes_ext hr.symm
    have HB := phide hb
    clear h hx hr hq hy ha hr0 hb hal hrl
    go_enter Tryz.func95, Tryz.ntmps95
    go_wp2_with fail
    refine (CC _).mono ?_
    rintro e w2 ⟨rfl, n, rfl⟩
    go_wp2_with fail
    refine (CP _).mono ?_
    rintro e w3 ⟨rfl, rfl⟩
    go_wp2
    go_ret
    exact ⟨rfl, punhide HB, Off.of_below (Go.below_drewN (Below.refl _ _) _)⟩
  · rw [if_pos rfl] at h
    rw [if_pos rfl] at hy
    obtain ⟨hx, hr⟩ := Prod.mk.inj h
    rw [← ha] at hr0
    obtain rfl : x = y := bytes_ext (by rw [hy, hx])
    obtain rfl : r = r0 := bytes_ext (by rw [hr0, hr])
    have HB := phide hb
    clear h hx hr hq hy ha hr0 hb hal hrl
    go_enter Tryz.func95, Tryz.ntmps95
    go_wp2_with fail
    refine (CC _).mono ?_
    rintro e w2 ⟨rfl, n, rfl⟩
    go_wp2_with fail
    refine (CP _).mono ?_
    rintro e w3 ⟨rfl, rfl⟩
    have hbd : BoxS (w.drewN n) cb T := punhide HB
    obtain ⟨p1, p2⟩ := BoxS.put (r := r) hbd
    clear hbd
    go_wp2
    go_ret
    exact ⟨rfl, p1, (Off.of_below (Go.below_drewN (Below.refl _ _) _)).trans p2⟩
end Go.Proofs.YtnagecbepidfiaaGreatDoor.Pol
