/- What is proved here: the document's own reader of layer 5 at a place, walked: blanks, next, quoted, number; conditions: as each theorem states. -/
import Derived.Test.YtppkknmgdahniaaDoorZYb
import Derived.Test.YtppkknmgdahniaaDoorZYi
namespace Go.Proofs.YtppkknmgdahniaaDoor.Pol
set_option maxRecDepth 100000
open Go.RowKit Go.Proofs.YtppkknmgdahniaaDoor.Nc Go.Proofs.YtppkknmgdahniaaDoor.Np Go.Proofs.YtppkknmgdahniaaDoor.Nq
set_option maxRecDepth 100000
set_option linter.unusedVariables false
set_option linter.unusedSimpArgs false

/-- The reader in a block, at a place, so many nodes met, nothing bad. -/
def Rd (W : World) (rb : Nat) (S : ByteArray) (p m : Nat) : Prop := Bx W rb #[.string S, .int .i64 (p : Int), .int .i64 (m : Int), .bool false, .bool false, .bool false] 108
/-- What lies below, and all but one block. -/
def FrR (B rb : Nat) (w w' : World) : Prop := Below B w w' ∧ Kept (fun b => b ≠ rb) w w'
theorem FrR.refl (B rb : Nat) (w : World) : FrR B rb w w := ⟨Below.refl _ _, Kept.refl _ _⟩
theorem FrR.trans {B rb : Nat} {a b c : World} (h : FrR B rb a b) (g : FrR B rb b c) : FrR B rb a c := ⟨h.1.trans g.1, ⟨Nat.le_trans h.2.1 g.2.1, fun k hk hl => (g.2.2 k hk (Nat.lt_of_lt_of_le hl h.2.1)).trans (h.2.2 k hk hl)⟩⟩
theorem FrR.of {B rb : Nat} {a b : World} (h : Below a.heap.size a b) (hB : B ≤ a.heap.size) : FrR B rb a b := ⟨h.mono hB, (Kept.of_below h).weak (fun b hb _ => hb)⟩
theorem FrR.set {B rb : Nat} (w : World) (hB : B ≤ rb) (i : Nat) (v : Value) : FrR B rb w (w.setCell ⟨rb, i, none⟩ v) :=
  ⟨(Below.refl _ _).setCell (p := ⟨rb, i, none⟩) hB v, ⟨by simp [World.setCell], fun k hk hl => Below.heap_setCell _ _ _ _ hk⟩⟩
theorem FrR.drewN {B rb n : Nat} (w : World) : FrR B rb w (w.drewN n) := ⟨⟨rfl, rfl, rfl, Nat.le_refl _, fun _ _ => rfl⟩, ⟨Nat.le_refl _, fun _ _ _ => rfl⟩⟩
theorem FrR.drew {B rb : Nat} (w : World) : FrR B rb w w.drew := ⟨(Below.refl _ _).drew, ⟨Nat.le_refl _, fun _ _ _ => rfl⟩⟩
theorem Bx.frr {W W' : World} {B rb b : Nat} {cs : Array Value} {t : TypeId} (h : Bx W b cs t) (g : FrR B rb W W') (hb : b ≠ rb) : Bx W' b cs t := (g.2.2 b hb h.lt).trans h
theorem Bx.setAt {W : World} {b i : Nat} {cs cs' : Array Value} {t : TypeId} (h : Bx W b cs t) (v : Value) (hc : cs.setIfInBounds i v = cs') : Bx (W.setCell ⟨b, i, none⟩ v) b cs' t := by
  subst hc
  unfold Bx at *
  simp [World.setCell, Array.getElem?_modify, h]
theorem Rd.at' {W : World} {rb : Nat} {S : ByteArray} {p m : Nat} (h : Rd W rb S p m) (q : Nat) : Rd (W.setCell ⟨rb, 1, none⟩ (.int .i64 (q : Int))) rb S q m := Bx.setAt h _ rfl
theorem Rd.nodes {W : World} {rb : Nat} {S : ByteArray} {p m : Nat} (h : Rd W rb S p m) (q : Nat) : Rd (W.setCell ⟨rb, 2, none⟩ (.int .i64 (q : Int))) rb S p q := Bx.setAt h _ rfl
theorem Rd.deep {W : World} {rb : Nat} {S : ByteArray} {p m : Nat} (h : Rd W rb S p m) : Rd (W.setCell ⟨rb, 4, none⟩ (.bool false)) rb S p m := Bx.setAt h _ rfl
theorem Rd.big {W : World} {rb : Nat} {S : ByteArray} {p m : Nat} (h : Rd W rb S p m) : Rd (W.setCell ⟨rb, 5, none⟩ (.bool false)) rb S p m := Bx.setAt h _ rfl
theorem Rd.below {W W' : World} {rb : Nat} {S : ByteArray} {p m : Nat} (h : Rd W rb S p m) (g : Below W.heap.size W W') : Rd W' rb S p m := Bx.below h g

set_option maxHeartbeats 4000000 in
theorem blanks_at (B rb : Nat) (S : ByteArray) (p m : Nat) (hB : B ≤ rb) (hS : S.size ≤ 1000000) (hp : p < S.size) (c : Nat) (hc : (S[p]'hp).toNat = c) (h1 : c ≠ 32) (h2 : c ≠ 9) (h3 : c ≠ 10) (h4 : c ≠ 13) (w : World) (hR : Rd w rb S p m) :
    Calls Tryd.prog 80 #[.pointer (some ⟨rb, 0, none⟩)] w fun e w' => e = .returned (.tuple #[]) ∧ Rd w' rb S p m ∧ FrR B rb w w' := by
  have y0 := hR.cell 0
  have y1 := hR.cell 1
  have hi : (p : Int) < (S.size : Int) := by omega
  have k1 : (((S[p]'hp).toNat : Int) == 32) = false := beq_eq_false_iff_ne.2 (by omega)
  have k2 : (((S[p]'hp).toNat : Int) == 9) = false := beq_eq_false_iff_ne.2 (by omega)
  have k3 : (((S[p]'hp).toNat : Int) == 10) = false := beq_eq_false_iff_ne.2 (by omega)
  have k4 : (((S[p]'hp).toNat : Int) == 13) = false := beq_eq_false_iff_ne.2 (by omega)
  have HR := phide hR
  clear hR hc h1 h2 h3 h4
  go_enter Tryd.func80, Tryd.ntmps80
  go_wp2_with fail
  go_loopg [] 1 (fun gh wr => Rd wr rb S p m ∧ FrR B rb w wr)
  case atStart => exact ⟨punhide HR, FrR.refl _ _ _⟩
  case round =>
    obtain ⟨hr, hf⟩ := hrel
    clear y0 y1
    have y0 := hr.cell 0
    have y1 := hr.cell 1
    have HRF := phide (And.intro hr hf)
    clear hr hf HR
    go_wp2_with fail
    go_quiet (fail)
    go_wp2_with fail
    go_returns
    exact ⟨rfl, (punhide HRF).1, (punhide HRF).2.trans (FrR.drewN _)⟩
end Go.Proofs.YtppkknmgdahniaaDoor.Pol
/- What is proved here: the document's own reader of layer 5 at a place, walked: next, quoted, numeral; conditions: as each theorem states. -/
namespace Go.Proofs.YtppkknmgdahniaaDoor.Pol
set_option maxRecDepth 100000
open Go.RowKit Go.Proofs.YtppkknmgdahniaaDoor.Nc Go.Proofs.YtppkknmgdahniaaDoor.Np Go.Proofs.YtppkknmgdahniaaDoor.Nq
set_option maxRecDepth 100000
set_option linter.unusedVariables false
set_option linter.unusedSimpArgs false

set_option maxHeartbeats 4000000 in
theorem next_at (B rb : Nat) (S : ByteArray) (p m : Nat) (hB : B ≤ rb) (hS : S.size ≤ 1000000) (hp : p < S.size) (c : Nat) (hc : (S[p]'hp).toNat = c) (w : World) (hR : Rd w rb S p m) :
    Calls Tryd.prog 81 #[.pointer (some ⟨rb, 0, none⟩)] w fun e w' => e = .returned (.int .u8 (c : Int)) ∧ Rd w' rb S p m ∧ FrR B rb w w' := by
  have y0 := hR.cell 0
  have y1 := hR.cell 1
  have hi : (p : Int) < (S.size : Int) := by omega
  have HR := phide hR
  have HC := phide hc
  clear hR hc
  go_enter Tryd.func81, Tryd.ntmps81
  go_wp2_with fail
  go_quiet (fail)
  go_wp2_with fail
  go_quiet (fail)
  go_wp2_with fail
  go_returns
  exact ⟨by rw [← punhide HC]; rfl, punhide HR, (FrR.drewN _).trans (FrR.drewN _)⟩
set_option maxHeartbeats 4000000 in
theorem quoted_at (B rb : Nat) (S u : ByteArray) (p m n : Nat) (hB : B ≤ rb) (hS : S.size ≤ 1000000) (hp : p < S.size) (hn : p + n ≤ S.size) (w : World) (hR : Rd w rb S p m) (hBw : B ≤ w.heap.size)
    (hu : Qm.unquoteL (S.extract p S.size).data.toList = (u.data.toList, n, 0)) :
    Calls Tryd.prog 82 #[.pointer (some ⟨rb, 0, none⟩)] w fun e w' => e = .returned (.string u) ∧ Rd w' rb S (p + n) m ∧ FrR B rb w w' := by
  obtain ⟨t, ht⟩ : ∃ t, S.extract p S.size = t := ⟨_, rfl⟩
  rw [ht] at hu
  have hts : t.size ≤ 1000000 := by rw [← ht, ByteArray.size_extract]; omega
  have CU := fun W => ref_unquote t hts u n 0 hu W
  have y0 := hR.cell 0
  have y1 := hR.cell 1
  have HR := phide hR
  have HSB : Hid (∀ W, Below w.heap.size w W → W.cell? ⟨rb, 0, none⟩ = some (.string S) ∧ W.cell? ⟨rb, 1, none⟩ = some (.int .i64 (p : Int))) := phide (fun W hW => ⟨(hR.below hW).cell 0, (hR.below hW).cell 1⟩)
  have hS0 : Below w.heap.size w w.drew := (Below.refl _ _).drew
  clear hR hu hts
  go_enter Tryd.func82, Tryd.ntmps82
  go_upto_region 1 with fail
  have hS := hS0
  have hi : (p : Int) ≤ (S.size : Int) := by omega
  have hi2 : ¬ (S.size : Int) < (p : Int) := by omega
  have hi3 : ¬ S.size < p := by omega
  have hi4 : p ≤ S.size := by omega
  go_region_held3 (fun W => W.cell? ⟨rb, 0, none⟩ = some (.string S) ∧ W.cell? ⟨rb, 1, none⟩ = some (.int .i64 (p : Int))) (exact punhide HSB _ hS)
    (first
      | (go_at_call 94; refine (CU _).mono ?_; rintro e9 w9 ⟨rfl, b9⟩; replace hS := hS.trans (b9.mono hS.size); clear b9))
  all_goals
    have hr9 : Rd w9 rb S p m := (punhide HR).below hS
    have hf9 := FrR.of (rb := rb) hS hBw
    have hw9 : (p : Int) + (n : Int) = ((p + n : Nat) : Int) := by omega
    have x0 := hr9.cell 0
    have x1 := hr9.cell 1
    have xf := hr9.free 1
    have HG := phide (And.intro hr9 hf9)
    have HW9 := phide hw9
    clear y0 y1 hr9 hf9 HR HSB hS0 hS ht CU hw9
    go_wp2_with fail
    go_returns
    refine ⟨rfl, ?_, ?_⟩
    · have := (punhide HG).1.at' (p + n)
      rw [← punhide HW9] at this
      exact this
    · exact (punhide HG).2.trans (FrR.set _ hB 1 _)
set_option maxHeartbeats 1000000 in
theorem rnum_digit (c : Nat) (h1 : 48 ≤ c) (h2 : c ≤ 57) (w : World) : Calls Tryd.prog 97 #[.int .u8 (c : Int)] w fun e w' => e = .returned (.bool true) ∧ w' = w := by
  have e1 : (48 : Int) ≤ (c : Int) := by omega
  have e2 : (c : Int) ≤ 57 := by omega
  go_enter Tryd.func97, Tryd.ntmps97
  go_wp2_with fail
  go_ret
  exact ⟨rfl, rfl⟩
set_option maxHeartbeats 1000000 in
theorem rnum_comma (w : World) : Calls Tryd.prog 97 #[.int .u8 44] w fun e w' => e = .returned (.bool false) ∧ w' = w := by
  go_enter Tryd.func97, Tryd.ntmps97
  go_wp2_with fail
  go_ret
  exact ⟨rfl, rfl⟩
set_option maxHeartbeats 1000000 in
theorem rnum_close (w : World) : Calls Tryd.prog 97 #[.int .u8 93] w fun e w' => e = .returned (.bool false) ∧ w' = w := by
  go_enter Tryd.func97, Tryd.ntmps97
  go_wp2_with fail
  go_ret
  exact ⟨rfl, rfl⟩
end Go.Proofs.YtppkknmgdahniaaDoor.Pol
/- What is proved here: the document's own reader of layer 5 at a number of one digit, walked; conditions: as each theorem states. -/
namespace Go.Proofs.YtppkknmgdahniaaDoor.Pol
set_option maxRecDepth 100000
open Go.RowKit Go.Proofs.YtppkknmgdahniaaDoor.Nc Go.Proofs.YtppkknmgdahniaaDoor.Np Go.Proofs.YtppkknmgdahniaaDoor.Nq
set_option maxRecDepth 100000
set_option linter.unusedVariables false
set_option linter.unusedSimpArgs false

theorem FrR.setN {B rb vb : Nat} {w W : World} (h : FrR B rb w W) (hB : B ≤ vb) (hw : w.heap.size ≤ vb) (vs : List Value) : FrR B rb w (W.setCells vb 0 vs) := by
  obtain ⟨a1, a2, a3, a4, a5⟩ := setCells_frame vb vs 0 W
  exact ⟨setCells_below h.1 hB 0 vs, ⟨by rw [a1]; exact h.2.1, fun k hk hl => (a5 k (by omega)).trans (h.2.2 k hk hl)⟩⟩
theorem Bx.setN {vb b : Nat} {W : World} {cs : Array Value} {t : TypeId} {vs : List Value} (h : Bx W b cs t) (hb : vb ≠ b) : Bx (W.setCells vb 0 vs) b cs t := by
  obtain ⟨a1, a2, a3, a4, a5⟩ := setCells_frame vb vs 0 W
  exact (a5 b (fun e => hb e.symm)).trans h
set_option maxHeartbeats 4000000 in
theorem number_at (B rb : Nat) (S t dg : ByteArray) (p p1 m : Nat) (hB : B ≤ rb) (hS : S.size ≤ 1000000) (hp1 : p1 = p + 1) (hp : p < S.size) (hq : p1 < S.size) (h1 : 48 ≤ (S[p]'hp).toNat) (h2 : (S[p]'hp).toNat ≤ 57) (h3 : (S[p1]'hq).toNat = 44 ∨ (S[p1]'hq).toNat = 93)
    (ht : S.extract p p1 = t) (CP : ∀ W, Calls Tryd.prog 35 #[.string t] W fun e w' => e = .returned (.tuple #[.agg #[.bool false, .string dg, .int .i64 0], .int .i64 0]) ∧ Below W.heap.size W w')
    (w : World) (hR : Rd w rb S p m) (hBw : B ≤ w.heap.size) :
    Calls Tryd.prog 84 #[.pointer (some ⟨rb, 0, none⟩)] w fun e w' => e = .returned (.agg #[.int .i64 4, .int .u64 0, .bool false, .string dg, .int .i64 0, .string ⟨#[]⟩, .slice none 0 0, .slice none 0 0, .int .i64 0]) ∧ Rd w' rb S p1 m ∧ FrR B rb w w' := by
  have C1 := fun W => rnum_digit (S[p]'hp).toNat h1 h2 W
  have C2 : ∀ W, Calls Tryd.prog 97 #[.int .u8 ((S[p1]'hq).toNat : Int)] W fun e w' => e = .returned (.bool false) ∧ w' = W := fun W => by
    rcases h3 with h | h
    · rw [h]; exact rnum_comma W
    · rw [h]; exact rnum_close W
  have HC1 := phide C1
  have HC2 := phide C2
  have HCP := phide CP
  have HT := phide ht
  have HP1 := phide hp1
  have hR0 := hR
  obtain ⟨w1, e1, z1, g1, x1⟩ := alloc_facts w #[.int .i64 0, .int .u64 0, .bool false, .string ⟨#[]⟩, .int .i64 0, .string ⟨#[]⟩, .slice none 0 0, .slice none 0 0, .int .i64 0] 31
  have hR1 := hR.below g1
  have hne : w.heap.size ≠ rb := by have := Bx.lt hR; omega
  have hf1 := FrR.of (B := B) (rb := rb) g1 hBw
  have HE := phide e1
  have y0 := hR1.cell 0
  have y1 := hR1.cell 1
  have HR := phide (And.intro hR1 (And.intro x1 hf1))
  clear C1 C2 CP ht hp1 hR hR0 h1 h2 h3 e1 z1 g1 x1 hR1 hf1
  go_enter Tryd.func84, Tryd.ntmps84
  go_upto_region 1 with fail
  rw [punhide HE]
  clear HE
  generalize hvb : w.heap.size = vb at *
  have HVB := phide hvb
  clear hvb
  go_wp2_with fail
  go_loopg [] 1 (fun gh wr => ∃ q : Nat, (q = p ∧ gh = 1 ∨ q = p1 ∧ gh = 0) ∧ Rd wr rb S q m ∧ Bx wr vb #[.int .i64 0, .int .u64 0, .bool false, .string ⟨#[]⟩, .int .i64 0, .string ⟨#[]⟩, .slice none 0 0, .slice none 0 0, .int .i64 0] 31 ∧ FrR B rb w wr)
  case atStart => exact ⟨p, .inl ⟨rfl, rfl⟩, punhide HR⟩
  case round =>
    obtain ⟨q, hqq, hr, hx, hf⟩ := hrel
    clear y0 y1 HR
    have y0 := hr.cell 0
    have y1 := hr.cell 1
    have HSB : Hid (∀ W, Below wr.heap.size wr W → W.cell? ⟨rb, 0, none⟩ = some (.string S) ∧ W.cell? ⟨rb, 1, none⟩ = some (.int .i64 (q : Int))) := phide (fun W hW => ⟨(hr.below hW).cell 0, (hr.below hW).cell 1⟩)
    have hS0 : Below wr.heap.size wr wr.drew := (Below.refl _ _).drew
    have hbr : B ≤ wr.heap.size := by have := hx.lt; omega
    have HRD := phide (And.intro hr (And.intro hx hf))
    rcases hqq with ⟨rfl, rfl⟩ | ⟨rfl, rfl⟩
    · have hi : (q : Int) < (S.size : Int) := by omega
      clear hr hx hf
      go_wp2_with fail
      have hS := hS0
      go_region_held3 (fun W => W.cell? ⟨rb, 0, none⟩ = some (.string S) ∧ W.cell? ⟨rb, 1, none⟩ = some (.int .i64 (q : Int))) (exact punhide HSB _ hS)
        (first
          | (go_at_call 97; refine (punhide HC1 _).mono ?_; rintro e9 w9 ⟨rfl, rfl⟩))
      all_goals
        have hr9 := (show Rd wr.drew rb S q m from (punhide HRD).1).at' p1
        have hx9 := (show Bx wr.drew vb _ _ from (punhide HRD).2.1).frr (FrR.set wr.drew hB 1 (.int .i64 (p1 : Int))) hne
        have hf9 := ((punhide HRD).2.2.trans (FrR.drew wr)).trans (FrR.set wr.drew hB 1 (.int .i64 (p1 : Int)))
        have yf := (punhide HRD).1.free 1
        have HG := phide (And.intro hr9 (And.intro hx9 hf9))
        have HW9 : Hid (((q : Int) + 1) = (p1 : Int)) := phide (by have := punhide HP1; omega)
        clear hr9 hx9 hf9 HC1 HC2
        go_wp2_with fail
        go_roundg 0
        case measure => omega
        case rel =>
          refine ⟨p1, .inr ⟨rfl, rfl⟩, ?_⟩
          have := punhide HG
          rw [← punhide HW9] at this
          exact this
    · have hi : (q : Int) < (S.size : Int) := by omega
      clear hr hx hf
      go_wp2_with fail
      have hS := hS0
      go_region_held3 (fun W => W.cell? ⟨rb, 0, none⟩ = some (.string S) ∧ W.cell? ⟨rb, 1, none⟩ = some (.int .i64 (q : Int))) (exact punhide HSB _ hS)
        (first
          | (go_at_call 97; refine (punhide HC2 _).mono ?_; rintro e9 w9 ⟨rfl, rfl⟩))
      have hj1 : p ≤ q := by have := punhide HP1; omega
      have hj2 : q ≤ S.size := by omega
      have ht := punhide HT
      clear hS
      have hS := hS0.drew
      go_wp2_with fail
      go_region_held3 (fun W => W.cell? ⟨rb, 0, none⟩ = some (.string S) ∧ W.cell? ⟨rb, 1, none⟩ = some (.int .i64 (q : Int))) (first | exact punhide HSB _ hS | exact punhide HSB _ (hS.alloc hS.size _) | exact punhide HSB _ hS2 | exact punhide HSB _ (((hS2.setCell (p := ⟨wr.heap.size, 0, none⟩) (Nat.le_refl _) _).setCell (p := ⟨wr.heap.size, 1, none⟩) (Nat.le_refl _) _).setCell (p := ⟨wr.heap.size, 2, none⟩) (Nat.le_refl _) _) | exact punhide HSB _ (((Below.refl _ wr).alloc (Nat.le_refl _) _).drew.drew))
        (first
          | (go_at_call 35; refine (punhide HCP _).mono ?_; rintro e9 w9 ⟨rfl, b9⟩; replace hS := hS.trans (b9.mono hS.size); clear b9)
          | (go_at_call 35; refine (punhide HCP _).mono ?_; rintro e9 w10 ⟨rfl, b9⟩
             have hA : Below wr.heap.size wr (wr.alloc (.cells #[.bool false, .string ⟨#[]⟩, .int .i64 0] 26)).drew.drew := ((Below.refl _ wr).alloc (Nat.le_refl _) _).drew.drew
             have hX : Bx w10 wr.heap.size #[.bool false, .string ⟨#[]⟩, .int .i64 0] 26 := Bx.below (show Bx (wr.alloc (.cells #[.bool false, .string ⟨#[]⟩, .int .i64 0] 26)).drew.drew wr.heap.size _ _ from Bx.new wr _ _) b9
             have hS2 := hA.trans (b9.mono hA.size)
             have z0 := hX.cell 0
             have z1 := hX.cell 1
             have z2 := hX.cell 2
             have f0 := hX.free 0
             have f1 := hX.free 1
             have f2 := hX.free 2))
      · have hSF := hS.alloc hS.size (.cells #[.bool false, .string dg, .int .i64 0] 26)
        have hX9 := Bx.new w9 #[.bool false, .string dg, .int .i64 0] 26
        clear hS y0 y1
        have hr9 := (punhide HRD).1.below hSF
        have hx9 := (punhide HRD).2.1.below hSF
        have hf9 := (punhide HRD).2.2.trans (FrR.of (rb := rb) hSF hbr)
        have HRes := phide (res9 (w9.alloc (.cells #[.bool false, .string dg, .int .i64 0] 26)) vb (.int .i64 4) (.int .u64 0) (.bool false) (.string dg) (.int .i64 0) (.string ⟨#[]⟩) (.slice none 0 0) (.slice none 0 0) (.int .i64 0) (fun r hr => by rw [hx9.cell r, Array.getElem?_eq_getElem (by simpa using hr)]; rfl))
        have c0 := hX9.cell 0
        have c1 := hX9.cell 1
        have c2 := hX9.cell 2
        have v0 := hx9.cell 0
        have v1 := hx9.cell 1
        have v2 := hx9.cell 2
        have v3 := hx9.cell 3
        have v4 := hx9.cell 4
        have v5 := hx9.cell 5
        have v6 := hx9.cell 6
        have v7 := hx9.cell 7
        have v8 := hx9.cell 8
        have u0 := hx9.free 0
        have u1 := hx9.free 1
        have u2 := hx9.free 2
        have u3 := hx9.free 3
        have u4 := hx9.free 4
        have u5 := hx9.free 5
        have u6 := hx9.free 6
        have u7 := hx9.free 7
        have u8 := hx9.free 8
        have HG : Hid (Rd ((w9.alloc (.cells #[.bool false, .string dg, .int .i64 0] 26)).setCells vb 0 [.int .i64 4, .int .u64 0, .bool false, .string dg, .int .i64 0, .string ⟨#[]⟩, .slice none 0 0, .slice none 0 0, .int .i64 0]) rb S q m ∧ FrR B rb w ((w9.alloc (.cells #[.bool false, .string dg, .int .i64 0] 26)).setCells vb 0 [.int .i64 4, .int .u64 0, .bool false, .string dg, .int .i64 0, .string ⟨#[]⟩, .slice none 0 0, .slice none 0 0, .int .i64 0])) := phide ⟨Bx.setN hr9 hne, FrR.setN hf9 hBw (by rw [punhide HVB]; exact Nat.le_refl _) [.int .i64 4, .int .u64 0, .bool false, .string dg, .int .i64 0, .string ⟨#[]⟩, .slice none 0 0, .slice none 0 0, .int .i64 0]⟩
        clear hr9 hx9 hf9 hX9 hSF HSB hS0 HT ht
        generalize (w9.alloc (.cells #[.bool false, .string dg, .int .i64 0] 26)) = V9 at *
        go_wp2_with fail
        change bodyPost _ _ _ _ _ (V9.setCells vb 0 [.int .i64 4, .int .u64 0, .bool false, .string dg, .int .i64 0, .string ⟨#[]⟩, .slice none 0 0, .slice none 0 0, .int .i64 0])
        obtain ⟨r0, r1, r2, r3, r4, r5, r6, r7, r8⟩ := punhide HRes
        exact bodyPost_ret (v := .agg #[.int .i64 4, .int .u64 0, .bool false, .string dg, .int .i64 0, .string ⟨#[]⟩, .slice none 0 0, .slice none 0 0, .int .i64 0]) (by simp [results, Tryd.results84, go_sem, r0, r1, r2, r3, r4, r5, r6, r7, r8]) rfl ⟨rfl, punhide HG⟩
      · have hSF := ((hS2.setCell (p := ⟨wr.heap.size, 0, none⟩) (Nat.le_refl _) (.bool false)).setCell (p := ⟨wr.heap.size, 1, none⟩) (Nat.le_refl _) (.string dg)).setCell (p := ⟨wr.heap.size, 2, none⟩) (Nat.le_refl _) (.int .i64 0)
        have hX9 : Bx _ wr.heap.size #[.bool false, .string dg, .int .i64 0] 26 := Bx.setAt (i := 2) (Bx.setAt (i := 1) (Bx.setAt (i := 0) hX (.bool false) rfl) (.string dg) rfl) (.int .i64 0) rfl
        clear hS y0 y1 hX z0 z1 z2 f0 f1 f2 hS2
        have hr9 := (punhide HRD).1.below hSF
        have hx9 := (punhide HRD).2.1.below hSF
        have hf9 := (punhide HRD).2.2.trans (FrR.of (rb := rb) hSF hbr)
        have HRes := phide (res9 (((w10.setCell ⟨wr.heap.size, 0, none⟩ (.bool false)).setCell ⟨wr.heap.size, 1, none⟩ (.string dg)).setCell ⟨wr.heap.size, 2, none⟩ (.int .i64 0)) vb (.int .i64 4) (.int .u64 0) (.bool false) (.string dg) (.int .i64 0) (.string ⟨#[]⟩) (.slice none 0 0) (.slice none 0 0) (.int .i64 0) (fun r hr => by rw [hx9.cell r, Array.getElem?_eq_getElem (by simpa using hr)]; rfl))
        have c0 := hX9.cell 0
        have c1 := hX9.cell 1
        have c2 := hX9.cell 2
        have v0 := hx9.cell 0
        have v1 := hx9.cell 1
        have v2 := hx9.cell 2
        have v3 := hx9.cell 3
        have v4 := hx9.cell 4
        have v5 := hx9.cell 5
        have v6 := hx9.cell 6
        have v7 := hx9.cell 7
        have v8 := hx9.cell 8
        have u0 := hx9.free 0
        have u1 := hx9.free 1
        have u2 := hx9.free 2
        have u3 := hx9.free 3
        have u4 := hx9.free 4
        have u5 := hx9.free 5
        have u6 := hx9.free 6
        have u7 := hx9.free 7
        have u8 := hx9.free 8
        have HG : Hid (Rd ((((w10.setCell ⟨wr.heap.size, 0, none⟩ (.bool false)).setCell ⟨wr.heap.size, 1, none⟩ (.string dg)).setCell ⟨wr.heap.size, 2, none⟩ (.int .i64 0)).setCells vb 0 [.int .i64 4, .int .u64 0, .bool false, .string dg, .int .i64 0, .string ⟨#[]⟩, .slice none 0 0, .slice none 0 0, .int .i64 0]) rb S q m ∧ FrR B rb w ((((w10.setCell ⟨wr.heap.size, 0, none⟩ (.bool false)).setCell ⟨wr.heap.size, 1, none⟩ (.string dg)).setCell ⟨wr.heap.size, 2, none⟩ (.int .i64 0)).setCells vb 0 [.int .i64 4, .int .u64 0, .bool false, .string dg, .int .i64 0, .string ⟨#[]⟩, .slice none 0 0, .slice none 0 0, .int .i64 0])) := phide ⟨Bx.setN hr9 hne, FrR.setN hf9 hBw (by rw [punhide HVB]; exact Nat.le_refl _) [.int .i64 4, .int .u64 0, .bool false, .string dg, .int .i64 0, .string ⟨#[]⟩, .slice none 0 0, .slice none 0 0, .int .i64 0]⟩
        clear hr9 hx9 hf9 hX9 hSF HSB hS0 HT ht
        generalize (((w10.setCell ⟨wr.heap.size, 0, none⟩ (.bool false)).setCell ⟨wr.heap.size, 1, none⟩ (.string dg)).setCell ⟨wr.heap.size, 2, none⟩ (.int .i64 0)) = V9 at *
        go_wp2_with fail
        change bodyPost _ _ _ _ _ (V9.setCells vb 0 [.int .i64 4, .int .u64 0, .bool false, .string dg, .int .i64 0, .string ⟨#[]⟩, .slice none 0 0, .slice none 0 0, .int .i64 0])
        obtain ⟨r0, r1, r2, r3, r4, r5, r6, r7, r8⟩ := punhide HRes
        exact bodyPost_ret (v := .agg #[.int .i64 4, .int .u64 0, .bool false, .string dg, .int .i64 0, .string ⟨#[]⟩, .slice none 0 0, .slice none 0 0, .int .i64 0]) (by simp [results, Tryd.results84, go_sem, r0, r1, r2, r3, r4, r5, r6, r7, r8]) rfl ⟨rfl, punhide HG⟩
end Go.Proofs.YtppkknmgdahniaaDoor.Pol
/- What is proved here: value of the document's own reader of layer 5, at a number of one digit and at a row, walked; conditions: as each theorem states. Written by value_gen.py. -/
namespace Go.Proofs.YtppkknmgdahniaaDoor.Pol
set_option maxRecDepth 100000
open Go.RowKit Go.Proofs.YtppkknmgdahniaaDoor.Nc Go.Proofs.YtppkknmgdahniaaDoor.Np Go.Proofs.YtppkknmgdahniaaDoor.Nq
set_option maxRecDepth 100000
set_option linter.unusedVariables false
set_option linter.unusedSimpArgs false

set_option maxHeartbeats 4000000 in
theorem value_num (B rb : Nat) (S t dg : ByteArray) (p p1 m d : Nat) (hB : B ≤ rb) (hS : S.size ≤ 1000000) (hm : m + 1 ≤ 400) (hd : d ≤ 12) (hp1 : p1 = p + 1) (hp : p < S.size) (hq : p1 < S.size) (c : Nat) (hc : (S[p]'hp).toNat = c) (h1 : 48 ≤ c) (h2 : c ≤ 57) (h3 : (S[p1]'hq).toNat = 44 ∨ (S[p1]'hq).toNat = 93)
    (ht : S.extract p p1 = t) (CP : ∀ W, Calls Tryd.prog 35 #[.string t] W fun e w' => e = .returned (.tuple #[.agg #[.bool false, .string dg, .int .i64 0], .int .i64 0]) ∧ Below W.heap.size W w')
    (w : World) (hR : Rd w rb S p m) (hBw : B ≤ w.heap.size) :
    Calls Tryd.prog 68 #[.pointer (some ⟨rb, 0, none⟩), .int .i64 (d : Int)] w fun e w' => e = .returned (.agg #[.int .i64 4, .int .u64 0, .bool false, .string dg, .int .i64 0, .string ⟨#[]⟩, .slice none 0 0, .slice none 0 0, .int .i64 0]) ∧ Rd w' rb S p1 (m + 1) ∧ FrR B rb w w' := by
  have HC := phide hc
  have HM : Hid ((m : Int) + 1 = ((m + 1 : Nat) : Int)) := phide (by omega)
  obtain ⟨w1, e1, z1, g1, x1⟩ := alloc_facts w #[.int .i64 0, .int .u64 0, .bool false, .string ⟨#[]⟩, .int .i64 0, .string ⟨#[]⟩, .slice none 0 0, .slice none 0 0, .int .i64 0] 31
  have hr1 := hR.below g1
  have hne : w.heap.size ≠ rb := by have := Bx.lt hR; omega
  have hf1 := FrR.of (B := B) (rb := rb) g1 hBw
  have HE := phide e1
  have n1 : c ≠ 32 := by omega
  have n2 : c ≠ 9 := by omega
  have n3 : c ≠ 10 := by omega
  have n4 : c ≠ 13 := by omega
  have t1 : ((c : Int) == 34) = false := beq_eq_false_iff_ne.2 (by omega)
  have t2 : ((c : Int) == 91) = false := beq_eq_false_iff_ne.2 (by omega)
  have t3 : ((c : Int) == 123) = false := beq_eq_false_iff_ne.2 (by omega)
  have t4 : ((c : Int) == 45) = false := beq_eq_false_iff_ne.2 (by omega)
  have t5 : (48 : Int) ≤ (c : Int) := by omega
  have t6 : (c : Int) ≤ 57 := by omega
  have CU := fun W hR hW => number_at B rb S t dg p p1 (m + 1) hB hS hp1 hp hq (by omega) (by omega) h3 ht CP W hR hW
  have HCU := phide CU
  clear CU CP ht h1 h2 h3 hp1
  have hm9 : decide ((400 : Int) < (m : Int) + 1) = false := decide_eq_false (by omega)
  have hd9 : decide ((12 : Int) < (d : Int)) = false := decide_eq_false (by omega)
  have CB := fun W hR => blanks_at B rb S p m hB hS hp c hc n1 n2 n3 n4 W hR
  have CN := fun W hR => next_at B rb S p (m + 1) hB hS hp c hc W hR
  have HCB := phide CB
  have HCN := phide CN
  clear CB CN hR e1 z1 g1 hc n1 n2 n3 n4
  have HX1 := phide (And.intro hr1 (And.intro x1 hf1))
  clear hr1 x1 hf1
  go_enter Tryd.func68, Tryd.ntmps68
  go_upto_region 1 with fail
  rw [punhide HE]
  clear HE
  generalize hvb : w.heap.size = vb at *
  have HVB := phide hvb
  clear hvb
  go_wp2_with fail
  refine (punhide HCB _ (punhide HX1).1).mono ?_
  rintro e9 w2 ⟨rfl, hr2, f2⟩
  have hx2 := (punhide HX1).2.1.frr f2 hne
  have hf2 := (punhide HX1).2.2.trans f2
  clear HX1 f2
  have y0 := hr2.cell 0
  have y1 := hr2.cell 1
  have y2 := hr2.cell 2
  have y3 := hr2.cell 3
  have y4 := hr2.cell 4
  have y5 := hr2.cell 5
  have yf1 := hr2.free 1
  have yf2 := hr2.free 2
  have yf3 := hr2.free 3
  have yf4 := hr2.free 4
  have yf5 := hr2.free 5
  have HX2 := phide (And.intro hr2 (And.intro hx2 hf2))
  clear hr2 hx2 hf2
  go_wp2_with fail
  have hr3 : Rd (((w2.setCell ⟨rb, 2, none⟩ (.int .i64 ((m : Int) + 1))).setCell ⟨rb, 4, none⟩ (.bool false)).setCell ⟨rb, 5, none⟩ (.bool false)) rb S p (m + 1) := by rw [punhide HM]; exact (((punhide HX2).1.nodes (m + 1)).deep).big
  have hx3 := (((punhide HX2).2.1.frr (FrR.set w2 hB 2 (.int .i64 ((m : Int) + 1))) hne).frr (FrR.set _ hB 4 (.bool false)) hne).frr (FrR.set _ hB 5 (.bool false)) hne
  have hf3 := (((punhide HX2).2.2.trans (FrR.set w2 hB 2 (.int .i64 ((m : Int) + 1)))).trans (FrR.set _ hB 4 (.bool false))).trans (FrR.set _ hB 5 (.bool false))
  refine (punhide HCN _ hr3).mono ?_
  rintro e9 w4 ⟨rfl, hr4, f4⟩
  have hx4 := hx3.frr f4 hne
  have hf4 := hf3.trans f4
  clear hr3 hx3 hf3 f4 HX2
  clear y0 y1 y2 y3 y4 y5 yf1 yf2 yf3 yf4 yf5
  have hBw4 : B ≤ w4.heap.size := by have := hx4.lt; omega
  have HX4 := phide (And.intro hr4 (And.intro hx4 hf4))
  clear hr4 hx4 hf4
  go_wp2_with fail
  refine (punhide HCU _ (punhide HX4).1 hBw4).mono ?_
  rintro e9 w5 ⟨rfl, hr5, f5⟩
  have hx5 := (punhide HX4).2.1.frr f5 hne
  have hf5 := (punhide HX4).2.2.trans f5
  clear HX4 f5 t1 t2 t3 t4 t5 t6
  have v0 := hx5.cell 0
  have u0 := hx5.free 0
  have v1 := hx5.cell 1
  have u1 := hx5.free 1
  have v2 := hx5.cell 2
  have u2 := hx5.free 2
  have v3 := hx5.cell 3
  have u3 := hx5.free 3
  have v4 := hx5.cell 4
  have u4 := hx5.free 4
  have v5 := hx5.cell 5
  have u5 := hx5.free 5
  have v6 := hx5.cell 6
  have u6 := hx5.free 6
  have v7 := hx5.cell 7
  have u7 := hx5.free 7
  have v8 := hx5.cell 8
  have u8 := hx5.free 8
  have HRes := phide (res9 w5 vb (.int .i64 4) (.int .u64 0) (.bool false) (.string dg) (.int .i64 0) (.string ⟨#[]⟩) (.slice none 0 0) (.slice none 0 0) (.int .i64 0) (fun r hr => by rw [hx5.cell r, Array.getElem?_eq_getElem (by simpa using hr)]; rfl))
  have HG := phide (And.intro (Bx.setN (vs := [.int .i64 4, .int .u64 0, .bool false, .string dg, .int .i64 0, .string ⟨#[]⟩, .slice none 0 0, .slice none 0 0, .int .i64 0]) hr5 hne) (FrR.setN hf5 hBw (by rw [punhide HVB]; exact Nat.le_refl _) [.int .i64 4, .int .u64 0, .bool false, .string dg, .int .i64 0, .string ⟨#[]⟩, .slice none 0 0, .slice none 0 0, .int .i64 0]))
  clear hr5 hx5 hf5
  go_wp2_with fail
  change bodyPost _ _ _ _ _ (w5.setCells vb 0 [.int .i64 4, .int .u64 0, .bool false, .string dg, .int .i64 0, .string ⟨#[]⟩, .slice none 0 0, .slice none 0 0, .int .i64 0])
  obtain ⟨r0, r1, r2, r3, r4, r5, r6, r7, r8⟩ := punhide HRes
  exact bodyPost_ret (v := .agg #[.int .i64 4, .int .u64 0, .bool false, .string dg, .int .i64 0, .string ⟨#[]⟩, .slice none 0 0, .slice none 0 0, .int .i64 0]) (by simp [results, Tryd.results68, go_sem, r0, r1, r2, r3, r4, r5, r6, r7, r8]) rfl ⟨rfl, punhide HG⟩
end Go.Proofs.YtppkknmgdahniaaDoor.Pol
