/- What is proved here: rows of texts that lie anywhere, empty ones too; what bitsOf, May, Names and Mask of package cats do with such a row, walked; conditions: as each theorem states. -/
import Derived.Test.YtnagecbepidfiaaGreatDoorVa
import Derived.Test.YtnagecbepidfiaaGreatDoorBb
import Derived.Test.YtnagecbepidfiaaGreatDoorBa
namespace Go.Proofs.YtnagecbepidfiaaGreatDoor.Pol
set_option maxRecDepth 100000
open Go.RowKit Go.Maps Go.Proofs.YtnagecbepidfiaaGreatDoor.Nc
set_option linter.unusedVariables false
set_option linter.unusedSimpArgs false

/-- A row of texts that lies from a place of a block on. -/
def RowO (w : World) (g o : Nat) (L : List Tx) : Prop := g < w.heap.size ∧ ∀ i, ∀ h : i < L.length, w.cell? ⟨g, o + i, none⟩ = some (.string ⟨(L[i]'h).toArray⟩)
theorem RowO.step {w w' : World} {g o : Nat} {L : List Tx} (h : RowO w g o L) (hb : Below w.heap.size w w') : RowO w' g o L :=
  ⟨Nat.lt_of_lt_of_le h.1 hb.size, fun i hi => (hb.cell (p := ⟨g, o + i, none⟩) h.1).trans (h.2 i hi)⟩
/-- A row of texts, as a slice has it. -/
def TxIn (w : World) (a : Option Addr) (n : Nat) (L : List Tx) : Prop := L.length = n ∧ (L.length = 0 ∨ ∃ g o, a = some ⟨g, o, none⟩ ∧ RowO w g o L)
theorem TxIn.step {w w' : World} {a : Option Addr} {n : Nat} {L : List Tx} (h : TxIn w a n L) (hb : Below w.heap.size w w') : TxIn w' a n L :=
  ⟨h.1, h.2.imp id fun ⟨g, o, e, r⟩ => ⟨g, o, e, r.step hb⟩⟩
theorem TxIn.get {w : World} {a : Option Addr} {n : Nat} {L : List Tx} (h : TxIn w a n L) (h0 : 0 < n) : ∃ g o, a = some ⟨g, o, none⟩ ∧ RowO w g o L :=
  h.2.resolve_left (by rw [h.1]; omega)

set_option maxRecDepth 100000 in
theorem bitsOf_o (a : Option Addr) (n c : Nat) (L : List Cm.Tx) (hn : L.length = n) (hn2 : n ≤ 1000) (hl : ∀ x ∈ L, x.length ≤ 1000000) (w : World) (hr : TxIn w a n L) :
    Calls Tryz.prog 77 #[.slice a n c] w fun e w' => e = .returned (.map (some w.heap.size)) ∧ Below w.heap.size w w' ∧
      ∃ D, w'.ownsMap Tryz.prog 9 (plainElem (H := Unit) Tryz.prog 37) w.heap.size n D ∧ Cm.BitsAt D L n := by
  have hmm := fun q z w => run_makeMap_hint (P := Tryz.prog) Tryz.underlying111 q z w
  go_enter Tryz.func77, Tryz.ntmps77
  go_wp2
  go_loopw [11] (fun i wr => ∃ k : Nat, k ≤ n ∧ i = .int .i64 (k : Int) ∧ Below w.heap.size w wr ∧ ∃ D, wr.ownsMap Tryz.prog 9 (plainElem (H := Unit) Tryz.prog 37) w.heap.size k D ∧ Cm.BitsAt D L k) (fun i _ => n - (intOf i).toNat)
  case atStart => exact ⟨0, Nat.zero_le _, rfl, (Below.refl _ _).alloc (Nat.le_refl _) _, .map [], World.ownsMap_made _ _ _ _, Cm.BitsAt.start L⟩
  case round =>
    obtain ⟨k, hk, rfl, hB, D, hown, hD⟩ := hrel
    by_cases hlt : k < n
    · obtain ⟨x, hx, hx2, hx3⟩ := txt (L[k]'(by omega))
      obtain ⟨g, o, rfl, hrow⟩ := hr.get (by omega)
      have hc := (hrow.step hB).2 k (by omega)
      rw [hx] at hc
      have hLk : L[k]? = some x.data.toList := by rw [hx2]; exact List.getElem?_eq_getElem (by omega)
      have hxl := hl _ (List.getElem_mem (show k < L.length by omega))
      have hkey : keyOf Tryz.prog 9 (.string x) = some (.string x.data.toList) := WideMaps.keyOf_string_mk Tryz.underlying9 (by unfold maxLen; omega)
      have hownd : wr.drew.ownsMap Tryz.prog 9 (plainElem (H := Unit) Tryz.prog 37) w.heap.size k D := hown
      obtain ⟨c0, hrun, hat, _⟩ := hownd.lookup_int law Tryz.underlying111 Tryz.underlying37 (zero_u64 _) hkey
      have hc0 : c0 = (Cm.valK L k x.data.toList : Int) := by
        have := hat.symm.trans (hD.2.1 x.data.toList)
        injection this with this
        injection this
      subst hc0
      obtain ⟨V, hV⟩ : ∃ V, Cm.valK L k x.data.toList ||| Cm.bitN k = V := ⟨_, rfl⟩
      have hor : bits BinOp.or IntKind.u64 (Cm.valK L k x.data.toList : Int) (Cm.bitN k : Int) = (V : Int) := by rw [← hV]; exact u64_or_nat _ _ (Cm.valK_lt _ _ _) (Cm.bitN_lt _)
      have hVl : V < 18446744073709551616 := by rw [← hV]; exact Nat.or_lt_two_pow (n := 64) (Cm.valK_lt _ _ _) (Cm.bitN_lt _)
      have hD2 := hD.next (hown.tidy law) hLk
      rw [hV] at hD2
      obtain ⟨w2, hup, hown2, hgr⟩ := hownd.update (val := .int .u64 (V : Int)) law Tryz.underlying111 (by unfold maxLen; omega) hkey (plainElem_int Tryz.underlying37 (WalkArith.wf_u64 (by omega)))
      have hB2 : Below w.heap.size w w2 := (hB.drew).grown hgr (Below.drew hB).size (fun j hj => by cases hj; exact Nat.le_refl _)
      clear hr hrow
      clear hD hat hownd hown hV hVl hxl hx hx2 hx3 hLk hkey
      generalize Cm.valK L k x.data.toList = v0 at *
      go_wp2_with fail
      go_region_held3 (fun w' => True) (trivial) (first | (go_at_call 83; refine (bitAt_any k _).mono ?_; rintro e w ⟨rfl, rfl⟩))
      all_goals
        go_wp2
        go_roundw
        case rel => exact ⟨k + 1, hlt, by go_num, hB2, _, hown2, hD2⟩
        case measure => simp [intOf]; omega
    · have : k = n := by omega
      subst this
      go_wp2
      go_ret
      exact ⟨rfl, hB, D, hown, hD⟩
set_option maxRecDepth 100000 in
set_option maxHeartbeats 1000000 in
theorem may_o (a : Option Addr) (n c : Nat) (L : List Cm.Tx) (hn : L.length = n) (hn2 : n ≤ 1000) (hl : ∀ x ∈ L, x.length ≤ 1000000) (q : Nat) (hq : Cm.mayE L = q) (w : World) (hr : TxIn w a n L) :
    Calls Tryz.prog 42 #[.slice a n c] w fun e w' => e = .returned (.int .i64 (q : Int)) ∧ Below w.heap.size w w' := by
  by_cases h64 : 64 < n
  · have hm : Cm.mayE L = 3 := by unfold Cm.mayE; rw [if_pos (by omega)]
    have hq3 := hq.symm.trans hm
    subst hq3
    clear hq hm
    go_enter Tryz.func42, Tryz.ntmps42
    go_wp2
    go_ret
    exact ⟨rfl, Below.refl _ _⟩
  · rw [may_small (by omega)] at hq
    have C := fun W (h : TxIn W a n L) => bitsOf_o a n c L hn hn2 hl W h
    have HQ := hide hq
    clear hq
    go_enter Tryz.func42, Tryz.ntmps42
    go_wp2_with fail
    refine (C _ hr).mono ?_
    rintro e w1 ⟨rfl, hB, D, hown, hD⟩
    obtain ⟨z, hz⟩ : ∃ z, size D = z := ⟨_, rfl⟩
    have hzn := hD.2.2.1
    have hzd := hD.2.2.2
    rw [hz] at hzn hzd
    rw [List.take_of_length_le (by omega)] at hzd
    by_cases hd : L.Nodup
    · have hzz := hzd.2 hd
      subst hzz
      have hlm := fun ty => hown.len Tryz.underlying111 ty
      rw [hz] at hlm
      obtain ⟨w0, hrun, hrg0, hg0, hs0⟩ := hown.range law Tryz.underlying111
      have hB0 : Below w.heap.size w w0 := hB.grown hg0 hB.size (fun j hj => by cases hj)
      obtain ⟨R, hR⟩ : ∃ R, w1.heap.size = R := ⟨_, rfl⟩
      rw [hR] at hrg0 hrun
      have hwR : w.heap.size < R := by rw [← hR]; exact hown.lt
      rw [hz] at hrg0
      clear hzn hzd hB hl hr hs0 hg0 C hR
      go_wp2_with fail
      go_loopw [4] (fun _ wr => ∃ left cnt, wr.ranges Tryz.prog 9 (plainElem (H := Unit) Tryz.prog 37) w.heap.size R z D left cnt ∧ Below w.heap.size w wr ∧ ∀ x, has D (.string x) = true → left (.string x) = false → Cm.nameB x = true) (fun _ wr => wr.rangeLeft w.heap.size R)
      case atStart => exact ⟨_, _, hrg0, hB0, fun x h1 h2 => by rw [h1] at h2; cases h2⟩
      case round =>
        obtain ⟨left, cnt, hrg, hB, hno⟩ := hrel
        rcases hrg.next law 0 with ⟨h0, hl0, hrun⟩ | ⟨key, v, kl, y, w2, cnt2, hkey, hlk, hv, hat, hrun, hrg2, hlt, hgr2, hsz2, hen⟩
        · have hall : L.all Cm.nameB = true := by
            rw [List.all_eq_true]
            intro x hx
            refine hno x ?_ (hl0 _)
            rw [hD.1 x, List.take_of_length_le (by omega)]
            exact decide_eq_true hx
          have hq := unhide HQ
          rw [hall, decide_eq_true hd] at hq
          have HQ2 := hide (show (0 : Nat) = q from hq)
          clear hq hall hl0 hno hD hrg hown HQ
          go_wp2
          go_ret
          exact ⟨by rw [← unhide HQ2]; rfl, hB⟩
        · obtain ⟨x, rfl, rfl, hxl⟩ := keyOf_str Tryz.underlying9 hkey
          obtain ⟨cv, rfl, _, _⟩ := plainElem_int_inv Tryz.underlying37 hv
          obtain ⟨s, hs, hs2, hs3⟩ := txt x
          have hB2 : Below w.heap.size w w2 := hB.grown hgr2 hB.size (fun j hj => by cases hj; omega)
          have hmem : has D (.string x) = true := has_true_of_atKey hat
          cases hnm : Cm.nameB x
          · have C : ∀ W, Calls Tryz.prog 78 #[.string s] W fun e w' => e = .returned (.bool false) ∧ w' = W := fun W => by
              have := mayName_any s W (by unfold maxLen at hxl; omega)
              rwa [hs2, hnm] at this
            have hall : L.all Cm.nameB = false := by
              rw [List.all_eq_false]
              refine ⟨x, ?_, by rw [hnm]; simp⟩
              have := hD.1 x
              rw [hmem] at this
              exact List.mem_of_mem_take (of_decide_eq_true this.symm)
            have hq := unhide HQ
            rw [hall] at hq
            have HQ2 := hide (show (20 : Nat) = q from hq)
            rw [show encStr x = Value.string s from congrArg Value.string hs] at hrun hen
            clear hq hall hno hD hrg hown HQ hrg2 hgr2 hsz2 hat hv hkey hs hs2 hs3 hxl hnm hmem hlk
            go_wp2_with (go_at_call 78; refine (C _).mono ?_; rintro e w ⟨rfl, rfl⟩)
            go_ret
            exact ⟨by rw [← unhide HQ2]; rfl, hB2⟩
          · have C : ∀ W, Calls Tryz.prog 78 #[.string s] W fun e w' => e = .returned (.bool true) ∧ w' = W := fun W => by
              have := mayName_any s W (by unfold maxLen at hxl; omega)
              rwa [hs2, hnm] at this
            have hno2 : ∀ y, has D (.string y) = true → (fun z => left z && !z.sameKey (.string x)) (.string y) = false → Cm.nameB y = true := by
              intro y h1 h2
              cases hly : left (.string y)
              · exact hno y h1 hly
              · have : Lit.sameKey (.string y) (.string x) = true := by simpa [hly] using h2
                have e := WideAt.sameKey_eq this
                injection e with e
                rw [e]; exact hnm
            have hmes : w2.rangeLeft w.heap.size R < wr.rangeLeft w.heap.size R := by rw [hrg2.left_eq, hrg.left_eq]; exact hlt
            rw [show encStr x = Value.string s from congrArg Value.string hs] at hrun hen
            clear hno hrg hown hgr2 hsz2 hat hv hkey hs hs2 hs3 hxl hnm hmem hlk
            go_wp2_with (go_at_call 78; refine (C _).mono ?_; rintro e w ⟨rfl, rfl⟩)
            go_roundw
            case rel => exact ⟨_, _, hrg2, hB2, hno2⟩
            case measure => exact hmes
    · have hzlt : z < n := by
        have : z ≠ n := fun e => hd (hzd.1 e)
        omega
      have hq := unhide HQ
      rw [decide_eq_false hd, Bool.and_false] at hq
      have HQ2 := hide (show (20 : Nat) = q from hq)
      have hlm := fun ty => hown.len Tryz.underlying111 ty
      rw [hz] at hlm
      have d1 : decide ((z : Int) < (n : Int)) = true := decide_eq_true (by omega)
      clear hzn hzd hl hr C hq hown hD hz hd HQ
      go_wp2
      go_ret
      exact ⟨by rw [← unhide HQ2]; rfl, hB⟩
set_option maxRecDepth 100000 in
set_option maxHeartbeats 1000000 in
theorem names_o (a : Option Addr) (n c : Nat) (L : List Cm.Tx) (hn : L.length = n) (hn2 : n ≤ 1000) (hl : ∀ x ∈ L, x.length ≤ 1000) (m : Nat) (hm : m < 18446744073709551616) (u : ByteArray) (hu : Cm.joinB (Cm.selK L m n) = u.data.toList) (w : World) (hr : TxIn w a n L) :
    Calls Tryz.prog 48 #[.slice a n c, .int .u64 (m : Int)] w fun e w' => e = .returned (.string u) ∧ Below w.heap.size w w' := by
  have HU := hide hu
  clear hu
  go_enter Tryz.func48, Tryz.ntmps48
  go_wp2
  go_loopw [6, 11] (fun bt i wr => ∃ (k : Nat) (ws : List Cm.Tx), i = .int .i64 (k : Int) ∧ k ≤ n ∧ ws = Cm.selK L m k ∧ bt = .string (if ws = [] then ⟨#[]⟩ else ⟨#[32]⟩) ∧ Lib.IsBuilderF 81 5 w.heap.size w.heap.size (Lib.byteCells (Cm.joinB ws)) wr ∧ Below w.heap.size w wr) (fun _ i _ => n - (intOf i).toNat)
  case atStart => exact ⟨0, [], rfl, by omega, rfl, rfl, Lib.IsBuilderF.of (Lib.fresh_isBuilder 81 5 w), (Below.refl _ w).alloc (Nat.le_refl _) _⟩
  case round =>
    obtain ⟨k, ws, rfl, hk, hws, rfl, hI, hB⟩ := hrel
    have hlw : w.heap.size < wr.heap.size := by rcases hI with h | h <;> exact h.lt
    obtain ⟨sp, hsp⟩ : ∃ sp : ByteArray, (if ws = [] then (⟨#[]⟩ : ByteArray) else ⟨#[32]⟩) = sp := ⟨_, rfl⟩
    rw [hsp]
    have HSP := hide hsp
    by_cases hlt : k < n
    · obtain ⟨x, hx, hx2, hx3⟩ := txt (L[k]'(by omega))
      obtain ⟨g, o, rfl, hrow⟩ := hr.get (by omega)
      have hc := (hrow.step hB).2 k (by omega)
      rw [hx] at hc
      have hxl := hl _ (List.getElem_mem (show k < L.length by omega))
      have hjl := Cm.names_len (m := m) (k := k) (by omega) hl
      rw [← hws] at hjl
      have hand : bits BinOp.and IntKind.u64 (m : Int) (Cm.bitN k : Int) = ((m &&& Cm.bitN k : Nat) : Int) := u64_and_nat _ _ hm (Cm.bitN_lt _)
      clear hr hrow
      cases hbit : m.testBit k
      · have h0 := (Cm.bit_zero hm).2 hbit
        have hz : (bits BinOp.and IntKind.u64 (m : Int) (Cm.bitN k : Int) == 0) = true := by rw [hand, h0]; rfl
        have hws2 : ws = Cm.selK L m (k + 1) := by rw [Cm.selK_no hbit]; exact hws
        have HWS := hide hws2
        clear hand hbit h0 hws hws2 hx hx2 hx3 hxl hjl hsp
        go_wp2_with (go_at_call 83; refine (bitAt_any k _).mono ?_; rintro e wr ⟨rfl, rfl⟩)
        go_roundw
        case rel => exact ⟨k + 1, ws, by go_num, hlt, unhide HWS, by rw [unhide HSP], hI, hB⟩
        case measure => simp [intOf]; omega
      · have h0 : ¬ (m &&& Cm.bitN k = 0) := fun h => by have := (Cm.bit_zero hm).1 h; rw [hbit] at this; cases this
        have hz : (bits BinOp.and IntKind.u64 (m : Int) (Cm.bitN k : Int) == 0) = false := by rw [hand]; exact beq_eq_false_iff_ne.2 (by omega)
        have hws2 : ws ++ [x.data.toList] = Cm.selK L m (k + 1) := by rw [Cm.selK_yes (by omega) hbit, ← hws, hx2]
        have hsp2 : sp.data.toList = if ws = [] then [] else [32] := by rw [← hsp]; split <;> rfl
        have hjs := Cm.joinB_snoc ws x.data.toList
        rw [← hsp2] at hjs
        have hb1 : (Lib.byteCells (Cm.joinB ws)).length + sp.size ≤ 1002001 := by
          have : sp.size ≤ 1 := by rw [← hsp]; split <;> decide
          rw [Lib.byteCells_length]
          have := Nat.mul_le_mul_right 1001 (show k ≤ 1000 by omega)
          omega
        have hb2 : (Lib.byteCells (Cm.joinB ws) ++ Lib.strCells sp).length + x.size ≤ 2000000 := by
          rw [List.length_append, Lib.strCells_length]
          omega
        have hcs : Lib.byteCells (Cm.joinB ws) ++ Lib.strCells sp ++ Lib.strCells x = Lib.byteCells (Cm.joinB (ws ++ [x.data.toList])) := by
          rw [hjs, strCells_is, strCells_is, Lib.byteCells_append, Lib.byteCells_append, List.append_assoc]
        have HB1 := hide hb1
        have HB2 := hide hb2
        have HWS := hide hws2
        have HCS := hide hcs
        clear hand hbit h0 hws hws2 hx hx2 hx3 hxl hjl hb1 hb2 hjs hsp hsp2 hcs
        go_wp2_with (go_at_call 83; refine (bitAt_any k _).mono ?_; rintro e wr ⟨rfl, rfl⟩)
        refine (Tryz.Builder_WriteString_k w.heap.size w.heap.size _ _ _ hI (by have := unhide HB1; omega) (Nat.le_of_lt hlw)).mono ?_
        rintro e w2 ⟨rfl, i2, b2, k2⟩
        have hl2 := Nat.le_of_lt (Nat.lt_of_lt_of_le hlw b2.size)
        replace hB := hB.trans b2
        go_wp2_with fail
        refine (Tryz.Builder_WriteString_k w.heap.size w.heap.size _ _ _ (.inr i2) (by have := unhide HB2; omega) hl2).mono ?_
        rintro e w3 ⟨rfl, i3, b3, k3⟩
        replace hB := hB.trans b3
        rw [unhide HCS] at i3
        go_wp2
        go_roundw
        case rel => exact ⟨k + 1, _, by go_num, hlt, unhide HWS, by rw [if_neg (by simp)], .inr i3, hB⟩
        case measure => simp [intOf]; omega
    · have hkn : k = n := by omega
      rw [hkn] at hws
      have hu := unhide HU
      rw [← hws] at hu
      rw [hu] at hI
      clear hws hu HU hkn hsp HSP
      go_wp2_with fail
      refine (Tryz.Builder_String_any_k w.heap.size w.heap.size _ _ hI (Nat.le_of_lt hlw)).mono ?_
      rintro e w3 ⟨rfl, i3, b3, k3⟩
      go_wp2
      go_ret
      exact ⟨rfl, hB.trans b3⟩
/-- The mask of a row of names, and the error, also where two names are one. -/
def maskG (L : List Tx) : Nat → List Tx → Nat × Nat
  | m, [] => (m, 0)
  | m, x :: r => if x ∈ L then maskG L (m ||| Cm.valK L L.length x) r else (0, 20)
theorem maskG_is {L : List Tx} (hd : L.Nodup) (hn : L.length ≤ 64) : ∀ (ws : List Tx) (m : Nat), maskG L m ws = Cm.maskF L m ws
  | [], m => rfl
  | x :: r, m => by
    rcases bits_idx (n := L.length) rfl hn hd x with ⟨hno, hi⟩ | ⟨i, hi, hmem, hval, hpl⟩
    · rw [Cm.maskF_miss _ _ hi, maskG, if_neg hno]
    · rw [Cm.maskF_hit _ _ hi, maskG, if_pos hmem, hval, maskG_is hd hn]

set_option maxRecDepth 100000 in
set_option maxHeartbeats 2000000 in
theorem mask_o (ad : Option Addr) (n c : Nat) (L : List Cm.Tx) (hn : L.length = n) (hn2 : n ≤ 1000) (hl : ∀ x ∈ L, x.length ≤ 1000000) (s : ByteArray) (hs : s.size ≤ 9223372036854775806) (q e0 : Nat) (hq : maskG L 0 (Cm.words s.data.toList) = (q, e0)) (w : World) (hr : TxIn w ad n L) :
    Calls Tryz.prog 101 #[.slice ad n c, .string s] w fun e w' => e = .returned (.tuple #[.int .u64 (q : Int), .int .i64 (e0 : Int)]) ∧ Below w.heap.size w w' := by
  have C := fun W (h : TxIn W ad n L) => bitsOf_o ad n c L hn (by omega) hl W h
  go_enter Tryz.func101, Tryz.ntmps101
  go_wp2_with fail
  refine (C _ hr).mono ?_
  rintro e w1 ⟨rfl, hB1, D, hown1, hD⟩
  clear C
  have hDh : ∀ x, has D (.string x) = decide (x ∈ L) := fun x => by rw [hD.1 x, List.take_of_length_le (by omega)]
  have hDv := hD.2.1
  clear hD
  go_wp2_with fail
  go_loopw [1, 7] (fun sv mv wr => ∃ (t : ByteArray) (m : Nat), sv = .string t ∧ mv = .int .u64 (m : Int) ∧ m < 18446744073709551616 ∧ t.size ≤ s.size ∧ maskG L m (Cm.words t.data.toList) = (q, e0) ∧ wr.ownsMap Tryz.prog 9 (plainElem (H := Unit) Tryz.prog 37) w.heap.size n D ∧ Below w.heap.size w wr) (fun sv _ _ => match sv with | .string t => t.size | _ => 0)
  case atStart => exact ⟨s, 0, rfl, rfl, by omega, Nat.le_refl _, hq, hown1, hB1⟩
  case round =>
    obtain ⟨t, m, rfl, rfl, hm, hts, hF, hown, hB⟩ := hrel
    by_cases h0 : t.size = 0
    · have hz := empty_yes h0
      have htn : t.data.toList = [] := List.eq_nil_of_length_eq_zero (by rw [len_size]; exact h0)
      rw [htn, Cm.words_nil, maskG] at hF
      have hqm : m = q := congrArg Prod.fst hF
      have he0 : 0 = e0 := congrArg Prod.snd hF
      subst hqm
      subst he0
      clear hF htn h0 hq
      go_wp2
      go_ret2
      exact ⟨rfl, hB⟩
    · have hz := empty_no h0
      obtain ⟨a, r, b, CC, hw, hrs, has2⟩ := cut_ex t (by omega) h0
      by_cases ha0 : a.size = 0
      · have hza := empty_yes ha0
        have han : a.data.toList = [] := List.eq_nil_of_length_eq_zero (by rw [len_size]; exact ha0)
        rw [hw, han, if_pos rfl, List.nil_append] at hF
        have HF := hide hF
        have hrs2 : r.size ≤ s.size := by omega
        clear hw hF han ha0 h0
        go_wp2_with fail
        refine (CC _).mono ?_
        rintro e w2 ⟨rfl, j, rfl⟩
        have hown2 := ownsMap_drewN hown j
        have hB2 := Go.below_drewN hB j
        clear CC hown hB
        go_wp2
        go_roundw
        case rel => exact ⟨r, m, rfl, rfl, hm, hrs2, unhide HF, hown2, hB2⟩
        case measure => exact hrs
      · have hza := empty_no ha0
        have han : a.data.toList ≠ [] := fun e => ha0 (by have := congrArg List.length e; rwa [len_size] at this)
        rw [hw, if_neg han, List.singleton_append] at hF
        have hkey : keyOf Tryz.prog 9 (.string a) = some (.string a.data.toList) := WideMaps.keyOf_string_mk Tryz.underlying9 (by unfold maxLen; omega)
        by_cases hmem : a.data.toList ∈ L
        case neg =>
          have hno := hmem
          rw [maskG, if_neg hno] at hF
          have hqm : 0 = q := congrArg Prod.fst hF
          have he0 : 20 = e0 := congrArg Prod.snd hF
          subst hqm
          subst he0
          have hha := hDh a.data.toList
          rw [decide_eq_false hno] at hha
          clear hF hw hno hmem han ha0 h0 hq
          go_wp2_with fail
          refine (CC _).mono ?_
          rintro e w2 ⟨rfl, j, rfl⟩
          have hown2 := ownsMap_drewN hown j
          have hB2 := Go.below_drewN hB j
          obtain ⟨v, ps, hrun, hv⟩ := hown2.look_ok law Tryz.underlying111 (zero_u64 _) (plainElem_int Tryz.underlying37 (by decide)) hkey
          rw [hha] at hrun
          obtain ⟨cv, rfl, _, _⟩ := plainElem_int_inv Tryz.underlying37 hv
          clear CC hown hB hv hha hown2 hkey hDh hDv
          go_wp2
          go_ret2
          exact ⟨rfl, hB2⟩
        case pos =>
          rw [maskG, if_pos hmem] at hF
          have hha := hDh a.data.toList
          rw [decide_eq_true hmem] at hha
          have hva := hDv a.data.toList
          have hpl := Cm.valK_lt L a.data.toList L.length
          obtain ⟨p, hp⟩ : ∃ p, Cm.valK L L.length a.data.toList = p := ⟨_, rfl⟩
          rw [← hn, hp] at hva
          rw [hp] at hF hpl
          have hor : bits BinOp.or IntKind.u64 (m : Int) (p : Int) = ((m ||| p : Nat) : Int) := u64_or_nat _ _ hm hpl
          have hm2 : m ||| p < 18446744073709551616 := Nat.or_lt_two_pow (n := 64) hm hpl
          generalize m ||| p = m2 at hor hm2 hF
          have HF := hide hF
          have hrs2 : r.size ≤ s.size := by omega
          clear hF hw han ha0 h0 hp hmem
          go_wp2_with fail
          refine (CC _).mono ?_
          rintro e w2 ⟨rfl, j, rfl⟩
          have hown2 := ownsMap_drewN hown j
          have hB2 := Go.below_drewN hB j
          obtain ⟨v, ps, hrun, hv⟩ := hown2.look_ok law Tryz.underlying111 (zero_u64 _) (plainElem_int Tryz.underlying37 (by decide)) hkey
          rw [hha] at hrun
          rw [hva] at hv
          obtain ⟨cv, rfl, hcv, _⟩ := plainElem_int_inv Tryz.underlying37 hv
          obtain rfl : cv = (p : Int) := by
            have := congrArg Prod.fst hcv
            simp only at this
            injection this with this
            injection this with _ this
            exact this.symm
          clear CC hown hB hv hha hkey hva hcv
          go_wp2
          go_roundw
          case rel => exact ⟨r, m2, rfl, rfl, hm2, hrs2, unhide HF, hown2, hB2⟩
          case measure => exact hrs
end Go.Proofs.YtnagecbepidfiaaGreatDoor.Pol
