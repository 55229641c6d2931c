/- What is proved here: what May and its helpers of package dec do, walked; conditions: as each theorem states. What is proved here: the parts of what a call of two results hands back, and the block of a struct that is handed back; conditions: as each theorem states. What is proved here: what cutDigits and exponent of package dec do, walked; conditions: as each theorem states. What is proved here: rows of bytes and of numbers as they lie in memory; conditions: as each theorem states. What is proved here: what digit, zeros and run of the document's own answers do, walked; conditions: as each theorem states. What is proved here: what Norm of the document's own answers does, walked; conditions: as each theorem states. What is proved here: what Align of the document's own answers does, walked; conditions: as each theorem states. What is proved here: what Plus and Minus of the document's own answers do, walked; conditions: as each theorem states. What is proved here: what Add, Turn and Sub of the document's own answers do, walked; conditions: both decimals may be. -/
import Derived.Test.YtppkknmgdahniaaDoorRows
import Derived.Test.YtppkknmgdahniaaDoorZAa
import Derived.WalkKit
import Derived.WalkSpells
import Derived.WalkLawsBesides
import Derived.Lib.Strings
import Derived.Lib.IndexBytes
import Derived.Deep.QuietTactic
import Derived.BigQuiet
import Derived.Laws.BytesArg
import Derived.Deep.AppendSrc
import Derived.Deep.RegionHeld3
namespace Go.Proofs.YtppkknmgdahniaaDoor
set_option maxRecDepth 100000
open Go.RowKit
set_option linter.unusedVariables false
set_option linter.unusedSimpArgs false

theorem isDigit_any (c : UInt8) (w : World) :
    Calls Tryd.prog 106 #[.int .u8 (c.toNat : Int)] w fun e w' => e = .returned (.bool (Dm.isD c)) ∧ w' = w := by
  have hc : c.toNat < 256 := c.toNat_lt
  by_cases h1 : (48 : Int) ≤ (c.toNat : Int)
  · by_cases h2 : (c.toNat : Int) ≤ 57
    · have e : Dm.isD c = true := Dm.isD_iff.2 (by omega)
      rw [e]
      go_enter Tryd.func106, Tryd.ntmps106
      go_wp2
      go_ret
      exact ⟨rfl, rfl⟩
    · have e : Dm.isD c = false := by rw [Bool.eq_false_iff]; intro h; have := Dm.isD_iff.1 h; omega
      rw [e]
      go_enter Tryd.func106, Tryd.ntmps106
      go_wp2
      go_ret
      exact ⟨rfl, rfl⟩
  · have e : Dm.isD c = false := by rw [Bool.eq_false_iff]; intro h; have := Dm.isD_iff.1 h; omega
    rw [e]
    go_enter Tryd.func106, Tryd.ntmps106
    go_wp2
    go_ret
    exact ⟨rfl, rfl⟩

theorem hide {p : Prop} (h : p) : Hid p := h
theorem unhide {p : Prop} (h : Hid p) : p := h
theorem size_len (s : ByteArray) : s.size = s.data.toList.length := (Array.length_toList (xs := s.data)).symm
theorem mayB_short {ng : Bool} {l : List UInt8} {n : Int} (h : ¬ (1 ≤ l.length ∧ l.length ≤ 60 ∧ 0 ≤ n ∧ n ≤ 60)) : Dm.mayB ng l n = false := by
  unfold Dm.mayB
  rw [decide_eq_false h]; rfl
theorem mayB_long {ng : Bool} {l : List UInt8} {n : Int} (h : 1 ≤ l.length ∧ l.length ≤ 60 ∧ 0 ≤ n ∧ n ≤ 60) (hd : Dm.allD l) :
    Dm.mayB ng l n = if l = [48] then (decide (n = 0) && !ng) else (l.headD 0 != 48 && (decide (n = 0) || l.getLastD 0 != 48)) := by
  unfold Dm.mayB
  rw [decide_eq_true h, Dm.allD_all.2 hd]; rfl
theorem mayB_bad {ng : Bool} {l : List UInt8} {n : Int} {k : Nat} (h : k < l.length) (hd : Dm.isD l[k] = false) : Dm.mayB ng l n = false := by
  unfold Dm.mayB
  have : l.all Dm.isD = false := by
    rw [List.all_eq_false]
    exact ⟨l[k], List.getElem_mem h, by rw [hd]; simp⟩
  rw [this]; simp
theorem ba_get (s : ByteArray) (k : Nat) (h : k < s.size) : s[k] = s.data.toList[k]'(by rw [← size_len]; exact h) := rfl
theorem allD_take_succ {l : List UInt8} {k : Nat} (h : k < l.length) (h1 : Dm.allD (l.take k)) (h2 : Dm.isD l[k] = true) : Dm.allD (l.take (k + 1)) := by
  rw [List.take_succ_eq_append_getElem h]
  refine Dm.allD_append.2 ⟨h1, ?_⟩
  intro c hc
  simp at hc
  rw [hc]; exact h2
theorem toList_eq (s : ByteArray) : s.toList = s.data.toList := ByteArray.toList_eq s
theorem last_get (l : List UInt8) (h : 0 < l.length) : l.getLastD 0 = l[l.length - 1] := by
  rw [List.getLastD_eq_getLast?, List.getLast?_eq_getElem?, List.getElem?_eq_getElem (by omega)]; rfl
theorem head_get (l : List UInt8) (h : 0 < l.length) : l.headD 0 = l[0] := by
  cases l with
  | nil => simp at h
  | cons c t => rfl
theorem ne48 {c : UInt8} : (c != 48) = decide (¬ (c.toNat : Int) = 48) := by
  rw [Bool.eq_iff_iff]
  simp only [bne_iff_ne, ne_eq, decide_eq_true_eq]
  have : c = 48 ↔ (c.toNat : Int) = 48 := by
    rw [← UInt8.toNat_inj]
    show c.toNat = 48 ↔ _
    omega
  rw [this]
theorem neInt {c : UInt8} : ((c.toNat : Int) != 48) = (c != 48) := by
  rw [ne48, Bool.eq_iff_iff, bne_iff_ne, decide_eq_true_eq]
theorem last_ba (s : ByteArray) (h : s.size - 1 < s.size) (h' : s.data.toList.length - 1 < s.data.toList.length) : s[s.size - 1] = s.data.toList[s.data.toList.length - 1] := by
  rw [ba_get]
  congr 1
theorem ret_bool {a b : Bool} (h : a = b) : Ending.returned (.bool a) = .returned (.bool b) := by rw [h]
set_option maxRecDepth 100000 in
set_option maxHeartbeats 1000000 in
theorem may_any (ng : Bool) (s : ByteArray) (n : Int) (w : World) (hs : s.size ≤ maxLen) :
    Calls Tryd.prog 98 #[.agg #[.bool ng, .string s, .int .i64 n]] w fun e w' => e = .returned (.bool (Dm.mayB ng s.data.toList n)) ∧ Below w.heap.size w w' := by
  unfold maxLen at hs
  have hz := size_len s
  have hb : Below w.heap.size w (w.alloc (.cells #[.bool ng, .string s, .int .i64 n] 26)) := (Below.refl _ _).alloc (Nat.le_refl _) _
  by_cases h : 1 ≤ s.data.toList.length ∧ s.data.toList.length ≤ 60 ∧ 0 ≤ n ∧ n ≤ 60
  · obtain ⟨h1, h2, h3, h4⟩ := id h
    have g1 : ¬ (s.size : Int) < 1 := by omega
    have g2 : ¬ (60 : Int) < (s.size : Int) := by omega
    have g3 : ¬ n < 0 := by omega
    have g4 : ¬ 60 < n := by omega
    have HH := hide h
    have H : Hid (s.size = s.data.toList.length) := hz
    clear hz h h1 h2 h3 h4
    go_enter Tryd.func98, Tryd.ntmps98
    go_wp2
    go_loop [25, 4] (fun i j => ∃ k : Nat, k ≤ s.size ∧ i = .int .i64 k ∧ Dm.allD (s.data.toList.take k)) (fun i _ => s.size - (intOf i).toNat)
    case atStart => exact ⟨0, Nat.zero_le _, rfl, by rw [List.take_zero]; exact Dm.allD_nil⟩
    case round =>
      obtain ⟨k, hk, rfl, hd⟩ := hrel
      by_cases hlt : k < s.size
      · have HD := hide hd
        clear hd
        go_wp2_with (go_at_call 106; refine (isDigit_any _ _).mono ?_; rintro e w' ⟨rfl, rfl⟩)
        · rename_i hbad
          go_ret
          refine ⟨ret_bool ?_, hb⟩
          rw [ba_get s k hlt, Bool.not_eq_true'] at hbad
          exact (mayB_bad (by rw [← size_len]; exact hlt) hbad).symm
        · rename_i hgood
          go_round
          case rel =>
            refine ⟨k + 1, by omega, by go_num, ?_⟩
            rw [ba_get s k hlt, Bool.not_eq_false'] at hgood
            exact allD_take_succ (by rw [← size_len]; exact hlt) (unhide HD) hgood
          case measure => simp [intOf]; omega
      · have hall : Dm.allD s.data.toList := by
          rw [List.take_of_length_le (by rw [← size_len]; omega)] at hd; exact hd
        have e0 := mayB_long (ng := ng) (unhide HH) hall
        have h0 : 0 < s.data.toList.length := by rw [← size_len]; omega
        have hl := last_get _ h0
        have hh := head_get _ h0
        have HE := hide e0
        have HL := hide hl
        have HF := hide hh
        clear hd hall e0 hl hh
        go_wp2
        · rename_i hq hn _
          subst hn
          go_ret
          refine ⟨ret_bool ?_, hb⟩
          rw [unhide HE, if_pos (by rw [toList_eq] at hq; simpa using hq)]; simp
        · rename_i hq hn _
          go_ret
          refine ⟨ret_bool ?_, hb⟩
          rw [unhide HE, if_pos (by rw [toList_eq] at hq; simpa using hq), decide_eq_false hn]; rfl
        · rename_i hq _ _ hc
          go_ret
          refine ⟨ret_bool ?_, hb⟩
          rw [unhide HE, if_neg (by rw [toList_eq] at hq; simpa using hq), unhide HF, ne48, decide_eq_false (fun g => g hc)]; rfl
        · rename_i hq _ _ hc hn
          subst hn
          go_ret
          refine ⟨ret_bool ?_, hb⟩
          rw [unhide HE, if_neg (by rw [toList_eq] at hq; simpa using hq), unhide HF, decide_eq_true (rfl : (0 : Int) = 0), Bool.true_or, Bool.and_true, neInt]
          exact congrArg (· != 48) (ba_get s 0 _)
        · rename_i hq _ _ hc hn hlt
          go_ret
          refine ⟨ret_bool ?_, hb⟩
          have e1 : (s.data.toList[0] != 48) = true := by rw [ne48]; exact decide_eq_true hc
          rw [unhide HE, if_neg (by rw [toList_eq] at hq; simpa using hq), unhide HF, e1, decide_eq_false hn, unhide HL, Bool.true_and, Bool.false_or]
          rw [neInt, neInt, beq_eq_false_iff_ne.2 hn, Bool.false_or, ba_get s 0, e1, Bool.true_and]
          exact congrArg (· != 48) (last_ba s (by omega) (by omega))
  · rw [mayB_short h]
    have h' : (s.size : Int) < 1 ∨ (60 : Int) < (s.size : Int) ∨ n < 0 ∨ 60 < n := by omega
    clear h hz
    by_cases c1 : (s.size : Int) < 1
    · go_enter Tryd.func98, Tryd.ntmps98
      go_wp2
      go_ret
      exact ⟨rfl, hb⟩
    · by_cases c2 : (60 : Int) < (s.size : Int)
      · go_enter Tryd.func98, Tryd.ntmps98
        go_wp2
        go_ret
        exact ⟨rfl, hb⟩
      · by_cases c3 : n < 0
        · go_enter Tryd.func98, Tryd.ntmps98
          go_wp2
          go_ret
          exact ⟨rfl, hb⟩
        · have c4 : 60 < n := by omega
          go_enter Tryd.func98, Tryd.ntmps98
          go_wp2
          go_ret
          exact ⟨rfl, hb⟩
end Go.Proofs.YtppkknmgdahniaaDoor

namespace Go.Proofs.YtppkknmgdahniaaDoor
set_option maxRecDepth 100000
open Go.RowKit
set_option linter.unusedVariables false
set_option linter.unusedSimpArgs false

/-- The parts of what a call hands back. -/
def rx : Option Dm.D → Bool | some d => d.ng | none => false
def ry : Option Dm.D → ByteArray | some d => ⟨d.ds.toArray⟩ | none => ⟨#[]⟩
def rz : Option Dm.D → Int | some d => d.sc | none => 0
def re : Option Dm.D → Int | some _ => 0 | none => 3
def tV (r : Option Dm.D) : Value := .tuple #[.agg #[.bool (rx r), .string (ry r), .int .i64 (rz r)], .int .i64 (re r)]
theorem bcell {W w1 : World} (hb : Below W.heap.size W w1) : (∀ b o, b < W.heap.size → w1.cell? ⟨b, o, none⟩ = W.cell? ⟨b, o, none⟩) ∧ (∀ b o, b < W.heap.size → w1.frozen? ⟨b, o, none⟩ = W.frozen? ⟨b, o, none⟩) :=
  ⟨fun b o h => hb.cell (p := ⟨b, o, none⟩) h, fun b o h => hb.frozen (p := ⟨b, o, none⟩) h⟩

/-- The block of a result, the first that a call has laid, holds nothing yet; what was there before is as it was. -/
def Own (w0 w : World) : Prop :=
  Below w0.heap.size w0 w ∧ w0.heap.size < w.heap.size ∧ (w.cell? ⟨w0.heap.size, 0, none⟩ = some (.bool false) ∧ w.cell? ⟨w0.heap.size, 1, none⟩ = some (.string ⟨#[]⟩) ∧ w.cell? ⟨w0.heap.size, 2, none⟩ = some (.int .i64 0)) ∧
  (w.frozen? ⟨w0.heap.size, 0, none⟩ = false ∧ w.frozen? ⟨w0.heap.size, 1, none⟩ = false ∧ w.frozen? ⟨w0.heap.size, 2, none⟩ = false)
theorem Own.start (w : World) : Own w (w.alloc (.cells #[.bool false, .string ⟨#[]⟩, .int .i64 0] 26)) :=
  ⟨(Below.refl _ _).alloc (Nat.le_refl _) _, by simp, ⟨by go_simp, by go_simp, by go_simp⟩, ⟨by go_simp, by go_simp, by go_simp⟩⟩
theorem Own.step {w0 w w' : World} (h : Own w0 w) (hb : Below w.heap.size w w') : Own w0 w' := by
  obtain ⟨h1, h2, ⟨a, b, c⟩, ⟨d, e, f⟩⟩ := h
  obtain ⟨hc, hf⟩ := bcell hb
  refine ⟨h1.trans (hb.mono (by omega)), Nat.lt_of_lt_of_le h2 hb.size, ⟨?_, ?_, ?_⟩, ⟨?_, ?_, ?_⟩⟩
  · rw [hc _ _ h2]; exact a
  · rw [hc _ _ h2]; exact b
  · rw [hc _ _ h2]; exact c
  · rw [hf _ _ h2]; exact d
  · rw [hf _ _ h2]; exact e
  · rw [hf _ _ h2]; exact f
theorem Own.drew {w0 w : World} (h : Own w0 w) : Own w0 w.drew := h.step (Below.refl _ _).drew
theorem Own.facts {w0 w : World} (h : Own w0 w) : w.cell? ⟨w0.heap.size, 0, none⟩ = some (.bool false) ∧ w.cell? ⟨w0.heap.size, 1, none⟩ = some (.string ⟨#[]⟩) ∧ w.cell? ⟨w0.heap.size, 2, none⟩ = some (.int .i64 0) ∧
  w.frozen? ⟨w0.heap.size, 0, none⟩ = false ∧ w.frozen? ⟨w0.heap.size, 1, none⟩ = false ∧ w.frozen? ⟨w0.heap.size, 2, none⟩ = false :=
  ⟨h.2.2.1.1, h.2.2.1.2.1, h.2.2.1.2.2, h.2.2.2.1, h.2.2.2.2.1, h.2.2.2.2.2⟩
theorem Own.end {w0 w : World} (h : Own w0 w) (x y z : Value) : Below w0.heap.size w0 (((w.setCell ⟨w0.heap.size, 0, none⟩ x).setCell ⟨w0.heap.size, 1, none⟩ y).setCell ⟨w0.heap.size, 2, none⟩ z) :=
  ((h.1.setCell (Nat.le_refl _) _).setCell (Nat.le_refl _) _).setCell (Nat.le_refl _) _

/-- Two boxed structs of three cells, the first blocks that a call has laid; what was there before is as it was. -/
def Two (w0 : World) (a b c x y z : Value) (w : World) : Prop :=
  Below w0.heap.size w0 w ∧ w0.heap.size + 1 < w.heap.size ∧ (w.cell? ⟨w0.heap.size, 0, none⟩ = some a ∧ w.cell? ⟨w0.heap.size, 1, none⟩ = some b ∧ w.cell? ⟨w0.heap.size, 2, none⟩ = some c) ∧
  (w.cell? ⟨w0.heap.size + 1, 0, none⟩ = some x ∧ w.cell? ⟨w0.heap.size + 1, 1, none⟩ = some y ∧ w.cell? ⟨w0.heap.size + 1, 2, none⟩ = some z)
theorem Two.start (w : World) (a b c x y z : Value) (t : Nat) : Two w a b c x y z ((w.alloc (.cells #[a, b, c] t)).alloc (.cells #[x, y, z] t)) :=
  ⟨((Below.refl _ _).alloc (Nat.le_refl _) _).alloc (by simp) _, by simp, ⟨by go_simp, by go_simp, by go_simp⟩, ⟨by go_simp, by go_simp, by go_simp⟩⟩
theorem Two.step {w0 w w' : World} {a b c x y z : Value} {B : Nat} (h : Two w0 a b c x y z w) (hB : w0.heap.size + 1 < B) (hb : Below B w w') : Two w0 a b c x y z w' := by
  obtain ⟨h1, h2, ⟨p, q, r⟩, ⟨s, t, u⟩⟩ := h
  refine ⟨h1.trans (hb.mono (by omega)), Nat.lt_of_lt_of_le h2 hb.size, ⟨?_, ?_, ?_⟩, ⟨?_, ?_, ?_⟩⟩
  · rw [hb.cell (p := ⟨w0.heap.size, 0, none⟩) (by show w0.heap.size < B; omega)]; exact p
  · rw [hb.cell (p := ⟨w0.heap.size, 1, none⟩) (by show w0.heap.size < B; omega)]; exact q
  · rw [hb.cell (p := ⟨w0.heap.size, 2, none⟩) (by show w0.heap.size < B; omega)]; exact r
  · rw [hb.cell (p := ⟨w0.heap.size + 1, 0, none⟩) (by show w0.heap.size + 1 < B; omega)]; exact s
  · rw [hb.cell (p := ⟨w0.heap.size + 1, 1, none⟩) (by show w0.heap.size + 1 < B; omega)]; exact t
  · rw [hb.cell (p := ⟨w0.heap.size + 1, 2, none⟩) (by show w0.heap.size + 1 < B; omega)]; exact u
theorem Two.next {w0 w w' : World} {a b c x y z : Value} (h : Two w0 a b c x y z w) (hb : Below w.heap.size w w') : Two w0 a b c x y z w' := h.step h.2.1 hb
theorem Two.alloc {w0 w : World} {a b c x y z : Value} (h : Two w0 a b c x y z w) (o : Obj) : Two w0 a b c x y z (w.alloc o) := h.next ((Below.refl _ _).alloc (Nat.le_refl _) _)
theorem Two.drew {w0 w : World} {a b c x y z : Value} (h : Two w0 a b c x y z w) : Two w0 a b c x y z w.drew := h.next (Below.refl _ _).drew
theorem Two.drewN {w0 w : World} {a b c x y z : Value} (h : Two w0 a b c x y z w) (n : Nat) : Two w0 a b c x y z (w.drewN n) := h.next (below_drewN (Below.refl _ _) n)

theorem mk_size (l : List UInt8) : (⟨l.toArray⟩ : ByteArray).size = l.length := by simp [ByteArray.size]
theorem mk_list (l : List UInt8) : (⟨l.toArray⟩ : ByteArray).data.toList = l := rfl
/-- A decimal that may be, as it is handed in. -/
theorem dV_may {d : Dm.D} (h : Dm.May d) : Dm.mayB d.ng (⟨d.ds.toArray⟩ : ByteArray).data.toList (d.sc : Int) = true := by
  rw [mk_list, Dm.mayB_iff]
  exact ⟨by omega, by rw [Int.toNat_natCast]; exact h⟩
theorem may_len {d : Dm.D} (h : Dm.May d) : 1 ≤ d.ds.length ∧ d.ds.length ≤ 60 ∧ d.sc ≤ 60 := by
  obtain ⟨_, h2, h3, h4⟩ := h
  refine ⟨?_, h2, h3⟩
  rcases h4 with ⟨e, _⟩ | ⟨⟨c, t, e, _⟩, _⟩ <;> rw [e] <;> simp
/-- Two boxed structs and the block of a result, the first blocks that a call has laid. -/
def Tri (w0 : World) (a b c x y z : Value) (w : World) : Prop :=
  Two w0 a b c x y z w ∧ w0.heap.size + 2 < w.heap.size ∧ (w.cell? ⟨w0.heap.size + 2, 0, none⟩ = some (.bool false) ∧ w.cell? ⟨w0.heap.size + 2, 1, none⟩ = some (.string ⟨#[]⟩) ∧ w.cell? ⟨w0.heap.size + 2, 2, none⟩ = some (.int .i64 0)) ∧
  (w.frozen? ⟨w0.heap.size + 2, 0, none⟩ = false ∧ w.frozen? ⟨w0.heap.size + 2, 1, none⟩ = false ∧ w.frozen? ⟨w0.heap.size + 2, 2, none⟩ = false)
theorem Tri.start (w : World) (a b c x y z : Value) (t : Nat) : Tri w a b c x y z (((w.alloc (.cells #[a, b, c] t)).alloc (.cells #[x, y, z] t)).alloc (.cells #[.bool false, .string ⟨#[]⟩, .int .i64 0] 26)) :=
  ⟨(Two.start w a b c x y z t).alloc _, by simp, ⟨by go_simp, by go_simp, by go_simp⟩, ⟨by go_simp, by go_simp, by go_simp⟩⟩
theorem Tri.next {w0 w w' : World} {a b c x y z : Value} (h : Tri w0 a b c x y z w) (hb : Below w.heap.size w w') : Tri w0 a b c x y z w' := by
  obtain ⟨h1, h2, ⟨p, q, r⟩, ⟨s, t, u⟩⟩ := h
  obtain ⟨hc, hf⟩ := bcell hb
  refine ⟨h1.next hb, Nat.lt_of_lt_of_le h2 hb.size, ⟨?_, ?_, ?_⟩, ⟨?_, ?_, ?_⟩⟩
  · rw [hc _ _ h2]; exact p
  · rw [hc _ _ h2]; exact q
  · rw [hc _ _ h2]; exact r
  · rw [hf _ _ h2]; exact s
  · rw [hf _ _ h2]; exact t
  · rw [hf _ _ h2]; exact u
theorem Tri.drew {w0 w : World} {a b c x y z : Value} (h : Tri w0 a b c x y z w) : Tri w0 a b c x y z w.drew := h.next (Below.refl _ _).drew
theorem Tri.cells {w0 w : World} {a b c x y z : Value} (h : Tri w0 a b c x y z w) : (w.cell? ⟨w0.heap.size, 0, none⟩ = some a ∧ w.cell? ⟨w0.heap.size, 1, none⟩ = some b ∧ w.cell? ⟨w0.heap.size, 2, none⟩ = some c) ∧
  (w.cell? ⟨w0.heap.size + 1, 0, none⟩ = some x ∧ w.cell? ⟨w0.heap.size + 1, 1, none⟩ = some y ∧ w.cell? ⟨w0.heap.size + 1, 2, none⟩ = some z) := h.1.2.2
theorem Tri.out {w0 w : World} {a b c x y z : Value} (h : Tri w0 a b c x y z w) : (w.cell? ⟨w0.heap.size + 1 + 1, 0, none⟩ = some (.bool false) ∧ w.cell? ⟨w0.heap.size + 1 + 1, 1, none⟩ = some (.string ⟨#[]⟩) ∧ w.cell? ⟨w0.heap.size + 1 + 1, 2, none⟩ = some (.int .i64 0)) ∧
  (w.frozen? ⟨w0.heap.size + 1 + 1, 0, none⟩ = false ∧ w.frozen? ⟨w0.heap.size + 1 + 1, 1, none⟩ = false ∧ w.frozen? ⟨w0.heap.size + 1 + 1, 2, none⟩ = false) := ⟨h.2.2.1, h.2.2.2⟩
theorem Tri.end {w0 w : World} {a b c x y z : Value} (h : Tri w0 a b c x y z w) (p q r : Value) : Below w0.heap.size w0 (((w.setCell ⟨w0.heap.size + 1 + 1, 0, none⟩ p).setCell ⟨w0.heap.size + 1 + 1, 1, none⟩ q).setCell ⟨w0.heap.size + 1 + 1, 2, none⟩ r) :=
  ((h.1.1.setCell (by show w0.heap.size ≤ w0.heap.size + 1 + 1; omega) _).setCell (by show w0.heap.size ≤ w0.heap.size + 1 + 1; omega) _).setCell (by show w0.heap.size ≤ w0.heap.size + 1 + 1; omega) _

end Go.Proofs.YtppkknmgdahniaaDoor

namespace Go.Proofs.YtppkknmgdahniaaDoor
set_option maxRecDepth 100000
open Go.RowKit
set_option linter.unusedVariables false
set_option linter.unusedSimpArgs false

/-- A text of a list of bytes. -/
theorem str_ext {s : ByteArray} {l : List UInt8} (h : s.data.toList = l) : s = ⟨l.toArray⟩ := by
  subst h; cases s; simp
theorem takeWhile_at {l : List UInt8} {k : Nat} (hd : Dm.allD (l.take k)) (h : ∀ g : k < l.length, Dm.isD l[k] = false) : l.takeWhile Dm.isD = l.take k ∧ l.dropWhile Dm.isD = l.drop k := by
  have := Dm.takeWhile_all (l := l.take k) (m := l.drop k) hd (by
    intro c t e
    have g : k < l.length := by
      rcases Nat.lt_or_ge k l.length with g | g
      · exact g
      · rw [List.drop_of_length_le g] at e; cases e
    rw [List.drop_eq_getElem_cons g] at e
    injection e with e1
    rw [← e1]; exact h g)
  rwa [List.take_append_drop] at this
end Go.Proofs.YtppkknmgdahniaaDoor

namespace Go.Proofs.YtppkknmgdahniaaDoor
set_option maxRecDepth 100000
open Go.RowKit
set_option linter.unusedVariables false
set_option linter.unusedSimpArgs false

/-- Bytes that lie in memory, one a cell. -/
def Row (w : World) (b o : Nat) (l : List UInt8) : Prop := ∀ i, i < l.length → w.cell? ⟨b, o + i, none⟩ = some (.int .u8 ((l.getD i 0).toNat : Int))
theorem Row.below {w w' : World} {b o : Nat} {l : List UInt8} (h : Row w b o l) (hB : Below w.heap.size w w') : Row w' b o l :=
  fun i hi => by rw [hB.cell (p := ⟨b, o + i, none⟩) (World.block_lt_of_cell? _ _ (h i hi))]; exact h i hi
theorem Row.drop {w : World} {b o : Nat} {l : List UInt8} (h : Row w b o l) (j : Nat) : Row w b (o + j) (l.drop j) := by
  intro i hi
  rw [List.length_drop] at hi
  have := h (j + i) (by omega)
  rw [Nat.add_assoc, this]
  simp [List.getD, List.getElem?_drop]
theorem Row.take {w : World} {b o : Nat} {l : List UInt8} (h : Row w b o l) (j : Nat) : Row w b o (l.take j) := by
  intro i hi
  rw [List.length_take] at hi
  rw [h i (by omega)]
  simp [List.getD, List.getElem?_take, show i < j by omega]
theorem Row.set {w : World} {g : Nat} {L : List UInt8} (h : Row w g 0 L) (j : Nat) (c : UInt8) : Row (w.setCell ⟨g, j, none⟩ (.int .u8 (c.toNat : Int))) g 0 (L.set j c) := by
  intro i hi
  rw [List.length_set] at hi
  rw [Nat.zero_add]
  by_cases e : j = i
  · subst e
    have h0 := h j hi
    rw [Nat.zero_add] at h0
    rw [World.cell?_setCell_same' _ _ _ (by rw [h0]; rfl)]
    simp [List.getD, hi]
  · rw [World.cell?_setCell_other (w := w) (a := ⟨g, j, none⟩) (b := ⟨g, i, none⟩) (h := by intro q; injection q with _ q2; exact e q2)]
    have h0 := h i hi
    rw [Nat.zero_add] at h0
    rw [h0]
    simp [List.getD, List.getElem?_set, e]

/-- Sums in a row of ints. -/
def Ints (w : World) (g : Nat) (S : List Nat) : Prop := ∀ p, p < S.length → w.cell? ⟨g, p, none⟩ = some (.int .i64 ((S.getD p 0 : Nat) : Int))
theorem Ints.below {w w' : World} {g : Nat} {S : List Nat} (h : Ints w g S) (hB : Below w.heap.size w w') : Ints w' g S :=
  fun i hi => by rw [hB.cell (p := ⟨g, i, none⟩) (World.block_lt_of_cell? _ _ (h i hi))]; exact h i hi
theorem Ints.set {w : World} {g : Nat} {S : List Nat} (h : Ints w g S) (j x : Nat) : Ints (w.setCell ⟨g, j, none⟩ (.int .i64 (x : Int))) g (S.set j x) := by
  intro i hi
  rw [List.length_set] at hi
  by_cases e : j = i
  · subst e
    rw [World.cell?_setCell_same' _ _ _ (by rw [h j hi]; rfl)]
    simp [List.getD, hi]
  · rw [World.cell?_setCell_other (w := w) (a := ⟨g, j, none⟩) (b := ⟨g, i, none⟩) (h := by intro q; injection q with _ q2; exact e q2), h i hi]
    simp [List.getD, List.getElem?_set, e]
end Go.Proofs.YtppkknmgdahniaaDoor

namespace Go.Proofs.YtppkknmgdahniaaDoor
set_option maxRecDepth 100000
open Go.RowKit
set_option linter.unusedVariables false
set_option linter.unusedSimpArgs false

theorem digit_any (c : UInt8) (w : World) :
    Calls Tryd.prog 86 #[.int .u8 (c.toNat : Int)] w fun e w' => e = .returned (.bool (Dm.isD c)) ∧ w' = w := by
  have hc : c.toNat < 256 := c.toNat_lt
  by_cases h1 : (48 : Int) ≤ (c.toNat : Int)
  · by_cases h2 : (c.toNat : Int) ≤ 57
    · have e : Dm.isD c = true := Dm.isD_iff.2 (by omega)
      rw [e]
      go_enter Tryd.func86, Tryd.ntmps86
      go_wp2
      go_ret
      exact ⟨rfl, rfl⟩
    · have e : Dm.isD c = false := by rw [Bool.eq_false_iff]; intro h; have := Dm.isD_iff.1 h; omega
      rw [e]
      go_enter Tryd.func86, Tryd.ntmps86
      go_wp2
      go_ret
      exact ⟨rfl, rfl⟩
  · have e : Dm.isD c = false := by rw [Bool.eq_false_iff]; intro h; have := Dm.isD_iff.1 h; omega
    rw [e]
    go_enter Tryd.func86, Tryd.ntmps86
    go_wp2
    go_ret
    exact ⟨rfl, rfl⟩
theorem mk_join (a b : List UInt8) : (⟨a.toArray⟩ ++ ⟨b.toArray⟩ : ByteArray) = ⟨(a ++ b).toArray⟩ := by rw [← ByteArray.mk_append_mk]
theorem zeros_snoc (k : Nat) : (⟨(List.replicate k (48 : UInt8)).toArray⟩ ++ ⟨#[48]⟩ : ByteArray) = ⟨(List.replicate (k + 1) (48 : UInt8)).toArray⟩ := by
  rw [show (⟨#[48]⟩ : ByteArray) = ⟨[48].toArray⟩ from rfl, mk_join, ← List.replicate_succ']
theorem ret_i {k : IntKind} {a b : Int} (h : a = b) : Ending.returned (.int k a) = .returned (.int k b) := by rw [h]
theorem ret_s {a b : ByteArray} (h : a = b) : Ending.returned (.string a) = .returned (.string b) := by rw [h]
set_option maxRecDepth 100000 in
set_option maxHeartbeats 1000000 in
theorem rzeros_any (n : Int) (w : World) (h1 : n ≤ 100000) :
    Calls Tryd.prog 70 #[.int .i64 n] w fun e w' => e = .returned (.string ⟨(List.replicate n.toNat (48 : UInt8)).toArray⟩) ∧ w' = w := by
  go_enter Tryd.func70, Tryd.ntmps70
  go_wp2
  go_loop [3, 4] (fun s i => ∃ k : Nat, k ≤ n.toNat ∧ i = .int .i64 k ∧ s = .string ⟨(List.replicate k (48 : UInt8)).toArray⟩) (fun _ i => n.toNat - (intOf i).toNat)
  case atStart => exact ⟨0, Nat.zero_le _, rfl, rfl⟩
  case round =>
    obtain ⟨k, hk, rfl, rfl⟩ := hrel
    by_cases hlt : (k : Int) < n
    · go_wp2
      go_round
      case rel => exact ⟨k + 1, by omega, by go_num, congrArg Value.string (by rw [← zeros_snoc]; simp)⟩
      case measure => simp [intOf]; omega
    · have e : k = n.toNat := by omega
      have HE := hide e
      clear e
      go_wp2
      go_ret
      exact ⟨ret_s (by rw [unhide HE]), rfl⟩
set_option maxRecDepth 100000 in
set_option maxHeartbeats 1000000 in
theorem run_any (s : ByteArray) (a n : Nat) (w : World) (hs : s.size ≤ 100000) (ha : a ≤ 100001) (h : ((s.data.toList.drop a).takeWhile Dm.isD).length = n) :
    Calls Tryd.prog 69 #[.string s, .int .i64 (a : Int)] w fun e w' => e = .returned (.int .i64 (n : Int)) ∧ w' = w := by
  go_enter Tryd.func69, Tryd.ntmps69
  go_wp2
  have H := hide h
  clear h
  go_loop [5] (fun i => ∃ k : Nat, k ≤ s.size ∧ i = .int .i64 k ∧ (k = 0 ∨ a + k ≤ s.size) ∧ Dm.allD ((s.data.toList.drop a).take k)) (fun i => s.size - (intOf i).toNat)
  case atStart => exact ⟨0, Nat.zero_le _, rfl, .inl rfl, by rw [List.take_zero]; exact Dm.allD_nil⟩
  case round =>
    obtain ⟨k, hk, rfl, hk2, hd⟩ := hrel
    have HD := hide hd
    clear hd
    by_cases hlt : (a : Int) + (k : Int) < (s.size : Int)
    · have hak : a + k < s.size := by omega
      go_wp2_with (go_at_call 86; refine (digit_any _ _).mono ?_; rintro e w' ⟨rfl, rfl⟩)
      · rename_i hgood
        go_round
        case rel => exact ⟨k + 1, by omega, by go_num, .inr (by omega), allD_take_succ (by rw [List.length_drop, ← size_len]; omega) (unhide HD) (by rw [List.getElem_drop]; rw [ba_get] at hgood; exact hgood)⟩
        case measure => simp [intOf]; omega
      · rename_i hbad
        have e := (takeWhile_at (unhide HD) (fun g => by rw [List.getElem_drop]; rw [ba_get] at hbad; simpa using hbad)).1
        have hn : k = n := by
          rw [← unhide H, e, List.length_take, List.length_drop, ← size_len]; omega
        have HN := hide hn
        clear hn e
        go_wp2
        go_ret
        exact ⟨ret_i (by rw [unhide HN]), rfl⟩
    · have e := (takeWhile_at (unhide HD) (fun g => by rw [List.length_drop, ← size_len] at g; omega)).1
      have hn : k = n := by
        rw [← unhide H, e, List.length_take, List.length_drop, ← size_len]; omega
      have HN := hide hn
      clear hn e
      go_wp2
      go_ret
      exact ⟨ret_i (by rw [unhide HN]), rfl⟩
end Go.Proofs.YtppkknmgdahniaaDoor

namespace Go.Proofs.YtppkknmgdahniaaDoor
set_option maxRecDepth 100000
open Go.RowKit
set_option linter.unusedVariables false
set_option linter.unusedSimpArgs false

def strLen : Value → Nat | .string s => s.size | _ => 0
theorem nil_list (s : ByteArray) : s.toList.isEmpty = decide (s.data.toList = []) := by
  rw [toList_eq]; cases s.data.toList <;> simp
theorem int48 {c : UInt8} : ((c.toNat : Int) = 48) ↔ c = 48 := by
  constructor
  · intro h; apply UInt8.toNat_inj.1; show c.toNat = 48; omega
  · intro h; rw [h]; rfl
theorem cons_of (s : ByteArray) (h : 0 < s.size) : s.data.toList = s[0] :: s.data.toList.drop 1 := by
  have := List.drop_eq_getElem_cons (l := s.data.toList) (i := 0) (by rw [← size_len]; exact h)
  rwa [List.drop_zero] at this
theorem norm_step {l : List UInt8} {q : ByteArray} {n j : Nat} (h0 : q.size - 1 < q.size) (h48 : (q[q.size - 1].toNat : Int) = 48) (hj : 0 < j) (hjn : j ≤ n) (HQ : Dm.tl l = q.data.toList ++ List.replicate (n - j) 48) :
    Dm.tl l = (q.extract 0 (q.size - 1)).data.toList ++ List.replicate (n - (j - 1)) 48 := by
  have hz := size_len q
  have := Dm.back_step (d := q.data.toList) (k := n - j) (by omega) (by rw [← last_ba q h0 (by omega)]; exact int48.1 h48)
  rw [HQ, this, Go.Lib.extract_data, List.drop_zero, ← hz, show n - j + 1 = n - (j - 1) by omega, Nat.sub_zero]
theorem norm_tail {q : ByteArray} (h0 : q.size - 1 < q.size) (h48 : ¬ (q[q.size - 1].toNat : Int) = 48) : Dm.noTail q.data.toList := by
  have hz := size_len q
  exact Dm.back_stop (by omega) (by rw [← last_ba q h0 (by omega)]; exact fun e => h48 (int48.2 e))
theorem norm_big (ng : Bool) {l : List UInt8} {q : ByteArray} {n j : Nat} (hd : Dm.allD l) (hjn : j ≤ n) (HQ : Dm.tl l = q.data.toList ++ List.replicate (n - j) 48) (hne : q.data.toList ≠ []) (h2 : j = 0 ∨ Dm.noTail q.data.toList) (hb : 60 < q.size ∨ 60 < j) : Dm.Rep (Dm.sgn ng (Dm.num l)) n none := by
  have := Dm.norm_rep (ng := ng) hd hjn HQ hne h2
  unfold Dm.fin at this
  rwa [if_pos (by rw [← size_len]; exact hb)] at this
theorem norm_ok (ng : Bool) {l : List UInt8} {q : ByteArray} {n j : Nat} (hd : Dm.allD l) (hjn : j ≤ n) (HQ : Dm.tl l = q.data.toList ++ List.replicate (n - j) 48) (hne : q.data.toList ≠ []) (h2 : j = 0 ∨ Dm.noTail q.data.toList) (hb : ¬ (60 < q.size ∨ 60 < j)) : Dm.Rep (Dm.sgn ng (Dm.num l)) n (some ⟨ng, q.data.toList, j⟩) := by
  have := Dm.norm_rep (ng := ng) hd hjn HQ hne h2
  unfold Dm.fin at this
  rwa [if_neg (by rw [← size_len]; exact hb)] at this
theorem norm_nil (ng : Bool) {l : List UInt8} {q : ByteArray} {n j : Nat} (HQ : Dm.tl l = q.data.toList ++ List.replicate (n - j) 48) (h : ¬ 0 < q.size) : Dm.Rep (Dm.sgn ng (Dm.num l)) n (some ⟨false, [48], 0⟩) := by
  have e : q.data.toList = [] := by apply List.eq_nil_of_length_eq_zero; rw [← size_len]; omega
  rw [e, List.nil_append] at HQ
  exact Dm.norm_zero n (Dm.tl_zeros HQ)
theorem list_ne {q : ByteArray} (h : (0 : Int) < (q.size : Int)) : q.data.toList ≠ [] := by
  intro e
  have := size_len q; rw [e, List.length_nil] at this; omega
set_option maxRecDepth 100000 in
set_option maxHeartbeats 2000000 in
theorem norm_any (ng : Bool) (s : ByteArray) (n : Nat) (l : List UInt8) (w : World) (hl : s.data.toList = l) (hs : s.size ≤ 200000) (hn : n ≤ 200000) (hd : Dm.allD l) :
    Calls Tryd.prog 71 #[.bool ng, .string s, .int .i64 (n : Int)] w fun e w' => ∃ r, e = .returned (.tuple #[.agg #[.bool (rx r), .string (ry r), .int .i64 (rz r)], .int .i64 (re r)]) ∧ Dm.Rep (Dm.sgn ng (Dm.num l)) n r ∧ Below w.heap.size w w' := by
  have HL := hide hl
  have HD := hide hd
  clear hl hd
  have hO := Own.start w
  go_enter Tryd.func71, Tryd.ntmps71
  go_wp2
  go_loop [1] (fun v => ∃ t : ByteArray, v = .string t ∧ t.size ≤ s.size ∧ Dm.tl t.data.toList = Dm.tl l) (fun v => strLen v)
  case atStart => exact ⟨s, rfl, Nat.le_refl _, by rw [unhide HL]⟩
  case round =>
    obtain ⟨t, rfl, hts, htl⟩ := hrel
    have HT := hide htl
    clear htl
    by_cases h0 : 0 < t.size
    · by_cases h1 : (t[0].toNat : Int) = 48
      · go_wp2
        go_round
        case rel =>
          refine ⟨t.extract 1 t.size, rfl, ?_, ?_⟩
          · rw [size_len, Go.Lib.extract_to_end, List.length_drop, ← size_len]; omega
          · rw [← unhide HT, Go.Lib.extract_to_end]
            conv => rhs; rw [cons_of t h0]
            rw [Dm.tl_step (int48.1 h1)]
        case measure => simp [strLen, ByteArray.size_extract]; omega
      · have hst : t.data.toList = Dm.tl l := by
          rw [← unhide HT]; exact (Dm.tl_stop (.inr ⟨_, _, cons_of t h0, fun e => h1 (int48.2 e)⟩)).symm
        have HS := hide hst
        clear hst HT
        go_wp2
        go_loop [1, 2] (fun v k => ∃ (q : ByteArray) (j : Nat), v = .string q ∧ k = .int .i64 (j : Int) ∧ j ≤ n ∧ q.size ≤ t.size ∧ Dm.tl l = q.data.toList ++ List.replicate (n - j) 48) (fun _ k => (intOf k).toNat)
        case atStart => exact ⟨t, n, rfl, rfl, Nat.le_refl _, Nat.le_refl _, by rw [unhide HS]; simp⟩
        case round =>
          obtain ⟨q, j, rfl, rfl, hj, hqt, hq⟩ := hrel
          have HQ := hide hq
          clear hq HS
          obtain ⟨o1, o2, o3, o4, o5, o6⟩ := hO.facts
          by_cases hq0 : (0 : Int) < (q.size : Int)
          · have he : q.toList.isEmpty = false := by
              rw [nil_list, decide_eq_false_iff_not]; intro e
              have := size_len q; rw [e, List.length_nil] at this; omega
            have hne : Hid (q.data.toList ≠ []) := by
              intro e
              have := size_len q; rw [e, List.length_nil] at this; omega
            by_cases hj0 : (0 : Int) < (j : Int)
            · have hq2 : ((q.size : Int) - 1).toNat = q.size - 1 := by omega
              have hq1 : q.size - 1 < q.size := by omega
              by_cases h48 : (q[q.size - 1].toNat : Int) = 48
              · go_wp2
                go_round
                case rel =>
                  refine ⟨q.extract 0 (q.size - 1), j - 1, rfl, by go_num, by omega, ?_, ?_⟩
                  · rw [ByteArray.size_extract]; omega
                  · exact norm_step hq1 h48 (by omega) hj (unhide HQ)
                case measure => simp only [intOf]; omega
              · have H2 : Hid (j = 0 ∨ Dm.noTail q.data.toList) := .inr (norm_tail hq1 h48)
                by_cases g1 : (60 : Int) < (q.size : Int)
                · go_wp2
                  refine bodyPost_ret (v := tV none) (by simp [results, Tryd.results71, go_sem, tV, rx, ry, rz, re]) rfl ⟨none, rfl, norm_big ng (unhide HD) hj (unhide HQ) (list_ne hq0) (unhide H2) (.inl (by omega)), hO.1⟩
                · by_cases g2 : (60 : Int) < (j : Int)
                  · go_wp2
                    refine bodyPost_ret (v := tV none) (by simp [results, Tryd.results71, go_sem, tV, rx, ry, rz, re]) rfl ⟨none, rfl, norm_big ng (unhide HD) hj (unhide HQ) (list_ne hq0) (unhide H2) (.inr (by omega)), hO.1⟩
                  · go_wp2
                    refine bodyPost_ret (v := tV (some ⟨ng, q.data.toList, j⟩)) (by simp [results, Tryd.results71, go_sem, tV, rx, ry, rz, re]) rfl ⟨_, rfl, norm_ok ng (unhide HD) hj (unhide HQ) (list_ne hq0) (unhide H2) (by omega), (Below.refl _ _).alloc (Nat.le_refl _) _⟩
            · have H2 : Hid (j = 0 ∨ Dm.noTail q.data.toList) := .inl (by omega)
              by_cases g1 : (60 : Int) < (q.size : Int)
              · go_wp2
                refine bodyPost_ret (v := tV none) (by simp [results, Tryd.results71, go_sem, tV, rx, ry, rz, re]) rfl ⟨none, rfl, norm_big ng (unhide HD) hj (unhide HQ) (list_ne hq0) (unhide H2) (.inl (by omega)), hO.1⟩
              · go_wp2
                refine bodyPost_ret (v := tV (some ⟨ng, q.data.toList, j⟩)) (by simp [results, Tryd.results71, go_sem, tV, rx, ry, rz, re]) rfl ⟨_, rfl, norm_ok ng (unhide HD) hj (unhide HQ) (list_ne hq0) (unhide H2) (by omega), (Below.refl _ _).alloc (Nat.le_refl _) _⟩
          · have he : q.toList.isEmpty = true := by
              rw [nil_list, decide_eq_true_eq]
              apply List.eq_nil_of_length_eq_zero; rw [← size_len]; omega
            by_cases hj0 : (0 : Int) < (j : Int)
            all_goals
              go_wp2
              refine bodyPost_ret (v := tV (some ⟨false, [48], 0⟩)) (by simp [results, Tryd.results71, go_sem, tV, rx, ry, rz, re]) rfl ⟨_, rfl, norm_nil ng (unhide HQ) (by omega), (Below.refl _ _).alloc (Nat.le_refl _) _⟩
    · have hst : t.data.toList = Dm.tl l := by
        have e : t.data.toList = [] := by apply List.eq_nil_of_length_eq_zero; rw [← size_len]; omega
        rw [← unhide HT, e]; rfl
      have HS := hide hst
      clear hst HT
      go_wp2
      go_loop [1, 2] (fun v k => v = .string t ∧ k = .int .i64 (n : Int)) (fun _ _ => 0)
      case atStart => exact ⟨rfl, rfl⟩
      case round =>
        obtain ⟨rfl, rfl⟩ := hrel
        obtain ⟨o1, o2, o3, o4, o5, o6⟩ := hO.facts
        have he : t.toList.isEmpty = true := by
          rw [nil_list, decide_eq_true_eq]
          apply List.eq_nil_of_length_eq_zero; rw [← size_len]; omega
        have HQ : Hid (Dm.tl l = t.data.toList ++ List.replicate (n - n) 48) := by
          show Dm.tl l = _
          rw [Nat.sub_self, List.replicate_zero, List.append_nil]; exact (unhide HS).symm
        have hq0 : ¬ (0 : Int) < (t.size : Int) := by omega
        by_cases hj0 : (0 : Int) < (n : Int)
        all_goals
          go_wp2
          refine bodyPost_ret (v := tV (some ⟨false, [48], 0⟩)) (by simp [results, Tryd.results71, go_sem, tV, rx, ry, rz, re]) rfl ⟨_, rfl, norm_nil ng (unhide HQ) (by omega), (Below.refl _ _).alloc (Nat.le_refl _) _⟩
end Go.Proofs.YtppkknmgdahniaaDoor

namespace Go.Proofs.YtppkknmgdahniaaDoor
set_option maxRecDepth 100000
open Go.RowKit
set_option linter.unusedVariables false
set_option linter.unusedSimpArgs false

theorem rzeros_b (n : Int) (k : Nat) (w : World) (h1 : n ≤ 100000) (h : n.toNat = k) :
    Calls Tryd.prog 70 #[.int .i64 n] w fun e w' => e = .returned (.string ⟨(List.replicate k (48 : UInt8)).toArray⟩) ∧ w' = w := by
  have := rzeros_any n w h1
  rw [h] at this; exact this
end Go.Proofs.YtppkknmgdahniaaDoor

namespace Go.Proofs.YtppkknmgdahniaaDoor
set_option maxRecDepth 100000
open Go.RowKit
set_option linter.unusedVariables false
set_option linter.unusedSimpArgs false

theorem plus_step {x y L : List UInt8} {n m k cy : Nat} (hx : x.length = n) (hy : y.length = n) (hm : m + 1 + k = n) (dx : Dm.allD x) (dy : Dm.allD y) (hL : L.length = k) (hLd : Dm.allD L)
    (h : Dm.num L + cy * 10 ^ k = Dm.num (x.drop (m + 1)) + Dm.num (y.drop (m + 1))) (hc : cy ≤ 1) (g1 : m < x.length) (g2 : m < y.length) (c : UInt8) (t : Nat) (ht : t = Dm.dv x[m] + Dm.dv y[m] + cy) (hcv : c.toNat = 48 + t % 10) :
    (c :: L).length = k + 1 ∧ Dm.allD (c :: L) ∧ Dm.num (c :: L) + t / 10 * 10 ^ (k + 1) = Dm.num (x.drop m) + Dm.num (y.drop m) ∧ t / 10 ≤ 1 := by
  have a1 := Dm.dv_le (dx _ (List.getElem_mem g1))
  have a2 := Dm.dv_le (dy _ (List.getElem_mem g2))
  have hd : Dm.isD c = true := Dm.isD_iff.2 (by omega)
  have hv : Dm.dv c = t % 10 := by unfold Dm.dv; omega
  refine ⟨by simp [hL], Dm.allD_cons.2 ⟨hd, hLd⟩, ?_, by omega⟩
  rw [List.drop_eq_getElem_cons g1, List.drop_eq_getElem_cons g2, Dm.num_cons, Dm.num_cons, Dm.num_cons, hv, List.length_drop, List.length_drop, hL, hx, hy, show n - (m + 1) = k by omega, Nat.pow_succ]
  have e : t % 10 * 10 ^ k + t / 10 * (10 ^ k * 10) = t * 10 ^ k := by
    rw [Nat.mul_comm (10 ^ k) 10, ← Nat.mul_assoc, ← Nat.add_mul]; congr 1; omega
  have e2 : t * 10 ^ k = Dm.dv x[m] * 10 ^ k + Dm.dv y[m] * 10 ^ k + cy * 10 ^ k := by rw [ht, Nat.add_mul, Nat.add_mul]
  omega
/-- What Plus has come to: the last k digits are laid, cy is carried. -/
def PlusInv (x y : ByteArray) (L : List UInt8) (n k j cy : Nat) : Prop :=
  j + k = n ∧ L.length = k ∧ Dm.allD L ∧ Dm.num L + cy * 10 ^ k = Dm.num (x.data.toList.drop j) + Dm.num (y.data.toList.drop j) ∧ cy ≤ 1
theorem PlusInv.start (x y : ByteArray) {n : Nat} (hx : x.size = n) (hy : y.size = n) : PlusInv x y [] n 0 n 0 := by
  refine ⟨rfl, rfl, Dm.allD_nil, ?_, Nat.zero_le _⟩
  rw [List.drop_of_length_le (by rw [← size_len]; omega), List.drop_of_length_le (by rw [← size_len]; omega)]; rfl
theorem PlusInv.next {x y : ByteArray} {L : List UInt8} {n k m cy t : Nat} (h : PlusInv x y L n k (m + 1) cy) (hx : x.size = n) (hy : y.size = n) (dx : Dm.allD x.data.toList) (dy : Dm.allD y.data.toList) (g1 : m < x.size) (g2 : m < y.size)
    (hq : (x[m].toNat : Int) - 48 + ((y[m].toNat : Int) - 48) + (cy : Int) = (t : Int)) {c : UInt8} (hc : c.toNat = 48 + t % 10) : PlusInv x y (c :: L) n (k + 1) m (t / 10) := by
  obtain ⟨h1, h2, h3, h4, h5⟩ := h
  have b1 := Dm.isD_iff.1 (dx _ (List.getElem_mem (by rw [← size_len]; exact g1) : x.data.toList[m] ∈ _))
  have b2 := Dm.isD_iff.1 (dy _ (List.getElem_mem (by rw [← size_len]; exact g2) : y.data.toList[m] ∈ _))
  rw [ba_get x m g1, ba_get y m g2] at hq
  obtain ⟨a1, a2, a3, a4⟩ := plus_step (x := x.data.toList) (y := y.data.toList) (L := L) (n := n) (m := m) (k := k) (cy := cy) (by rw [← size_len]; exact hx) (by rw [← size_len]; exact hy) (by omega) dx dy h2 h3 h4 h5 (by rw [← size_len]; exact g1) (by rw [← size_len]; exact g2) c t (by unfold Dm.dv; omega) hc
  exact ⟨by omega, a1, a2, a3, a4⟩
theorem PlusInv.fin {x y : ByteArray} {L : List UInt8} {n k cy : Nat} (h : PlusInv x y L n k 0 cy) {c : UInt8} (hc : c.toNat = 48 + cy) : Dm.allD (c :: L) ∧ (c :: L).length = n + 1 ∧ Dm.num (c :: L) = Dm.num x.data.toList + Dm.num y.data.toList := by
  obtain ⟨h1, h2, h3, h4, h5⟩ := h
  have a : Dm.isD c = true := Dm.isD_iff.2 (by omega)
  have b : Dm.dv c = cy := by unfold Dm.dv; omega
  refine ⟨Dm.allD_cons.2 ⟨a, h3⟩, by simp [h2]; omega, ?_⟩
  rw [Dm.num_cons, b, h2]
  simp only [List.drop_zero] at h4
  omega
/-- What Minus has come to: the last k digits are laid, bo is borrowed. -/
def MinusInv (x y : ByteArray) (L : List UInt8) (n k j bo : Nat) : Prop :=
  j + k = n ∧ L.length = k ∧ Dm.allD L ∧ Dm.num (x.data.toList.drop j) + bo * 10 ^ k = Dm.num L + Dm.num (y.data.toList.drop j) ∧ bo ≤ 1
theorem MinusInv.start (x y : ByteArray) {n : Nat} (hx : x.size = n) (hy : y.size = n) : MinusInv x y [] n 0 n 0 := by
  refine ⟨rfl, rfl, Dm.allD_nil, ?_, Nat.zero_le _⟩
  rw [List.drop_of_length_le (by rw [← size_len]; omega), List.drop_of_length_le (by rw [← size_len]; omega)]; rfl
theorem MinusInv.next {x y : ByteArray} {L : List UInt8} {n k m bo t b2 : Nat} (h : MinusInv x y L n k (m + 1) bo) (hx : x.size = n) (hy : y.size = n) (dx : Dm.allD x.data.toList) (dy : Dm.allD y.data.toList) (g1 : m < x.size) (g2 : m < y.size)
    (hq : (x[m].toNat : Int) - (y[m].toNat : Int) - (bo : Int) = (t : Int) - 10 * (b2 : Int)) (ht : t ≤ 9) (hb : b2 ≤ 1) {c : UInt8} (hc : c.toNat = 48 + t) : MinusInv x y (c :: L) n (k + 1) m b2 := by
  obtain ⟨h1, h2, h3, h4, h5⟩ := h
  have q1 : m < x.data.toList.length := by rw [← size_len]; exact g1
  have q2 : m < y.data.toList.length := by rw [← size_len]; exact g2
  have a1 := Dm.isD_iff.1 (dx _ (List.getElem_mem q1))
  have a2 := Dm.isD_iff.1 (dy _ (List.getElem_mem q2))
  rw [ba_get x m g1, ba_get y m g2] at hq
  have hd : Dm.isD c = true := Dm.isD_iff.2 (by omega)
  have hv : Dm.dv c = t := by unfold Dm.dv; omega
  refine ⟨by omega, by simp [h2], Dm.allD_cons.2 ⟨hd, h3⟩, ?_, hb⟩
  rw [List.drop_eq_getElem_cons q1, List.drop_eq_getElem_cons q2, Dm.num_cons, Dm.num_cons, Dm.num_cons, hv, List.length_drop, List.length_drop, h2, ← size_len, ← size_len, hx, hy, show n - (m + 1) = k by omega, Nat.pow_succ]
  have e : Dm.dv x.data.toList[m] + 10 * b2 = t + Dm.dv y.data.toList[m] + bo := by unfold Dm.dv; omega
  have e2 : Dm.dv x.data.toList[m] * 10 ^ k + b2 * (10 ^ k * 10) = t * 10 ^ k + Dm.dv y.data.toList[m] * 10 ^ k + bo * 10 ^ k := by
    rw [← Nat.add_mul, ← Nat.add_mul, ← e, Nat.add_mul, Nat.mul_comm (10 ^ k) 10, ← Nat.mul_assoc, Nat.mul_comm b2 10]
  omega
theorem MinusInv.fin {x y : ByteArray} {L : List UInt8} {n k bo : Nat} (h : MinusInv x y L n k 0 bo) (hx : x.size = n) (dx : Dm.allD x.data.toList) (hle : Dm.num y.data.toList ≤ Dm.num x.data.toList) : Dm.allD L ∧ L.length = n ∧ Dm.num L + Dm.num y.data.toList = Dm.num x.data.toList := by
  obtain ⟨h1, h2, h3, h4, h5⟩ := h
  simp only [List.drop_zero] at h4
  have hl := Dm.num_lt h3
  rw [h2] at hl
  refine ⟨h3, by omega, ?_⟩
  have : bo = 0 := by
    rcases Nat.eq_zero_or_pos bo with g | g
    · exact g
    · have : bo = 1 := by omega
      subst this; omega
  subst this; omega
end Go.Proofs.YtppkknmgdahniaaDoor

namespace Go.Proofs.YtppkknmgdahniaaDoor
set_option maxRecDepth 100000
open Go.RowKit
set_option linter.unusedVariables false
set_option linter.unusedSimpArgs false

theorem norm_r (ng : Bool) (L : List UInt8) (S : Nat) (q : Int) (w : World) (hL : L.length ≤ 1000) (hS : S ≤ 1000) (hd : Dm.allD L) (hq : Dm.sgn ng (Dm.num L) = q) :
    Calls Tryd.prog 71 #[.bool ng, .string ⟨L.toArray⟩, .int .i64 (S : Int)] w fun e w' => ∃ r, e = .returned (.tuple #[.agg #[.bool (rx r), .string (ry r), .int .i64 (rz r)], .int .i64 (re r)]) ∧ Dm.Rep q S r ∧ Below w.heap.size w w' := by
  subst hq
  exact norm_any ng ⟨L.toArray⟩ S L w rfl (by rw [mk_size]; omega) (by omega) hd
end Go.Proofs.YtppkknmgdahniaaDoor
