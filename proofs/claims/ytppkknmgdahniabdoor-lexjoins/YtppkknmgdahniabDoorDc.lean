/- What is proved here: what May and its helpers of package dec do, walked; conditions: as each theorem states. What is proved here: the parts of what a call of two results hands back, and the block of a struct that is handed back; conditions: as each theorem states. What is proved here: what cutDigits and exponent of package dec do, walked; conditions: as each theorem states. What is proved here: rows of bytes and of numbers as they lie in memory; conditions: as each theorem states. -/
import Derived.Test.YtppkknmgdahniabDoorRows
import Derived.Test.YtppkknmgdahniabDoorAa
import Derived.WalkKit
import Derived.WalkSpells
import Derived.WalkLawsBesides
import Derived.Lib.Strings
import Derived.Lib.IndexBytes
import Derived.Deep.QuietTactic
import Derived.BigQuiet
import Derived.Laws.BytesArg
import Derived.Shelf.Bytes.SlTrim
import Derived.Deep.AppendSrc
namespace Go.Proofs.YtppkknmgdahniabDoor
set_option maxRecDepth 100000
open Go.RowKit
set_option linter.unusedVariables false
set_option linter.unusedSimpArgs false

theorem isDigit_any (c : UInt8) (w : World) :
    Calls Tryd.prog 59 #[.int .u8 (c.toNat : Int)] w fun e w' => e = .returned (.bool (Dm.isD c)) ∧ w' = w := by
  have hc : c.toNat < 256 := c.toNat_lt
  by_cases h1 : (48 : Int) ≤ (c.toNat : Int)
  · by_cases h2 : (c.toNat : Int) ≤ 57
    · have e : Dm.isD c = true := Dm.isD_iff.2 (by omega)
      rw [e]
      go_enter Tryd.func59, Tryd.ntmps59
      go_wp2
      go_ret
      exact ⟨rfl, rfl⟩
    · have e : Dm.isD c = false := by rw [Bool.eq_false_iff]; intro h; have := Dm.isD_iff.1 h; omega
      rw [e]
      go_enter Tryd.func59, Tryd.ntmps59
      go_wp2
      go_ret
      exact ⟨rfl, rfl⟩
  · have e : Dm.isD c = false := by rw [Bool.eq_false_iff]; intro h; have := Dm.isD_iff.1 h; omega
    rw [e]
    go_enter Tryd.func59, Tryd.ntmps59
    go_wp2
    go_ret
    exact ⟨rfl, rfl⟩

theorem hide {p : Prop} (h : p) : Hid p := h
theorem unhide {p : Prop} (h : Hid p) : p := h
theorem size_len (s : ByteArray) : s.size = s.data.toList.length := (Array.length_toList (xs := s.data)).symm
theorem mayB_short {ng : Bool} {l : List UInt8} {n : Int} (h : ¬ (1 ≤ l.length ∧ l.length ≤ 60 ∧ 0 ≤ n ∧ n ≤ 60)) : Dm.mayB ng l n = false := by
  unfold Dm.mayB
  rw [decide_eq_false h]; rfl
theorem mayB_long {ng : Bool} {l : List UInt8} {n : Int} (h : 1 ≤ l.length ∧ l.length ≤ 60 ∧ 0 ≤ n ∧ n ≤ 60) (hd : Dm.allD l) :
    Dm.mayB ng l n = if l = [48] then (decide (n = 0) && !ng) else (l.headD 0 != 48 && (decide (n = 0) || l.getLastD 0 != 48)) := by
  unfold Dm.mayB
  rw [decide_eq_true h, Dm.allD_all.2 hd]; rfl
theorem mayB_bad {ng : Bool} {l : List UInt8} {n : Int} {k : Nat} (h : k < l.length) (hd : Dm.isD l[k] = false) : Dm.mayB ng l n = false := by
  unfold Dm.mayB
  have : l.all Dm.isD = false := by
    rw [List.all_eq_false]
    exact ⟨l[k], List.getElem_mem h, by rw [hd]; simp⟩
  rw [this]; simp
theorem ba_get (s : ByteArray) (k : Nat) (h : k < s.size) : s[k] = s.data.toList[k]'(by rw [← size_len]; exact h) := rfl
theorem allD_take_succ {l : List UInt8} {k : Nat} (h : k < l.length) (h1 : Dm.allD (l.take k)) (h2 : Dm.isD l[k] = true) : Dm.allD (l.take (k + 1)) := by
  rw [List.take_succ_eq_append_getElem h]
  refine Dm.allD_append.2 ⟨h1, ?_⟩
  intro c hc
  simp at hc
  rw [hc]; exact h2
theorem toList_eq (s : ByteArray) : s.toList = s.data.toList := ByteArray.toList_eq s
theorem last_get (l : List UInt8) (h : 0 < l.length) : l.getLastD 0 = l[l.length - 1] := by
  rw [List.getLastD_eq_getLast?, List.getLast?_eq_getElem?, List.getElem?_eq_getElem (by omega)]; rfl
theorem head_get (l : List UInt8) (h : 0 < l.length) : l.headD 0 = l[0] := by
  cases l with
  | nil => simp at h
  | cons c t => rfl
theorem ne48 {c : UInt8} : (c != 48) = decide (¬ (c.toNat : Int) = 48) := by
  rw [Bool.eq_iff_iff]
  simp only [bne_iff_ne, ne_eq, decide_eq_true_eq]
  have : c = 48 ↔ (c.toNat : Int) = 48 := by
    rw [← UInt8.toNat_inj]
    show c.toNat = 48 ↔ _
    omega
  rw [this]
theorem neInt {c : UInt8} : ((c.toNat : Int) != 48) = (c != 48) := by
  rw [ne48, Bool.eq_iff_iff, bne_iff_ne, decide_eq_true_eq]
theorem last_ba (s : ByteArray) (h : s.size - 1 < s.size) (h' : s.data.toList.length - 1 < s.data.toList.length) : s[s.size - 1] = s.data.toList[s.data.toList.length - 1] := by
  rw [ba_get]
  congr 1
theorem ret_bool {a b : Bool} (h : a = b) : Ending.returned (.bool a) = .returned (.bool b) := by rw [h]
set_option maxRecDepth 100000 in
set_option maxHeartbeats 1000000 in
theorem may_any (ng : Bool) (s : ByteArray) (n : Int) (w : World) (hs : s.size ≤ maxLen) :
    Calls Tryd.prog 50 #[.agg #[.bool ng, .string s, .int .i64 n]] w fun e w' => e = .returned (.bool (Dm.mayB ng s.data.toList n)) ∧ Below w.heap.size w w' := by
  unfold maxLen at hs
  have hz := size_len s
  have hb : Below w.heap.size w (w.alloc (.cells #[.bool ng, .string s, .int .i64 n] 31)) := (Below.refl _ _).alloc (Nat.le_refl _) _
  by_cases h : 1 ≤ s.data.toList.length ∧ s.data.toList.length ≤ 60 ∧ 0 ≤ n ∧ n ≤ 60
  · obtain ⟨h1, h2, h3, h4⟩ := id h
    have g1 : ¬ (s.size : Int) < 1 := by omega
    have g2 : ¬ (60 : Int) < (s.size : Int) := by omega
    have g3 : ¬ n < 0 := by omega
    have g4 : ¬ 60 < n := by omega
    have HH := hide h
    have H : Hid (s.size = s.data.toList.length) := hz
    clear hz h h1 h2 h3 h4
    go_enter Tryd.func50, Tryd.ntmps50
    go_wp2
    go_loop [25, 4] (fun i j => ∃ k : Nat, k ≤ s.size ∧ i = .int .i64 k ∧ Dm.allD (s.data.toList.take k)) (fun i _ => s.size - (intOf i).toNat)
    case atStart => exact ⟨0, Nat.zero_le _, rfl, by rw [List.take_zero]; exact Dm.allD_nil⟩
    case round =>
      obtain ⟨k, hk, rfl, hd⟩ := hrel
      by_cases hlt : k < s.size
      · have HD := hide hd
        clear hd
        go_wp2_with (go_at_call 59; refine (isDigit_any _ _).mono ?_; rintro e w' ⟨rfl, rfl⟩)
        · rename_i hbad
          go_ret
          refine ⟨ret_bool ?_, hb⟩
          rw [ba_get s k hlt, Bool.not_eq_true'] at hbad
          exact (mayB_bad (by rw [← size_len]; exact hlt) hbad).symm
        · rename_i hgood
          go_round
          case rel =>
            refine ⟨k + 1, by omega, by go_num, ?_⟩
            rw [ba_get s k hlt, Bool.not_eq_false'] at hgood
            exact allD_take_succ (by rw [← size_len]; exact hlt) (unhide HD) hgood
          case measure => simp [intOf]; omega
      · have hall : Dm.allD s.data.toList := by
          rw [List.take_of_length_le (by rw [← size_len]; omega)] at hd; exact hd
        have e0 := mayB_long (ng := ng) (unhide HH) hall
        have h0 : 0 < s.data.toList.length := by rw [← size_len]; omega
        have hl := last_get _ h0
        have hh := head_get _ h0
        have HE := hide e0
        have HL := hide hl
        have HF := hide hh
        clear hd hall e0 hl hh
        go_wp2
        · rename_i hq hn _
          subst hn
          go_ret
          refine ⟨ret_bool ?_, hb⟩
          rw [unhide HE, if_pos (by rw [toList_eq] at hq; simpa using hq)]; simp
        · rename_i hq hn _
          go_ret
          refine ⟨ret_bool ?_, hb⟩
          rw [unhide HE, if_pos (by rw [toList_eq] at hq; simpa using hq), decide_eq_false hn]; rfl
        · rename_i hq _ _ hc
          go_ret
          refine ⟨ret_bool ?_, hb⟩
          rw [unhide HE, if_neg (by rw [toList_eq] at hq; simpa using hq), unhide HF, ne48, decide_eq_false (fun g => g hc)]; rfl
        · rename_i hq _ _ hc hn
          subst hn
          go_ret
          refine ⟨ret_bool ?_, hb⟩
          rw [unhide HE, if_neg (by rw [toList_eq] at hq; simpa using hq), unhide HF, decide_eq_true (rfl : (0 : Int) = 0), Bool.true_or, Bool.and_true, neInt]
          exact congrArg (· != 48) (ba_get s 0 _)
        · rename_i hq _ _ hc hn hlt
          go_ret
          refine ⟨ret_bool ?_, hb⟩
          have e1 : (s.data.toList[0] != 48) = true := by rw [ne48]; exact decide_eq_true hc
          rw [unhide HE, if_neg (by rw [toList_eq] at hq; simpa using hq), unhide HF, e1, decide_eq_false hn, unhide HL, Bool.true_and, Bool.false_or]
          rw [neInt, neInt, beq_eq_false_iff_ne.2 hn, Bool.false_or, ba_get s 0, e1, Bool.true_and]
          exact congrArg (· != 48) (last_ba s (by omega) (by omega))
  · rw [mayB_short h]
    have h' : (s.size : Int) < 1 ∨ (60 : Int) < (s.size : Int) ∨ n < 0 ∨ 60 < n := by omega
    clear h hz
    by_cases c1 : (s.size : Int) < 1
    · go_enter Tryd.func50, Tryd.ntmps50
      go_wp2
      go_ret
      exact ⟨rfl, hb⟩
    · by_cases c2 : (60 : Int) < (s.size : Int)
      · go_enter Tryd.func50, Tryd.ntmps50
        go_wp2
        go_ret
        exact ⟨rfl, hb⟩
      · by_cases c3 : n < 0
        · go_enter Tryd.func50, Tryd.ntmps50
          go_wp2
          go_ret
          exact ⟨rfl, hb⟩
        · have c4 : 60 < n := by omega
          go_enter Tryd.func50, Tryd.ntmps50
          go_wp2
          go_ret
          exact ⟨rfl, hb⟩
end Go.Proofs.YtppkknmgdahniabDoor

namespace Go.Proofs.YtppkknmgdahniabDoor
set_option maxRecDepth 100000
open Go.RowKit
set_option linter.unusedVariables false
set_option linter.unusedSimpArgs false

/-- The parts of what a call hands back. -/
def rx : Option Dm.D → Bool | some d => d.ng | none => false
def ry : Option Dm.D → ByteArray | some d => ⟨d.ds.toArray⟩ | none => ⟨#[]⟩
def rz : Option Dm.D → Int | some d => d.sc | none => 0
def re : Option Dm.D → Int | some _ => 0 | none => 3
def tV (r : Option Dm.D) : Value := .tuple #[.agg #[.bool (rx r), .string (ry r), .int .i64 (rz r)], .int .i64 (re r)]
theorem bcell {W w1 : World} (hb : Below W.heap.size W w1) : (∀ b o, b < W.heap.size → w1.cell? ⟨b, o, none⟩ = W.cell? ⟨b, o, none⟩) ∧ (∀ b o, b < W.heap.size → w1.frozen? ⟨b, o, none⟩ = W.frozen? ⟨b, o, none⟩) :=
  ⟨fun b o h => hb.cell (p := ⟨b, o, none⟩) h, fun b o h => hb.frozen (p := ⟨b, o, none⟩) h⟩

/-- The block of a result, the first that a call has laid, holds nothing yet; what was there before is as it was. -/
def Own (w0 w : World) : Prop :=
  Below w0.heap.size w0 w ∧ w0.heap.size < w.heap.size ∧ (w.cell? ⟨w0.heap.size, 0, none⟩ = some (.bool false) ∧ w.cell? ⟨w0.heap.size, 1, none⟩ = some (.string ⟨#[]⟩) ∧ w.cell? ⟨w0.heap.size, 2, none⟩ = some (.int .i64 0)) ∧
  (w.frozen? ⟨w0.heap.size, 0, none⟩ = false ∧ w.frozen? ⟨w0.heap.size, 1, none⟩ = false ∧ w.frozen? ⟨w0.heap.size, 2, none⟩ = false)
theorem Own.start (w : World) : Own w (w.alloc (.cells #[.bool false, .string ⟨#[]⟩, .int .i64 0] 31)) :=
  ⟨(Below.refl _ _).alloc (Nat.le_refl _) _, by simp, ⟨by go_simp, by go_simp, by go_simp⟩, ⟨by go_simp, by go_simp, by go_simp⟩⟩
theorem Own.step {w0 w w' : World} (h : Own w0 w) (hb : Below w.heap.size w w') : Own w0 w' := by
  obtain ⟨h1, h2, ⟨a, b, c⟩, ⟨d, e, f⟩⟩ := h
  obtain ⟨hc, hf⟩ := bcell hb
  refine ⟨h1.trans (hb.mono (by omega)), Nat.lt_of_lt_of_le h2 hb.size, ⟨?_, ?_, ?_⟩, ⟨?_, ?_, ?_⟩⟩
  · rw [hc _ _ h2]; exact a
  · rw [hc _ _ h2]; exact b
  · rw [hc _ _ h2]; exact c
  · rw [hf _ _ h2]; exact d
  · rw [hf _ _ h2]; exact e
  · rw [hf _ _ h2]; exact f
theorem Own.drew {w0 w : World} (h : Own w0 w) : Own w0 w.drew := h.step (Below.refl _ _).drew
theorem Own.facts {w0 w : World} (h : Own w0 w) : w.cell? ⟨w0.heap.size, 0, none⟩ = some (.bool false) ∧ w.cell? ⟨w0.heap.size, 1, none⟩ = some (.string ⟨#[]⟩) ∧ w.cell? ⟨w0.heap.size, 2, none⟩ = some (.int .i64 0) ∧
  w.frozen? ⟨w0.heap.size, 0, none⟩ = false ∧ w.frozen? ⟨w0.heap.size, 1, none⟩ = false ∧ w.frozen? ⟨w0.heap.size, 2, none⟩ = false :=
  ⟨h.2.2.1.1, h.2.2.1.2.1, h.2.2.1.2.2, h.2.2.2.1, h.2.2.2.2.1, h.2.2.2.2.2⟩
theorem Own.end {w0 w : World} (h : Own w0 w) (x y z : Value) : Below w0.heap.size w0 (((w.setCell ⟨w0.heap.size, 0, none⟩ x).setCell ⟨w0.heap.size, 1, none⟩ y).setCell ⟨w0.heap.size, 2, none⟩ z) :=
  ((h.1.setCell (Nat.le_refl _) _).setCell (Nat.le_refl _) _).setCell (Nat.le_refl _) _

/-- Two boxed structs of three cells, the first blocks that a call has laid; what was there before is as it was. -/
def Two (w0 : World) (a b c x y z : Value) (w : World) : Prop :=
  Below w0.heap.size w0 w ∧ w0.heap.size + 1 < w.heap.size ∧ (w.cell? ⟨w0.heap.size, 0, none⟩ = some a ∧ w.cell? ⟨w0.heap.size, 1, none⟩ = some b ∧ w.cell? ⟨w0.heap.size, 2, none⟩ = some c) ∧
  (w.cell? ⟨w0.heap.size + 1, 0, none⟩ = some x ∧ w.cell? ⟨w0.heap.size + 1, 1, none⟩ = some y ∧ w.cell? ⟨w0.heap.size + 1, 2, none⟩ = some z)
theorem Two.start (w : World) (a b c x y z : Value) (t : Nat) : Two w a b c x y z ((w.alloc (.cells #[a, b, c] t)).alloc (.cells #[x, y, z] t)) :=
  ⟨((Below.refl _ _).alloc (Nat.le_refl _) _).alloc (by simp) _, by simp, ⟨by go_simp, by go_simp, by go_simp⟩, ⟨by go_simp, by go_simp, by go_simp⟩⟩
theorem Two.step {w0 w w' : World} {a b c x y z : Value} {B : Nat} (h : Two w0 a b c x y z w) (hB : w0.heap.size + 1 < B) (hb : Below B w w') : Two w0 a b c x y z w' := by
  obtain ⟨h1, h2, ⟨p, q, r⟩, ⟨s, t, u⟩⟩ := h
  refine ⟨h1.trans (hb.mono (by omega)), Nat.lt_of_lt_of_le h2 hb.size, ⟨?_, ?_, ?_⟩, ⟨?_, ?_, ?_⟩⟩
  · rw [hb.cell (p := ⟨w0.heap.size, 0, none⟩) (by show w0.heap.size < B; omega)]; exact p
  · rw [hb.cell (p := ⟨w0.heap.size, 1, none⟩) (by show w0.heap.size < B; omega)]; exact q
  · rw [hb.cell (p := ⟨w0.heap.size, 2, none⟩) (by show w0.heap.size < B; omega)]; exact r
  · rw [hb.cell (p := ⟨w0.heap.size + 1, 0, none⟩) (by show w0.heap.size + 1 < B; omega)]; exact s
  · rw [hb.cell (p := ⟨w0.heap.size + 1, 1, none⟩) (by show w0.heap.size + 1 < B; omega)]; exact t
  · rw [hb.cell (p := ⟨w0.heap.size + 1, 2, none⟩) (by show w0.heap.size + 1 < B; omega)]; exact u
theorem Two.next {w0 w w' : World} {a b c x y z : Value} (h : Two w0 a b c x y z w) (hb : Below w.heap.size w w') : Two w0 a b c x y z w' := h.step h.2.1 hb
theorem Two.alloc {w0 w : World} {a b c x y z : Value} (h : Two w0 a b c x y z w) (o : Obj) : Two w0 a b c x y z (w.alloc o) := h.next ((Below.refl _ _).alloc (Nat.le_refl _) _)
theorem Two.drew {w0 w : World} {a b c x y z : Value} (h : Two w0 a b c x y z w) : Two w0 a b c x y z w.drew := h.next (Below.refl _ _).drew
theorem Two.drewN {w0 w : World} {a b c x y z : Value} (h : Two w0 a b c x y z w) (n : Nat) : Two w0 a b c x y z (w.drewN n) := h.next (below_drewN (Below.refl _ _) n)

theorem mk_size (l : List UInt8) : (⟨l.toArray⟩ : ByteArray).size = l.length := by simp [ByteArray.size]
theorem mk_list (l : List UInt8) : (⟨l.toArray⟩ : ByteArray).data.toList = l := rfl
/-- A decimal that may be, as it is handed in. -/
theorem dV_may {d : Dm.D} (h : Dm.May d) : Dm.mayB d.ng (⟨d.ds.toArray⟩ : ByteArray).data.toList (d.sc : Int) = true := by
  rw [mk_list, Dm.mayB_iff]
  exact ⟨by omega, by rw [Int.toNat_natCast]; exact h⟩
theorem may_len {d : Dm.D} (h : Dm.May d) : 1 ≤ d.ds.length ∧ d.ds.length ≤ 60 ∧ d.sc ≤ 60 := by
  obtain ⟨_, h2, h3, h4⟩ := h
  refine ⟨?_, h2, h3⟩
  rcases h4 with ⟨e, _⟩ | ⟨⟨c, t, e, _⟩, _⟩ <;> rw [e] <;> simp
/-- Two boxed structs and the block of a result, the first blocks that a call has laid. -/
def Tri (w0 : World) (a b c x y z : Value) (w : World) : Prop :=
  Two w0 a b c x y z w ∧ w0.heap.size + 2 < w.heap.size ∧ (w.cell? ⟨w0.heap.size + 2, 0, none⟩ = some (.bool false) ∧ w.cell? ⟨w0.heap.size + 2, 1, none⟩ = some (.string ⟨#[]⟩) ∧ w.cell? ⟨w0.heap.size + 2, 2, none⟩ = some (.int .i64 0)) ∧
  (w.frozen? ⟨w0.heap.size + 2, 0, none⟩ = false ∧ w.frozen? ⟨w0.heap.size + 2, 1, none⟩ = false ∧ w.frozen? ⟨w0.heap.size + 2, 2, none⟩ = false)
theorem Tri.start (w : World) (a b c x y z : Value) (t : Nat) : Tri w a b c x y z (((w.alloc (.cells #[a, b, c] t)).alloc (.cells #[x, y, z] t)).alloc (.cells #[.bool false, .string ⟨#[]⟩, .int .i64 0] 31)) :=
  ⟨(Two.start w a b c x y z t).alloc _, by simp, ⟨by go_simp, by go_simp, by go_simp⟩, ⟨by go_simp, by go_simp, by go_simp⟩⟩
theorem Tri.next {w0 w w' : World} {a b c x y z : Value} (h : Tri w0 a b c x y z w) (hb : Below w.heap.size w w') : Tri w0 a b c x y z w' := by
  obtain ⟨h1, h2, ⟨p, q, r⟩, ⟨s, t, u⟩⟩ := h
  obtain ⟨hc, hf⟩ := bcell hb
  refine ⟨h1.next hb, Nat.lt_of_lt_of_le h2 hb.size, ⟨?_, ?_, ?_⟩, ⟨?_, ?_, ?_⟩⟩
  · rw [hc _ _ h2]; exact p
  · rw [hc _ _ h2]; exact q
  · rw [hc _ _ h2]; exact r
  · rw [hf _ _ h2]; exact s
  · rw [hf _ _ h2]; exact t
  · rw [hf _ _ h2]; exact u
theorem Tri.drew {w0 w : World} {a b c x y z : Value} (h : Tri w0 a b c x y z w) : Tri w0 a b c x y z w.drew := h.next (Below.refl _ _).drew
theorem Tri.cells {w0 w : World} {a b c x y z : Value} (h : Tri w0 a b c x y z w) : (w.cell? ⟨w0.heap.size, 0, none⟩ = some a ∧ w.cell? ⟨w0.heap.size, 1, none⟩ = some b ∧ w.cell? ⟨w0.heap.size, 2, none⟩ = some c) ∧
  (w.cell? ⟨w0.heap.size + 1, 0, none⟩ = some x ∧ w.cell? ⟨w0.heap.size + 1, 1, none⟩ = some y ∧ w.cell? ⟨w0.heap.size + 1, 2, none⟩ = some z) := h.1.2.2
theorem Tri.out {w0 w : World} {a b c x y z : Value} (h : Tri w0 a b c x y z w) : (w.cell? ⟨w0.heap.size + 1 + 1, 0, none⟩ = some (.bool false) ∧ w.cell? ⟨w0.heap.size + 1 + 1, 1, none⟩ = some (.string ⟨#[]⟩) ∧ w.cell? ⟨w0.heap.size + 1 + 1, 2, none⟩ = some (.int .i64 0)) ∧
  (w.frozen? ⟨w0.heap.size + 1 + 1, 0, none⟩ = false ∧ w.frozen? ⟨w0.heap.size + 1 + 1, 1, none⟩ = false ∧ w.frozen? ⟨w0.heap.size + 1 + 1, 2, none⟩ = false) := ⟨h.2.2.1, h.2.2.2⟩
theorem Tri.end {w0 w : World} {a b c x y z : Value} (h : Tri w0 a b c x y z w) (p q r : Value) : Below w0.heap.size w0 (((w.setCell ⟨w0.heap.size + 1 + 1, 0, none⟩ p).setCell ⟨w0.heap.size + 1 + 1, 1, none⟩ q).setCell ⟨w0.heap.size + 1 + 1, 2, none⟩ r) :=
  ((h.1.1.setCell (by show w0.heap.size ≤ w0.heap.size + 1 + 1; omega) _).setCell (by show w0.heap.size ≤ w0.heap.size + 1 + 1; omega) _).setCell (by show w0.heap.size ≤ w0.heap.size + 1 + 1; omega) _

theorem Two.store {w0 w : World} {a b c x y z : Value} (h : Two w0 a b c x y z w) (p q r : Value) : Two w0 a b c x y z (((w.setCell ⟨w0.heap.size + 1 + 1, 0, none⟩ p).setCell ⟨w0.heap.size + 1 + 1, 1, none⟩ q).setCell ⟨w0.heap.size + 1 + 1, 2, none⟩ r) :=
  h.step (B := w0.heap.size + 1 + 1) (by omega) ((((Below.refl (w0.heap.size + 1 + 1) w).setCell (by show w0.heap.size + 1 + 1 ≤ w0.heap.size + 1 + 1; omega) _).setCell (by show w0.heap.size + 1 + 1 ≤ w0.heap.size + 1 + 1; omega) _).setCell (by show w0.heap.size + 1 + 1 ≤ w0.heap.size + 1 + 1; omega) _)
theorem sum_up {x x2 : Bool} {A B z z2 n : Nat} {r : Option Dm.D} (hn : max (z : Int) (z2 : Int) = (n : Int)) (h : Dm.Rep (Dm.sgn x (A * 10 ^ (n - z)) + Dm.sgn x2 (B * 10 ^ (n - z2))) n r) :
    Dm.Rep (Dm.sgn x A * Dm.p10 z2 + Dm.sgn x2 B * Dm.p10 z) (z + z2) r := by
  have hu := (Dm.Rep.up (z + z2 - n)).2 h
  have e1 : n + (z + z2 - n) = z + z2 := by omega
  rw [e1, Int.add_mul, Dm.sgn_mul, Dm.sgn_mul, Int.mul_assoc, Int.mul_assoc] at hu
  have e2 : ((10 ^ (n - z) : Nat) : Int) * Dm.p10 (z + z2 - n) = Dm.p10 z2 := by
    show Dm.p10 (n - z) * _ = _
    rw [← Dm.p10_add]; congr 1; omega
  have e3 : ((10 ^ (n - z2) : Nat) : Int) * Dm.p10 (z + z2 - n) = Dm.p10 z := by
    show Dm.p10 (n - z2) * _ = _
    rw [← Dm.p10_add]; congr 1; omega
  rw [e2, e3] at hu
  exact hu
/-- Add of decimals that may be. -/
theorem turn_may {x : Bool} {y : List UInt8} {z : Nat} (h : Dm.May ⟨x, y, z⟩) (hne : y ≠ [48]) : Dm.May ⟨!x, y, z⟩ ∧ Dm.sg ⟨!x, y, z⟩ = - Dm.sg ⟨x, y, z⟩ := by
  obtain ⟨h1, h2, h3, h4⟩ := h
  refine ⟨⟨h1, h2, h3, ?_⟩, ?_⟩
  · rcases h4 with ⟨e, _⟩ | e
    · exact absurd e hne
    · exact .inr e
  · unfold Dm.sg Dm.sgn; cases x <;> simp
theorem zero_sg {x : Bool} {z : Nat} : Dm.sg ⟨x, [48], z⟩ = 0 := by unfold Dm.sg Dm.sgn; cases x <;> rfl
theorem bytes_ne {y : List UInt8} (h : y ≠ [48]) : (⟨y.toArray⟩ : ByteArray) ≠ ⟨#[48]⟩ := by
  intro e
  apply h
  have := congrArg (fun b : ByteArray => b.data.toList) e
  exact this

theorem sgn_mul_pos {a p : Int} (hp : 0 < p) : (a * p < 0 ↔ a < 0) ∧ (0 < a * p ↔ 0 < a) := by
  rcases Int.lt_trichotomy a 0 with h | h | h
  · have := Int.mul_neg_of_neg_of_pos h hp
    omega
  · subst h; simp
  · have := Int.mul_pos h hp
    omega
def sgI (z : Int) : Int := if z < 0 then -1 else if 0 < z then 1 else 0
theorem sgI_neg (z : Int) : sgI (-z) = - sgI z := by
  unfold sgI
  rcases Int.lt_trichotomy z 0 with h | h | h
  · rw [if_neg (by omega), if_pos (by omega), if_pos h]; rfl
  · subst h; rfl
  · rw [if_pos (by omega), if_neg (by omega), if_pos h]
theorem sgI_pos {z p : Int} (hp : 0 < p) : sgI (z * p) = sgI z := by
  have := sgn_mul_pos (a := z) hp
  unfold sgI
  simp only [this.1, this.2]
theorem sgI_scaled {x x2 : Bool} {A B z z2 n : Nat} (hn : max (z : Int) (z2 : Int) = (n : Int)) : sgI (Dm.sgn x A * Dm.p10 z2 - Dm.sgn x2 B * Dm.p10 z) = sgI (Dm.sgn x (A * 10 ^ (n - z)) - Dm.sgn x2 (B * 10 ^ (n - z2))) := by
  have e2 : ((10 ^ (n - z) : Nat) : Int) * Dm.p10 (z + z2 - n) = Dm.p10 z2 := by
    show Dm.p10 (n - z) * _ = _
    rw [← Dm.p10_add]; congr 1; omega
  have e3 : ((10 ^ (n - z2) : Nat) : Int) * Dm.p10 (z + z2 - n) = Dm.p10 z := by
    show Dm.p10 (n - z2) * _ = _
    rw [← Dm.p10_add]; congr 1; omega
  rw [← sgI_pos (z := Dm.sgn x (A * 10 ^ (n - z)) - Dm.sgn x2 (B * 10 ^ (n - z2))) (Dm.p10_pos (z + z2 - n)), Int.sub_mul, Dm.sgn_mul, Dm.sgn_mul, Int.mul_assoc, Int.mul_assoc, e2, e3]
end Go.Proofs.YtppkknmgdahniabDoor

namespace Go.Proofs.YtppkknmgdahniabDoor
set_option maxRecDepth 100000
open Go.RowKit
set_option linter.unusedVariables false
set_option linter.unusedSimpArgs false

/-- A text of a list of bytes. -/
theorem str_ext {s : ByteArray} {l : List UInt8} (h : s.data.toList = l) : s = ⟨l.toArray⟩ := by
  subst h; cases s; simp
theorem takeWhile_at {l : List UInt8} {k : Nat} (hd : Dm.allD (l.take k)) (h : ∀ g : k < l.length, Dm.isD l[k] = false) : l.takeWhile Dm.isD = l.take k ∧ l.dropWhile Dm.isD = l.drop k := by
  have := Dm.takeWhile_all (l := l.take k) (m := l.drop k) hd (by
    intro c t e
    have g : k < l.length := by
      rcases Nat.lt_or_ge k l.length with g | g
      · exact g
      · rw [List.drop_of_length_le g] at e; cases e
    rw [List.drop_eq_getElem_cons g] at e
    injection e with e1
    rw [← e1]; exact h g)
  rwa [List.take_append_drop] at this
theorem ret_two {a b c d : Value} (h : a = c) (g : b = d) : Ending.returned (.tuple #[a, b]) = .returned (.tuple #[c, d]) := by rw [h, g]

set_option maxRecDepth 100000 in
set_option maxHeartbeats 1000000 in
theorem cutDigits_any (s : ByteArray) (w : World) (hs : s.size ≤ maxLen) :
    Calls Tryd.prog 40 #[.string s] w fun e w' => e = .returned (.tuple #[.string ⟨(s.data.toList.takeWhile Dm.isD).toArray⟩, .string ⟨(s.data.toList.dropWhile Dm.isD).toArray⟩]) ∧ Below w.heap.size w w' := by
  unfold maxLen at hs
  go_enter Tryd.func40, Tryd.ntmps40
  go_wp2
  go_loop [7, 4] (fun i j => ∃ k : Nat, k ≤ s.size ∧ i = .int .i64 k ∧ Dm.allD (s.data.toList.take k)) (fun i _ => s.size - (intOf i).toNat)
  case atStart => exact ⟨0, Nat.zero_le _, rfl, by rw [List.take_zero]; exact Dm.allD_nil⟩
  case round =>
    obtain ⟨k, hk, rfl, hd⟩ := hrel
    by_cases hlt : k < s.size
    · have HD := hide hd
      clear hd
      go_wp2_with (go_at_call 59; refine (isDigit_any _ _).mono ?_; rintro e w' ⟨rfl, rfl⟩)
      · have hbad : (!Dm.isD s[k]) = true := by assumption
        go_quiet (fail)
        go_wp2
        go_ret2
        rw [ba_get s k hlt, Bool.not_eq_true'] at hbad
        have := takeWhile_at (unhide HD) (fun _ => hbad)
        refine ⟨ret_two (congrArg Value.string (str_ext ?_)) (congrArg Value.string (str_ext ?_)), Go.below_drewN (Below.refl _ _) _⟩
        · rw [this.1, Go.Lib.extract_data, List.drop_zero, Nat.sub_zero]
        · rw [this.2, Go.Lib.extract_to_end]
      · rename_i hgood
        go_round
        case rel =>
          refine ⟨k + 1, by omega, by go_num, ?_⟩
          rw [ba_get s k hlt, Bool.not_eq_false'] at hgood
          exact allD_take_succ (by rw [← size_len]; exact hlt) (unhide HD) hgood
        case measure => simp [intOf]; omega
    · have HD := hide hd
      clear hd
      go_wp2
      go_ret2
      have e : k = s.data.toList.length := by rw [← size_len]; omega
      have := takeWhile_at (unhide HD) (fun g => absurd g (by omega))
      refine ⟨ret_two (congrArg Value.string (str_ext ?_)) (congrArg Value.string (str_ext ?_)), Below.refl _ _⟩
      · rw [this.1, e, List.take_length]
      · rw [this.2, e, List.drop_length]
end Go.Proofs.YtppkknmgdahniabDoor

namespace Go.Proofs.YtppkknmgdahniabDoor
set_option maxRecDepth 100000
open Go.RowKit
set_option linter.unusedVariables false
set_option linter.unusedSimpArgs false

/-- Bytes that lie in memory, one a cell. -/
def Row (w : World) (b o : Nat) (l : List UInt8) : Prop := ∀ i, i < l.length → w.cell? ⟨b, o + i, none⟩ = some (.int .u8 ((l.getD i 0).toNat : Int))
theorem Row.below {w w' : World} {b o : Nat} {l : List UInt8} (h : Row w b o l) (hB : Below w.heap.size w w') : Row w' b o l :=
  fun i hi => by rw [hB.cell (p := ⟨b, o + i, none⟩) (World.block_lt_of_cell? _ _ (h i hi))]; exact h i hi
theorem Row.drop {w : World} {b o : Nat} {l : List UInt8} (h : Row w b o l) (j : Nat) : Row w b (o + j) (l.drop j) := by
  intro i hi
  rw [List.length_drop] at hi
  have := h (j + i) (by omega)
  rw [Nat.add_assoc, this]
  simp [List.getD, List.getElem?_drop]
theorem Row.take {w : World} {b o : Nat} {l : List UInt8} (h : Row w b o l) (j : Nat) : Row w b o (l.take j) := by
  intro i hi
  rw [List.length_take] at hi
  rw [h i (by omega)]
  simp [List.getD, List.getElem?_take, show i < j by omega]
theorem Row.at {w : World} {b o : Nat} {l : List UInt8} (h : Row w b o l) {n : Nat} (hn : l.length = n) : Lib.BytesAt w (some ⟨b, o, none⟩) n l := fun _ => ⟨b, o, rfl, fun i hi => h i (by omega)⟩

theorem conv_row (b o n c : Nat) (ds : List UInt8) (w : World) (hn : ds.length = n) (hr : Row w b o ds) :
    (convert 41 9 (.slice (some ⟨b, o, none⟩) n c)).run Tryd.prog w = .ok (.string ⟨ds.toArray⟩) w := by
  have := run_convert_bytes_arg (P := Tryd.prog) w 41 5 Tryd.underlying41 Tryd.underlying5 b o n c (ds.map fun x => (x.toNat : Int)) (by simpa using hn) (fun i hi => by
    rw [hr i (by omega)]
    simp [List.getD, List.getElem?_map, List.getElem?_eq_getElem (show i < ds.length by omega)]) 9 Tryd.underlying9
  have e : strOfNums (ds.map fun x => (x.toNat : Int)) = ⟨ds.toArray⟩ := by
    unfold strOfNums
    rw [List.map_map]
    have : (fun n => UInt8.ofNat n.toNat) ∘ (fun x : UInt8 => (x.toNat : Int)) = id := by funext x; simp
    rw [this, List.map_id]
  rw [this, e]

theorem Row.set {w : World} {g : Nat} {L : List UInt8} (h : Row w g 0 L) (j : Nat) (c : UInt8) : Row (w.setCell ⟨g, j, none⟩ (.int .u8 (c.toNat : Int))) g 0 (L.set j c) := by
  intro i hi
  rw [List.length_set] at hi
  rw [Nat.zero_add]
  by_cases e : j = i
  · subst e
    have h0 := h j hi
    rw [Nat.zero_add] at h0
    rw [World.cell?_setCell_same' _ _ _ (by rw [h0]; rfl)]
    simp [List.getD, hi]
  · rw [World.cell?_setCell_other (w := w) (a := ⟨g, j, none⟩) (b := ⟨g, i, none⟩) (h := by intro q; injection q with _ q2; exact e q2)]
    have h0 := h i hi
    rw [Nat.zero_add] at h0
    rw [h0]
    simp [List.getD, List.getElem?_set, e]

theorem row_made (W : World) (n : Nat) : Row (W.alloc (.cells (madeCells #[.int .u8 0] n) 5)) W.heap.size 0 (List.replicate n 0) := by
  intro i hi
  rw [List.length_replicate] at hi
  rw [Nat.zero_add, World.cell?_alloc_at _ _ _ _ rfl]
  have : (madeCells #[Value.int .u8 0] n)[i]? = some (.int .u8 0) := by simp [madeCells, hi, Nat.mod_one]
  rw [this]
  simp [List.getD, hi]
theorem frozen_made (W : World) (c : Array Value) (t j : Nat) : (W.alloc (.cells c t)).frozen? ⟨W.heap.size, j, none⟩ = false := by
  go_simp
/-- Sums in a row of ints. -/
def Ints (w : World) (g : Nat) (S : List Nat) : Prop := ∀ p, p < S.length → w.cell? ⟨g, p, none⟩ = some (.int .i64 ((S.getD p 0 : Nat) : Int))
theorem Ints.below {w w' : World} {g : Nat} {S : List Nat} (h : Ints w g S) (hB : Below w.heap.size w w') : Ints w' g S :=
  fun i hi => by rw [hB.cell (p := ⟨g, i, none⟩) (World.block_lt_of_cell? _ _ (h i hi))]; exact h i hi
theorem Ints.set {w : World} {g : Nat} {S : List Nat} (h : Ints w g S) (j x : Nat) : Ints (w.setCell ⟨g, j, none⟩ (.int .i64 (x : Int))) g (S.set j x) := by
  intro i hi
  rw [List.length_set] at hi
  by_cases e : j = i
  · subst e
    rw [World.cell?_setCell_same' _ _ _ (by rw [h j hi]; rfl)]
    simp [List.getD, hi]
  · rw [World.cell?_setCell_other (w := w) (a := ⟨g, j, none⟩) (b := ⟨g, i, none⟩) (h := by intro q; injection q with _ q2; exact e q2), h i hi]
    simp [List.getD, List.getElem?_set, e]
theorem ints_made (W : World) (n t : Nat) : Ints (W.alloc (.cells (madeCells #[.int .i64 0] n) t)) W.heap.size (List.replicate n 0) := by
  intro i hi
  rw [List.length_replicate] at hi
  rw [World.cell?_alloc_at _ _ _ _ rfl]
  have : (madeCells #[Value.int .i64 0] n)[i]? = some (.int .i64 0) := by simp [madeCells, hi, Nat.mod_one]
  rw [this]
  simp [List.getD, hi]
end Go.Proofs.YtppkknmgdahniabDoor
