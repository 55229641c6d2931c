/- What is proved here: what Print of package dec does with a decimal that may be, walked; conditions: as each theorem states. -/
import Derived.Test.YtijelgmmmceflaaDoorWh
namespace Go.Proofs.YtijelgmmmceflaaDoor
open Go.RowKit
set_option linter.unusedVariables false
set_option linter.unusedSimpArgs false

/-- A boxed struct of three cells, the first block that a call has laid; what was there before is as it was. -/
def Box3 (w0 : World) (x y z : Value) (w : World) : Prop :=
  Below w0.heap.size w0 w ∧ w0.heap.size < w.heap.size ∧ w.cell? ⟨w0.heap.size, 0, none⟩ = some x ∧ w.cell? ⟨w0.heap.size, 1, none⟩ = some y ∧ w.cell? ⟨w0.heap.size, 2, none⟩ = some z
theorem Box3.start (w : World) (x y z : Value) (t : Nat) : Box3 w x y z (w.alloc (.cells #[x, y, z] t)) :=
  ⟨(Below.refl _ _).alloc (Nat.le_refl _) _, by simp, by go_simp, by go_simp, by go_simp⟩
theorem Box3.step {w0 w w' : World} {x y z : Value} {B : Nat} (h : Box3 w0 x y z w) (hB : w0.heap.size < B) (hb : Below B w w') : Box3 w0 x y z w' := by
  obtain ⟨h1, h2, a, b, c⟩ := h
  refine ⟨h1.trans (hb.mono (by omega)), Nat.lt_of_lt_of_le h2 hb.size, ?_, ?_, ?_⟩
  · rw [hb.cell (p := ⟨w0.heap.size, 0, none⟩) hB]; exact a
  · rw [hb.cell (p := ⟨w0.heap.size, 1, none⟩) hB]; exact b
  · rw [hb.cell (p := ⟨w0.heap.size, 2, none⟩) hB]; exact c
theorem Box3.next {w0 w w' : World} {x y z : Value} (h : Box3 w0 x y z w) (hb : Below w.heap.size w w') : Box3 w0 x y z w' := h.step h.2.1 hb
theorem Box3.alloc {w0 w : World} {x y z : Value} (h : Box3 w0 x y z w) (o : Obj) : Box3 w0 x y z (w.alloc o) := h.next ((Below.refl _ _).alloc (Nat.le_refl _) _)
theorem Box3.drew {w0 w : World} {x y z : Value} (h : Box3 w0 x y z w) : Box3 w0 x y z w.drew := h.next (Below.refl _ _).drew

theorem lt_of_some {w : World} {b : Nat} {o : Obj} (h : w.heap[b]? = some o) : b < w.heap.size := by
  rcases Nat.lt_or_ge b w.heap.size with g | g
  · exact g
  · rw [Array.getElem?_eq_none g] at h; cases h
theorem ownsRow_below {w w' : World} {B : Nat} {e : TypeId} {v : Value} {n : Nat} {xs : List Value} (h : w.ownsRow B e 1 v n xs) (hb : Below w.heap.size w w') : w'.ownsRow B e 1 v n xs := by
  refine ⟨h.1, ?_⟩
  rcases h.2 with g | ⟨g, cap, cur, h1, h2, h3, rest⟩
  · exact .inl g
  · exact .inr ⟨g, cap, cur, h1, h2, (hb.block g (lt_of_some h3)).trans h3, rest⟩
theorem builderAt_below {T e : TypeId} {B b : Nat} {p : Value} {bs : List Value} {w w' : World} (h : Lib.BuilderAt T e B b p bs w) (hb : Below w.heap.size w w') : Lib.BuilderAt T e B b p bs w' := by
  obtain ⟨h1, v, h2, h3, h4⟩ := h
  exact ⟨h1, v, (hb.block b (lt_of_some h2)).trans h2, ownsRow_below h3 hb, h4⟩
theorem isb_below {T e : TypeId} {B b : Nat} {bs : List Value} {w w' : World} (h : Lib.IsBuilder T e B b bs w) (hb : Below w.heap.size w w') : Lib.IsBuilder T e B b bs w' :=
  h.elim (fun x => .inl (builderAt_below x hb)) (fun x => .inr (builderAt_below x hb))
theorem isb_drew {T e : TypeId} {B b : Nat} {bs : List Value} {w : World} (h : Lib.IsBuilder T e B b bs w) : Lib.IsBuilder T e B b bs w.drew := isb_below h (Below.refl _ _).drew
theorem isb_of {T e : TypeId} {B b : Nat} {p : List UInt8} {s : ByteArray} {w : World} (h : Lib.BuilderAt T e B b (.pointer (some ⟨b, 0, none⟩)) (Lib.byteCells p ++ Lib.byteCells s.data.toList) w) : Lib.IsBuilder T e B b (Lib.byteCells (p ++ s.data.toList)) w := by
  rw [Lib.byteCells_append]; exact .inr h

theorem wrap_id {n : Int} (h1 : -1000000000 ≤ n) (h2 : n ≤ 1000000000) : IntKind.i64.wrap n = n := by
  rw [IntKind.wrap_i64]; omega
theorem writeS (b : Nat) (pre : List UInt8) (T : ByteArray) (w : World) (hI : Lib.IsBuilder 56 5 b b (Lib.byteCells pre) w) (hl : pre.length + T.size ≤ 100000) (hb : b ≤ w.heap.size) :
    Calls Tryd.prog 38 #[.pointer (some ⟨b, 0, none⟩), .string T] w fun e w' => e = .returned (.tuple #[.int .i64 T.size, .nilIface]) ∧ Lib.IsBuilder 56 5 b b (Lib.byteCells (pre ++ T.data.toList)) w' ∧ Below b w w' := by
  refine (Tryd.Builder_WriteString b b _ T w hI (by rw [Lib.byteCells_length]; omega) hb).mono ?_
  rintro e w' ⟨rfl, h1, h2⟩
  exact ⟨rfl, isb_of h1, h2⟩
theorem writeB (b : Nat) (pre : List UInt8) (c : UInt8) (w : World) (hI : Lib.IsBuilder 56 5 b b (Lib.byteCells pre) w) (hl : pre.length ≤ 100000) (hb : b ≤ w.heap.size) :
    Calls Tryd.prog 37 #[.pointer (some ⟨b, 0, none⟩), .int .u8 (c.toNat : Int)] w fun e w' => e = .returned .nilIface ∧ Lib.IsBuilder 56 5 b b (Lib.byteCells (pre ++ [c])) w' ∧ Below b w w' := by
  refine (Tryd.Builder_WriteByte b b _ (c.toNat : Int) w hI (by rw [Lib.byteCells_length]; omega) hb).mono ?_
  rintro e w' ⟨rfl, h1, h2⟩
  refine ⟨rfl, ?_, h2⟩
  rw [Lib.byteCells_append]
  exact .inr h1
theorem ret_str {a b : ByteArray} (h : a = b) : Ending.returned (.string a) = .returned (.string b) := by rw [h]
theorem may_b (ng : Bool) (s : ByteArray) (n : Int) (b : Bool) (w : World) (hs : s.size ≤ maxLen) (h : Dm.mayB ng s.data.toList n = b) :
    Calls Tryd.prog 18 #[.agg #[.bool ng, .string s, .int .i64 n]] w fun e w' => e = .returned (.bool b) ∧ Below w.heap.size w w' := by
  have := may_any ng s n w hs
  rw [h] at this; exact this

set_option maxRecDepth 100000 in
set_option maxHeartbeats 1000000 in
theorem print_no (ng : Bool) (s : ByteArray) (n : Int) (w : World) (hs : s.size ≤ maxLen) (h : Dm.mayB ng s.data.toList n = false) :
    Calls Tryd.prog 16 #[.agg #[.bool ng, .string s, .int .i64 n]] w fun e w' => e = .returned (.string ⟨#[]⟩) ∧ Below w.heap.size w w' := by
  have hx := Box3.start w (.bool ng) (.string s) (.int .i64 n) 23
  have H := hide h
  clear h
  go_enter Tryd.func16, Tryd.ntmps16
  go_wp2_with (go_at_call 18; refine (may_b ng s n false _ hs (unhide H)).mono ?_; rintro e w' ⟨rfl, hbw⟩)
  go_ret
  exact ⟨rfl, (hx.next hbw).1⟩

set_option maxRecDepth 100000 in
set_option maxHeartbeats 1000000 in
theorem print_low (ng : Bool) (s : ByteArray) (n : Nat) (w : World) (h : Dm.mayB ng s.data.toList n = true) (hs1 : 1 ≤ s.size) (hs2 : s.size ≤ 60) (hn : n ≤ 60) (hp : s.size ≤ n) :
    Calls Tryd.prog 16 #[.agg #[.bool ng, .string s, .int .i64 n]] w fun e w' => e = .returned (.string ⟨((if ng then [45] else []) ++ ([48, 46] ++ List.replicate (n - s.size) 48 ++ s.data.toList)).toArray⟩) ∧ Below w.heap.size w w' := by
  have hx := Box3.start w (.bool ng) (.string s) (.int .i64 (n : Int)) 23
  have H := hide h
  have hsm : s.size ≤ maxLen := by unfold maxLen; omega
  clear h
  cases ng with
  | false =>
    go_enter Tryd.func16, Tryd.ntmps16
    go_wp2_with (go_at_call 18; refine (may_b false s n true _ hsm (unhide H)).mono ?_; rintro e w2 ⟨rfl, hbw⟩; have hx2 := hx.next hbw; clear hx hbw; obtain ⟨hx0, hxs, c0, c1, c2⟩ := id hx2)
    have hx3 := hx2.alloc (.cells #[.pointer none, .slice none 0 0] 56)
    have hI3 : Lib.IsBuilder 56 5 w2.heap.size w2.heap.size (Lib.byteCells []) (w2.alloc (.cells #[.pointer none, .slice none 0 0] 56)) := Lib.fresh_isBuilder 56 5 w2
    obtain ⟨_, _, d0, d1, d2⟩ := id hx3
    have hz : w2.heap.size ≤ (w2.alloc (.cells #[.pointer none, .slice none 0 0] 56)).heap.size := by simp
    clear c0 c1 c2
    have hwr : IntKind.i64.wrap (-((s.size : Int) - (n : Int))) = -((s.size : Int) - (n : Int)) := wrap_id (by omega) (by omega)
    have hs0 : ((⟨#[48, 46]⟩ : ByteArray) ++ ⟨Array.replicate (-((s.size : Int) - (n : Int))).toNat 48⟩ ++ s).size ≤ 200 := by
      rw [ByteArray.size_append, ByteArray.size_append]
      show 2 + (Array.replicate (-((s.size : Int) - (n : Int))).toNat (48 : UInt8)).size + s.size ≤ 200
      rw [Array.size_replicate]; omega
    have HS := hide hs0
    clear hs0
    go_region_with (first | (go_at_call 39; refine (repeat_any _ _ (by omega) (by omega)).mono ?_; rintro e w4 ⟨rfl, hb4⟩; have hI4 := isb_below (by first | exact hI3 | exact isb_drew hI3) hb4; have hx4 := Box3.next (by first | exact hx3 | exact hx3.drew) hb4; obtain ⟨_, _, d0, d1, d2⟩ := id hx4; have hz4 := Nat.le_trans hz hb4.size) | (go_at_call 38; refine (writeS w2.heap.size [] _ w4 (by exact hI4) (by have := unhide HS; simp only [List.length_nil, List.length_cons]; omega) hz4).mono ?_; rintro e w5 ⟨rfl, hI5, hb5⟩))
    all_goals
      have hx5 := hx4.step hxs hb5
      go_wp2_with (go_at_call 40; refine (Tryd.Builder_String_any w2.heap.size w2.heap.size _ w5 hI5 (Nat.le_trans hz4 hb5.size)).mono ?_; rintro e w6 ⟨rfl, hb6⟩)
      go_ret
      refine ⟨?_, (hx5.step hxs hb6).1⟩
      have e : (-((s.size : Int) - (n : Int))).toNat = n - s.size := by omega
      exact ret_str (by rw [e])
  | true =>
    go_enter Tryd.func16, Tryd.ntmps16
    go_wp2_with (go_at_call 18; refine (may_b true s n true _ hsm (unhide H)).mono ?_; rintro e w2 ⟨rfl, hbw⟩; have hx2 := hx.next hbw; clear hx hbw; obtain ⟨hx0, hxs, c0, c1, c2⟩ := id hx2)
    refine (writeB w2.heap.size [] 45 (w2.alloc (.cells #[.pointer none, .slice none 0 0] 56)) (Lib.fresh_isBuilder 56 5 w2) (by simp) (by simp)).mono ?_
    rintro e w3 ⟨rfl, hI3, hb3⟩
    have hx3 := (hx2.alloc (.cells #[.pointer none, .slice none 0 0] 56)).step hxs hb3
    have hz : w2.heap.size ≤ w3.heap.size := Nat.le_trans (by simp) hb3.size
    obtain ⟨_, _, d0, d1, d2⟩ := id hx3
    clear c0 c1 c2
    go_wp2
    have hwr : IntKind.i64.wrap (-((s.size : Int) - (n : Int))) = -((s.size : Int) - (n : Int)) := wrap_id (by omega) (by omega)
    have hs0 : ((⟨#[48, 46]⟩ : ByteArray) ++ ⟨Array.replicate (-((s.size : Int) - (n : Int))).toNat 48⟩ ++ s).size ≤ 200 := by
      rw [ByteArray.size_append, ByteArray.size_append]
      show 2 + (Array.replicate (-((s.size : Int) - (n : Int))).toNat (48 : UInt8)).size + s.size ≤ 200
      rw [Array.size_replicate]; omega
    have HS := hide hs0
    clear hs0
    go_region_with (first | (go_at_call 39; refine (repeat_any _ _ (by omega) (by omega)).mono ?_; rintro e w4 ⟨rfl, hb4⟩; have hI4 := isb_below (by first | exact hI3 | exact isb_drew hI3) hb4; have hx4 := Box3.next (by first | exact hx3 | exact hx3.drew) hb4; obtain ⟨_, _, d0, d1, d2⟩ := id hx4; have hz4 := Nat.le_trans hz hb4.size) | (go_at_call 38; refine (writeS w2.heap.size [45] _ w4 (by exact hI4) (by have := unhide HS; simp only [List.length_nil, List.length_cons]; omega) hz4).mono ?_; rintro e w5 ⟨rfl, hI5, hb5⟩))
    all_goals
      have hx5 := hx4.step hxs hb5
      go_wp2_with (go_at_call 40; refine (Tryd.Builder_String_any w2.heap.size w2.heap.size _ w5 hI5 (Nat.le_trans hz4 hb5.size)).mono ?_; rintro e w6 ⟨rfl, hb6⟩)
      go_ret
      refine ⟨?_, (hx5.step hxs hb6).1⟩
      have e : (-((s.size : Int) - (n : Int))).toNat = n - s.size := by omega
      exact ret_str (by rw [e])
end Go.Proofs.YtijelgmmmceflaaDoor
