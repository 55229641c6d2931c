/- What is proved here: how a labelled value lies in memory, and that it stays where the blocks that it lies in stay; conditions: none. What is proved here: what package tree's Held answers, walked; condition: at most a million nodes. What is proved here: what package tree's Deep answers, walked; condition: at most a million nodes and levels. What is proved here: what package tree's Size answers, walked; condition: at most a million nodes and levels. What is proved here: what package tree's Size answers, walked; condition: at most a million nodes. What is proved here: what package tree's With answers, walked. What is proved here: what slices.Clone makes of a row of texts, walked. -/
import Derived.Below
import Derived.WalkKit
import Derived.WalkSpells
import Derived.WalkLawsBesides
import Derived.BigCall
import Derived.Carry
import Derived.Test.YtppkknmgdahniaaDoorRows
import Derived.Test.YtppkknmgdahniaaDoorProg
import Derived.Laws.BitsAllLaws
import Derived.BigRegion
import Derived.Deep.RegionHeld3
import Derived.Laws.IdiomCopy
import Derived.OwnWalk
namespace Go.Proofs.YtppkknmgdahniaaDoor
set_option maxRecDepth 100000
open Go.RowKit
set_option linter.unusedVariables false
set_option linter.unusedSimpArgs false

/-- What a node holds beside its kids. -/
structure Hd where
  k : Int
  m : Nat
  ng : Bool
  dg : ByteArray
  sc : Int
  tx : ByteArray
  ks : List ByteArray
  cd : Int
/-- A tree: kids, and what its node holds. -/
abbrev Tr := DataW Hd
def Tr.mk (h : Hd) (l : List Tr) : Tr := .slice l [.held h]
def Hd.none : Hd := ⟨0, 0, false, ⟨#[]⟩, 0, ⟨#[]⟩, [], 0⟩
def Tr.hd : Tr → Hd
  | .slice _ (.held h :: _) => h
  | _ => Hd.none
def Tr.kd : Tr → List Tr
  | .slice l _ => l
  | _ => []
theorem Tr.hd_mk (h : Hd) (l : List Tr) : Tr.hd (Tr.mk h l) = h := rfl
theorem Tr.kd_mk (h : Hd) (l : List Tr) : Tr.kd (Tr.mk h l) = l := rfl
theorem Tr.mk_inj {h h' : Hd} {l l' : List Tr} (e : Tr.mk h l = Tr.mk h' l') : h = h' ∧ l = l' := ⟨congrArg Tr.hd e, congrArg Tr.kd e⟩

/-- A node's nine cells. -/
def nine (h : Hd) (kv dv : Value) : Array Value := #[.int .i64 h.k, .int .u64 (h.m : Int), .bool h.ng, .string h.dg, .int .i64 h.sc, .string h.tx, kv, dv, .int .i64 h.cd]
/-- How much room a slice has. -/
def CapOk (a : Option Addr) (n cap : Nat) : Prop := n ≤ cap ∧ (a = none → cap = 0)
/-- A row of texts, in blocks that may be. -/
def StrsIn (ok : Nat → Prop) (w : World) (kv : Value) (ks : List ByteArray) : Prop :=
  ∃ a cap, kv = .slice a ks.length cap ∧ CapOk a ks.length cap ∧ ∀ i, ∀ h : i < ks.length, ∃ b o, a = some ⟨b, o, none⟩ ∧ ok b ∧ b < w.heap.size ∧ w.cell? ⟨b, o + i, none⟩ = some (.string (ks[i]'h))
/-- Nine cells side by side. -/
def Row9 (w : World) (b o : Nat) (cs : Array Value) : Prop := ∀ j, ∀ h : j < cs.size, w.cell? ⟨b, o + j, none⟩ = some (cs[j]'h)
/-- A row of values. -/
def KidsIn (ok : Nat → Prop) (P : Value → Tr → Prop) (w : World) (dv : Value) (l : List Tr) : Prop :=
  ∃ a cap, dv = .slice a l.length cap ∧ CapOk a l.length cap ∧ ∀ i, ∀ h : i < l.length, ∃ b o cs, a = some ⟨b, o, none⟩ ∧ ok b ∧ b < w.heap.size ∧ Row9 w b (o + i * 9) cs ∧ P (.agg cs) (l[i]'h)
/-- The value v is the tree t, in the world w, at most n levels deep; it lies in blocks that may be. -/
def Lies (ok : Nat → Prop) (w : World) : Nat → Value → Tr → Prop
  | 0, _, _ => False
  | n + 1, v, t => ∃ h l kv dv, t = Tr.mk h l ∧ v = .agg (nine h kv dv) ∧ h.m < 18446744073709551616 ∧ StrsIn ok w kv h.ks ∧ KidsIn ok (Lies ok w n) w dv l
/-- Any block. -/
def anyB (_ : Nat) : Prop := True

/-- The blocks that may be are as they were. -/
def Kept (ok : Nat → Prop) (w w' : World) : Prop := w.heap.size ≤ w'.heap.size ∧ ∀ b, ok b → b < w.heap.size → w'.heap[b]? = w.heap[b]?
theorem Kept.of_below {ok : Nat → Prop} {w w' : World} (h : Below w.heap.size w w') : Kept ok w w' := ⟨h.size, fun b _ hb => h.block b hb⟩
theorem Kept.of_grown {w w' : World} {r : Option Nat} (h : w.grownBy w' r) : Kept (fun b => some b ≠ r) w w' := ⟨h.size, fun b hb hl => h.block b hl hb⟩
theorem Kept.cell {ok : Nat → Prop} {w w' : World} (h : Kept ok w w') {b o : Nat} (hb : ok b) (hl : b < w.heap.size) : w'.cell? ⟨b, o, none⟩ = w.cell? ⟨b, o, none⟩ :=
  World.cell?_of_block (a := ⟨b, o, none⟩) (h.2 b hb hl)
theorem Kept.weak {ok ok' : Nat → Prop} {w w' : World} (h : Kept ok' w w') (hi : ∀ b, b < w.heap.size → ok b → ok' b) : Kept ok w w' := ⟨h.1, fun b hb hl => h.2 b (hi b hl hb) hl⟩
theorem StrsIn.keep {ok ok' : Nat → Prop} {w w' : World} {kv : Value} {ks : List ByteArray} (h : StrsIn ok w kv ks) (hb : Kept ok w w') (hi : ∀ b, b < w.heap.size → ok b → ok' b) : StrsIn ok' w' kv ks := by
  obtain ⟨a, cap, h1, h0, h3⟩ := h
  refine ⟨a, cap, h1, h0, fun i hi' => ?_⟩
  obtain ⟨b, o, e, ho, h2, h4⟩ := h3 i hi'
  exact ⟨b, o, e, hi b h2 ho, Nat.lt_of_lt_of_le h2 hb.1, by rw [hb.cell ho h2]; exact h4⟩
theorem Row9.keep {ok : Nat → Prop} {w w' : World} {b o : Nat} {cs : Array Value} (h : Row9 w b o cs) (ho : ok b) (hl : b < w.heap.size) (hb : Kept ok w w') : Row9 w' b o cs := by
  intro j hj
  rw [hb.cell ho hl]
  exact h j hj
theorem KidsIn.keep {ok ok' : Nat → Prop} {P P' : Value → Tr → Prop} {w w' : World} {dv : Value} {l : List Tr} (hP : ∀ v t, P v t → P' v t) (h : KidsIn ok P w dv l) (hb : Kept ok w w') (hi : ∀ b, b < w.heap.size → ok b → ok' b) : KidsIn ok' P' w' dv l := by
  obtain ⟨a, cap, h1, h0, h3⟩ := h
  refine ⟨a, cap, h1, h0, fun i hi' => ?_⟩
  obtain ⟨b, o, cs, e, ho, h2, r, p⟩ := h3 i hi'
  exact ⟨b, o, cs, e, hi b h2 ho, Nat.lt_of_lt_of_le h2 hb.1, r.keep ho h2 hb, hP _ _ p⟩
theorem Lies.keep {ok ok' : Nat → Prop} {w w' : World} (hb : Kept ok w w') (hi : ∀ b, b < w.heap.size → ok b → ok' b) : ∀ {n : Nat} {v : Value} {t : Tr}, Lies ok w n v t → Lies ok' w' n v t
  | 0, _, _, h => h
  | n + 1, v, t, ⟨h, l, kv, dv, e1, e2, e0, e3, e4⟩ => ⟨h, l, kv, dv, e1, e2, e0, e3.keep hb hi, e4.keep (fun _ _ p => Lies.keep hb hi p) hb hi⟩
theorem Lies.below {ok : Nat → Prop} {w w' : World} (hb : Below w.heap.size w w') {n : Nat} {v : Value} {t : Tr} (h : Lies ok w n v t) : Lies ok w' n v t := h.keep (Kept.of_below hb) (fun _ _ h => h)
theorem Kept.refl (ok : Nat → Prop) (w : World) : Kept ok w w := ⟨Nat.le_refl _, fun _ _ _ => rfl⟩
theorem Lies.weak {ok ok' : Nat → Prop} {w : World} (hi : ∀ b, b < w.heap.size → ok b → ok' b) {n : Nat} {v : Value} {t : Tr} (h : Lies ok w n v t) : Lies ok' w n v t := h.keep (Kept.refl _ _) hi
theorem Lies.any {ok : Nat → Prop} {w : World} {n : Nat} {v : Value} {t : Tr} (h : Lies ok w n v t) : Lies anyB w n v t := h.weak (fun _ _ _ => trivial)
theorem Lies.more {ok : Nat → Prop} {w : World} : ∀ {n m : Nat} {v : Value} {t : Tr}, n ≤ m → Lies ok w n v t → Lies ok w m v t
  | 0, _, _, _, _, h => h.elim
  | n + 1, 0, _, _, hm, _ => absurd hm (by omega)
  | n + 1, m + 1, v, t, hm, ⟨h, l, kv, dv, e1, e2, e0, e3, e4⟩ =>
    ⟨h, l, kv, dv, e1, e2, e0, e3, by
      obtain ⟨a, cap, h1, h0, h3⟩ := e4
      refine ⟨a, cap, h1, h0, fun i hi => ?_⟩
      obtain ⟨b, o, cs, e, ho, h2, r, p⟩ := h3 i hi
      exact ⟨b, o, cs, e, ho, h2, r, Lies.more (by omega) p⟩⟩
/-- A kid's cells, one by one. -/
theorem Row9.cells {w : World} {b o : Nat} {h : Hd} {kv dv : Value} (r : Row9 w b o (nine h kv dv)) :
    w.cell? ⟨b, o, none⟩ = some (.int .i64 h.k) ∧ w.cell? ⟨b, o + 1, none⟩ = some (.int .u64 (h.m : Int)) ∧ w.cell? ⟨b, o + 2, none⟩ = some (.bool h.ng) ∧ w.cell? ⟨b, o + 3, none⟩ = some (.string h.dg) ∧
    w.cell? ⟨b, o + 4, none⟩ = some (.int .i64 h.sc) ∧ w.cell? ⟨b, o + 5, none⟩ = some (.string h.tx) ∧ w.cell? ⟨b, o + 6, none⟩ = some kv ∧ w.cell? ⟨b, o + 7, none⟩ = some dv ∧ w.cell? ⟨b, o + 8, none⟩ = some (.int .i64 h.cd) :=
  ⟨r 0 (by simp [nine]), r 1 (by simp [nine]), r 2 (by simp [nine]), r 3 (by simp [nine]), r 4 (by simp [nine]), r 5 (by simp [nine]), r 6 (by simp [nine]), r 7 (by simp [nine]), r 8 (by simp [nine])⟩
theorem Lies.open {ok : Nat → Prop} {w : World} {n : Nat} {v : Value} {t : Tr} (h : Lies ok w n v t) : ∃ m hd l kv dv, n = m + 1 ∧ t = Tr.mk hd l ∧ v = .agg (nine hd kv dv) ∧ hd.m < 18446744073709551616 ∧ StrsIn ok w kv hd.ks ∧ KidsIn ok (Lies ok w m) w dv l := by
  cases n with
  | zero => exact h.elim
  | succ m =>
    obtain ⟨hd, l, kv, dv, e1, e2, e0, e3, e4⟩ := h
    exact ⟨m, hd, l, kv, dv, rfl, e1, e2, e0, e3, e4⟩
/-- A node, opened for a walk. -/
theorem Lies.node {ok : Nat → Prop} {w : World} {n : Nat} {v : Value} {t : Tr} (h : Lies ok w (n + 1) v t) : ∃ (hd : Hd) (l : List Tr) (ka : Option Addr) (kc : Nat) (da : Option Addr) (dc : Nat), t = Tr.mk hd l ∧
    v = .agg #[.int .i64 hd.k, .int .u64 (hd.m : Int), .bool hd.ng, .string hd.dg, .int .i64 hd.sc, .string hd.tx, .slice ka hd.ks.length kc, .slice da l.length dc, .int .i64 hd.cd] ∧ hd.m < 18446744073709551616 ∧ CapOk ka hd.ks.length kc ∧ CapOk da l.length dc ∧
    (∀ i, ∀ h : i < hd.ks.length, ∃ b o, ka = some ⟨b, o, none⟩ ∧ ok b ∧ b < w.heap.size ∧ w.cell? ⟨b, o + i, none⟩ = some (.string (hd.ks[i]'h))) ∧
    (∀ i, ∀ h : i < l.length, ∃ b o cs, da = some ⟨b, o, none⟩ ∧ ok b ∧ b < w.heap.size ∧ Row9 w b (o + i * 9) cs ∧ Lies ok w n (.agg cs) (l[i]'h)) := by
  obtain ⟨hd, l, kv, dv, e1, e2, e0, ⟨ka, kc, rfl, h1, h2⟩, ⟨da, dc, rfl, h3, h4⟩⟩ := h
  exact ⟨hd, l, ka, kc, da, dc, e1, e2, e0, h1, h3, h2, h4⟩
theorem Lies.shape {ok : Nat → Prop} {w : World} {n : Nat} {v : Value} {t : Tr} (h : Lies ok w n v t) : ∃ (hd : Hd) (ka : Option Addr) (kn kc : Nat) (da : Option Addr) (dn dc : Nat),
    v = .agg #[.int .i64 hd.k, .int .u64 (hd.m : Int), .bool hd.ng, .string hd.dg, .int .i64 hd.sc, .string hd.tx, .slice ka kn kc, .slice da dn dc, .int .i64 hd.cd] := by
  cases n with
  | zero => exact h.elim
  | succ n =>
    obtain ⟨hd, l, ka, kc, da, dc, _, e, _⟩ := h.node
    exact ⟨hd, ka, _, kc, da, _, dc, e⟩
theorem Lies.mk {ok : Nat → Prop} {w : World} {n : Nat} {hd : Hd} {l : List Tr} {ka : Option Addr} {kc : Nat} {da : Option Addr} {dc : Nat} (e0 : hd.m < 18446744073709551616) (h1 : CapOk ka hd.ks.length kc) (h3 : CapOk da l.length dc)
    (h2 : ∀ i, ∀ h : i < hd.ks.length, ∃ b o, ka = some ⟨b, o, none⟩ ∧ ok b ∧ b < w.heap.size ∧ w.cell? ⟨b, o + i, none⟩ = some (.string (hd.ks[i]'h)))
    (h4 : ∀ i, ∀ h : i < l.length, ∃ b o cs, da = some ⟨b, o, none⟩ ∧ ok b ∧ b < w.heap.size ∧ Row9 w b (o + i * 9) cs ∧ Lies ok w n (.agg cs) (l[i]'h)) :
    Lies ok w (n + 1) (.agg #[.int .i64 hd.k, .int .u64 (hd.m : Int), .bool hd.ng, .string hd.dg, .int .i64 hd.sc, .string hd.tx, .slice ka hd.ks.length kc, .slice da l.length dc, .int .i64 hd.cd]) (Tr.mk hd l) :=
  ⟨hd, l, _, _, rfl, rfl, e0, ⟨ka, kc, rfl, h1, h2⟩, ⟨da, dc, rfl, h3, h4⟩⟩
/-- One kid, in a later world. -/
theorem kid_kept {ok : Nat → Prop} {w wr : World} {n : Nat} {a : Option Addr} {l : List Tr}
    (hkid : ∀ i, ∀ h : i < l.length, ∃ b o cs, a = some ⟨b, o, none⟩ ∧ ok b ∧ b < w.heap.size ∧ Row9 w b (o + i * 9) cs ∧ Lies ok w n (.agg cs) (l[i]'h)) (hB : Kept ok w wr) (i : Nat) (h : i < l.length) :
    ∃ (b o : Nat) (hd : Hd) (ka : Option Addr) (kn kc : Nat) (da : Option Addr) (dn dc : Nat), a = some ⟨b, o, none⟩ ∧ b < w.heap.size ∧
      (wr.cell? ⟨b, o + i * 9, none⟩ = some (.int .i64 hd.k) ∧ wr.cell? ⟨b, o + i * 9 + 1, none⟩ = some (.int .u64 (hd.m : Int)) ∧ wr.cell? ⟨b, o + i * 9 + 2, none⟩ = some (.bool hd.ng) ∧ wr.cell? ⟨b, o + i * 9 + 3, none⟩ = some (.string hd.dg) ∧
        wr.cell? ⟨b, o + i * 9 + 4, none⟩ = some (.int .i64 hd.sc) ∧ wr.cell? ⟨b, o + i * 9 + 5, none⟩ = some (.string hd.tx) ∧ wr.cell? ⟨b, o + i * 9 + 6, none⟩ = some (.slice ka kn kc) ∧ wr.cell? ⟨b, o + i * 9 + 7, none⟩ = some (.slice da dn dc) ∧
        wr.cell? ⟨b, o + i * 9 + 8, none⟩ = some (.int .i64 hd.cd)) ∧
      Lies ok wr n (.agg #[.int .i64 hd.k, .int .u64 (hd.m : Int), .bool hd.ng, .string hd.dg, .int .i64 hd.sc, .string hd.tx, .slice ka kn kc, .slice da dn dc, .int .i64 hd.cd]) (l[i]'h) := by
  obtain ⟨b, o, cs, e, ho, h2, r, p⟩ := hkid i h
  have p0 := p
  obtain ⟨m, hd, l2, kv, dv, e1, e2, e3, e0, e4, e5⟩ := p.open
  obtain rfl : cs = nine hd kv dv := Value.agg.inj e3
  obtain ⟨ka, kc, rfl, _⟩ := e4
  obtain ⟨da, dc, rfl, _⟩ := e5
  exact ⟨b, o, hd, ka, _, kc, da, _, dc, e, h2, (r.keep ho h2 hB).cells, p0.keep hB (fun _ _ h => h)⟩
theorem kid_at {ok : Nat → Prop} {w wr : World} {n : Nat} {a : Option Addr} {l : List Tr}
    (hkid : ∀ i, ∀ h : i < l.length, ∃ b o cs, a = some ⟨b, o, none⟩ ∧ ok b ∧ b < w.heap.size ∧ Row9 w b (o + i * 9) cs ∧ Lies ok w n (.agg cs) (l[i]'h)) (hB : Below w.heap.size w wr) (i : Nat) (h : i < l.length) :
    ∃ (b o : Nat) (hd : Hd) (ka : Option Addr) (kn kc : Nat) (da : Option Addr) (dn dc : Nat), a = some ⟨b, o, none⟩ ∧ b < w.heap.size ∧
      (wr.cell? ⟨b, o + i * 9, none⟩ = some (.int .i64 hd.k) ∧ wr.cell? ⟨b, o + i * 9 + 1, none⟩ = some (.int .u64 (hd.m : Int)) ∧ wr.cell? ⟨b, o + i * 9 + 2, none⟩ = some (.bool hd.ng) ∧ wr.cell? ⟨b, o + i * 9 + 3, none⟩ = some (.string hd.dg) ∧
        wr.cell? ⟨b, o + i * 9 + 4, none⟩ = some (.int .i64 hd.sc) ∧ wr.cell? ⟨b, o + i * 9 + 5, none⟩ = some (.string hd.tx) ∧ wr.cell? ⟨b, o + i * 9 + 6, none⟩ = some (.slice ka kn kc) ∧ wr.cell? ⟨b, o + i * 9 + 7, none⟩ = some (.slice da dn dc) ∧
        wr.cell? ⟨b, o + i * 9 + 8, none⟩ = some (.int .i64 hd.cd)) ∧
      Lies ok wr n (.agg #[.int .i64 hd.k, .int .u64 (hd.m : Int), .bool hd.ng, .string hd.dg, .int .i64 hd.sc, .string hd.tx, .slice ka kn kc, .slice da dn dc, .int .i64 hd.cd]) (l[i]'h) := kid_kept hkid (Kept.of_below hB) i h
/-- One text of a row, in a later world. -/
theorem str_at {ok : Nat → Prop} {w wr : World} {a : Option Addr} {ks : List ByteArray}
    (hs : ∀ i, ∀ h : i < ks.length, ∃ b o, a = some ⟨b, o, none⟩ ∧ ok b ∧ b < w.heap.size ∧ w.cell? ⟨b, o + i, none⟩ = some (.string (ks[i]'h))) (hB : Below w.heap.size w wr) (i : Nat) (h : i < ks.length) :
    ∃ b o, a = some ⟨b, o, none⟩ ∧ b < w.heap.size ∧ wr.cell? ⟨b, o + i, none⟩ = some (.string (ks[i]'h)) := by
  obtain ⟨b, o, e, ho, h2, h4⟩ := hs i h
  exact ⟨b, o, e, h2, by rw [hB.cell (p := ⟨b, o + i, none⟩) h2]; exact h4⟩

theorem take_sum (f : Tr → Nat) (l : List Tr) (k : Nat) (h : k < l.length) : ((l.take (k + 1)).map f).sum = ((l.take k).map f).sum + f (l[k]'h) := by
  rw [List.take_succ_eq_append_getElem h, List.map_append, List.sum_append]
  simp
theorem take_sum_le (f : Tr → Nat) (l : List Tr) (k : Nat) : ((l.take k).map f).sum ≤ (l.map f).sum := by
  have : (l.map f).sum = ((l.take k).map f).sum + ((l.drop k).map f).sum := by
    rw [← List.sum_append, ← List.map_append, List.take_append_drop]
  omega
theorem at_le_sum (f : Tr → Nat) (l : List Tr) (k : Nat) (h : k < l.length) : f (l[k]'h) ≤ (l.map f).sum := by
  have h1 := take_sum f l k h
  have h2 := take_sum_le f l (k + 1)
  omega
theorem len_le_sum (f : Tr → Nat) (hf : ∀ t, 1 ≤ f t) : ∀ l : List Tr, l.length ≤ (l.map f).sum
  | [] => Nat.le_refl _
  | t :: r => by
    have := hf t
    have := len_le_sum f hf r
    rw [List.map_cons, List.sum_cons, List.length_cons]
    omega
theorem map_sum_le (f g : Tr → Nat) (hfg : ∀ t, f t ≤ g t) : ∀ l : List Tr, (l.map f).sum ≤ (l.map g).sum
  | [] => Nat.le_refl _
  | t :: r => by
    have := hfg t
    have := map_sum_le f g hfg r
    rw [List.map_cons, List.map_cons, List.sum_cons, List.sum_cons]
    omega
theorem khide {p : Prop} (h : p) : Hid p := h
theorem kunhide {p : Prop} (h : Hid p) : p := h
theorem below_next {w W W' : World} (hB : Below w.heap.size w W) (b2 : Below W.heap.size W W') : Below w.heap.size w W' := hB.trans (b2.mono hB.size)

/-! ### what is told of trees -/
def heldT : Nat → Tr → Nat
  | 0, _ => 1
  | n + 1, t => if (Tr.hd t).m = 0 then 1 + ((Tr.kd t).map (heldT n)).sum else 1
/-- How many nodes. -/
def sizeT : Nat → Tr → Nat
  | 0, _ => 1
  | n + 1, t => 1 + ((Tr.kd t).map (sizeT n)).sum
theorem sizeT_pos : ∀ (n : Nat) (t : Tr), 1 ≤ sizeT n t
  | 0, _ => Nat.le_refl _
  | n + 1, t => by unfold sizeT; omega
theorem held_le : ∀ (n : Nat) (t : Tr), heldT n t ≤ sizeT n t
  | 0, _ => Nat.le_refl _
  | n + 1, t => by
    have := map_sum_le (heldT n) (sizeT n) (held_le n) (Tr.kd t)
    unfold heldT sizeT
    split <;> omega
/-- Not too many keys and kids anywhere. -/
def okT : Nat → Tr → Prop
  | 0, _ => True
  | n + 1, t => (Tr.hd t).ks.length ≤ 1000000 ∧ (Tr.kd t).length ≤ 1000000 ∧ ∀ k, k ∈ Tr.kd t → okT n k
/-- With a mask more. -/
def withT (m : Nat) (t : Tr) : Tr := Tr.mk { Tr.hd t with m := (Tr.hd t).m ||| m } (Tr.kd t)
/-- Without masks. -/
def bareT : Nat → Tr → Tr
  | 0, t => t
  | n + 1, t => Tr.mk { Tr.hd t with m := 0 } ((Tr.kd t).map (bareT n))
/-- The masks of all. -/
def deepT : Nat → Tr → Nat
  | 0, _ => 0
  | n + 1, t => (Tr.kd t).foldl (fun a k => a ||| deepT n k) (Tr.hd t).m
def tidyT : Nat → Tr → Tr
  | 0, t => t
  | n + 1, t => if (Tr.hd t).m = 0 then Tr.mk (Tr.hd t) ((Tr.kd t).map (tidyT n)) else withT (deepT (n + 1) t) (bareT (n + 1) t)
end Go.Proofs.YtppkknmgdahniaaDoor

namespace Go.Proofs.YtppkknmgdahniaaDoor
set_option maxRecDepth 100000
open Go.RowKit
set_option linter.unusedVariables false
set_option linter.unusedSimpArgs false

end Go.Proofs.YtppkknmgdahniaaDoor

namespace Go.Proofs.YtppkknmgdahniaaDoor
set_option maxRecDepth 100000
open Go.RowKit
set_option linter.unusedVariables false
set_option linter.unusedSimpArgs false

/-- Only bad blocks, and new ones, are written. -/
structure Moved (bad : Nat → Prop) (w w' : World) : Prop where
  os : w'.os = w.os
  tape : w'.tape = w.tape
  output : w'.output = w.output
  size : w.heap.size ≤ w'.heap.size
  block : ∀ k, k < w.heap.size → ¬ bad k → w'.heap[k]? = w.heap[k]?
theorem Moved.refl (bad : Nat → Prop) (w : World) : Moved bad w w := ⟨rfl, rfl, rfl, Nat.le_refl _, fun _ _ _ => rfl⟩
theorem Moved.trans {bad : Nat → Prop} {a b c : World} (h : Moved bad a b) (k : Moved bad b c) : Moved bad a c :=
  ⟨k.os.trans h.os, k.tape.trans h.tape, k.output.trans h.output, Nat.le_trans h.size k.size, fun i hi hb => (k.block i (Nat.lt_of_lt_of_le hi h.size) hb).trans (h.block i hi hb)⟩
theorem Moved.alloc {bad : Nat → Prop} {a w : World} (h : Moved bad a w) (o : Obj) : Moved bad a (w.alloc o) :=
  h.trans ⟨rfl, rfl, rfl, by simp, fun k hk _ => Below.heap_alloc _ _ _ hk⟩
theorem Moved.drew {bad : Nat → Prop} {a w : World} (h : Moved bad a w) : Moved bad a w.drew := ⟨h.os, h.tape, h.output, h.size, h.block⟩
theorem Moved.setCell {bad : Nat → Prop} {a w : World} (h : Moved bad a w) {p : Addr} (hp : bad p.block) (u : Value) : Moved bad a (w.setCell p u) :=
  h.trans ⟨rfl, rfl, rfl, by simp [World.setCell], fun k hk hb => Below.heap_setCell _ _ _ _ (fun e => hb (by rw [e]; exact hp))⟩
theorem Moved.below {bad : Nat → Prop} {a w w' : World} (h : Moved bad a w) (hb : Below w.heap.size w w') : Moved bad a w' :=
  h.trans ⟨hb.os, hb.tape, hb.output, hb.size, fun k hk _ => hb.block k hk⟩
theorem Moved.kept {bad ok : Nat → Prop} {w w' : World} (h : Moved bad w w') (hi : ∀ b, ok b → ¬ bad b) : Kept ok w w' := ⟨h.size, fun b ho hl => h.block b hl (hi b ho)⟩
theorem Moved.cell {bad : Nat → Prop} {w w' : World} (h : Moved bad w w') {p : Addr} (hp : p.block < w.heap.size) (hb : ¬ bad p.block) : w'.cell? p = w.cell? p := World.cell?_of_block (w := w) (h.block p.block hp hb)

theorem or_lt {a b : Nat} (ha : a < 18446744073709551616) (hb : b < 18446744073709551616) : a ||| b < 18446744073709551616 := by
  have := @Nat.or_lt_two_pow a b 64 (by simpa using ha) (by simpa using hb)
  simpa using this
/-! ### the masks of all -/
end Go.Proofs.YtppkknmgdahniaaDoor

namespace Go.Proofs.YtppkknmgdahniaaDoor
set_option maxRecDepth 100000
open Go.RowKit
set_option linter.unusedVariables false
set_option linter.unusedSimpArgs false

end Go.Proofs.YtppkknmgdahniaaDoor

namespace Go.Proofs.YtppkknmgdahniaaDoor
set_option maxRecDepth 100000
open Go.RowKit
set_option linter.unusedVariables false
set_option linter.unusedSimpArgs false

end Go.Proofs.YtppkknmgdahniaaDoor

namespace Go.Proofs.YtppkknmgdahniaaDoor
set_option maxRecDepth 100000
open Go.RowKit
set_option linter.unusedVariables false
set_option linter.unusedSimpArgs false

theorem with_lies {ok : Nat → Prop} {w : World} {n : Nat} {hd : Hd} {l : List Tr} {ka : Option Addr} {kc : Nat} {da : Option Addr} {dc : Nat} (m : Nat) (hm : m < 18446744073709551616)
    (hl : Lies ok w (n + 1) (.agg #[.int .i64 hd.k, .int .u64 (hd.m : Int), .bool hd.ng, .string hd.dg, .int .i64 hd.sc, .string hd.tx, .slice ka hd.ks.length kc, .slice da l.length dc, .int .i64 hd.cd]) (Tr.mk hd l)) (kc' dc' : Nat) (hk : CapOk ka hd.ks.length kc') (hd' : CapOk da l.length dc') :
    Lies ok w (n + 1) (.agg #[.int .i64 hd.k, .int .u64 ((hd.m ||| m : Nat) : Int), .bool hd.ng, .string hd.dg, .int .i64 hd.sc, .string hd.tx, .slice ka hd.ks.length kc', .slice da l.length dc', .int .i64 hd.cd]) (withT m (Tr.mk hd l)) := by
  obtain ⟨h, l2, ka2, kc2, da2, dc2, e1, e2, e0, h1, h3, h2, h4⟩ := hl.node
  obtain ⟨rfl, rfl⟩ := Tr.mk_inj e1
  have e3 := Value.agg.inj e2
  simp only [Array.mk.injEq, List.cons.injEq, Value.slice.injEq, and_true, true_and] at e3
  obtain ⟨⟨rfl, rfl⟩, ⟨rfl, rfl⟩⟩ := e3
  exact Lies.mk (hd := { hd with m := hd.m ||| m }) (or_lt e0 hm) hk hd' h2 h4
end Go.Proofs.YtppkknmgdahniaaDoor

namespace Go.Proofs.YtppkknmgdahniaaDoor
set_option maxRecDepth 100000
open Go.RowKit
set_option linter.unusedVariables false
set_option linter.unusedSimpArgs false

theorem kinfo_str : (Tryd.prog.info? 9).map (fun i => (i.zero, i.size, i.bytes)) = some (some (.string ⟨#[]⟩), 1, 16) := by kernel_rfl
theorem kalloc_le {w W : World} (hB : Below w.heap.size w W) (o : Obj) : w.heap.size ≤ (W.alloc o).heap.size := by have := hB.size; simp; omega
theorem strs_of_own {w' : World} {base : Nat} {v : Value} {ks : List ByteArray} (h : w'.ownsRow base 9 1 v ks.length (ks.map Value.string)) : StrsIn (fun b => base ≤ b) w' v ks := by
  rcases h.2 with ⟨rfl, h0⟩ | ⟨g, cap, cur, rfl, hg, hh, hn, hm, hs, ht⟩
  · exact ⟨none, 0, by rw [h0], ⟨by omega, fun _ => rfl⟩, fun i hi => absurd hi (by omega)⟩
  · refine ⟨some ⟨g, 0, none⟩, cap, rfl, ⟨hn, fun e => by cases e⟩, fun i hi => ⟨g, 0, rfl, hg, (Array.getElem?_eq_some_iff.1 hh).1, ?_⟩⟩
    have := h.cells (g := g) rfl i (.string (ks[i]'hi)) (by rw [List.getElem?_map, List.getElem?_eq_getElem hi]; rfl)
    have hadd : (⟨g, 0, none⟩ : Addr).add i = ⟨g, 0 + i, none⟩ := by unfold Addr.add; split <;> simp_all
    rwa [hadd] at this

/-! ### nine cells are stored -/
theorem setCells_frame (G : Nat) : ∀ (vs : List Value) (o : Nat) (w : World), (w.setCells G o vs).heap.size = w.heap.size ∧ (w.setCells G o vs).os = w.os ∧ (w.setCells G o vs).tape = w.tape ∧ (w.setCells G o vs).output = w.output ∧ (∀ b, b ≠ G → (w.setCells G o vs).heap[b]? = w.heap[b]?)
  | [], _, _ => ⟨rfl, rfl, rfl, rfl, fun _ _ => rfl⟩
  | v :: r, o, w => by
    obtain ⟨a1, a2, a3, a4, a5⟩ := setCells_frame G r (o + 1) (w.setCell ⟨G, o, none⟩ v)
    refine ⟨by show (World.setCells _ G (o + 1) r).heap.size = _; rw [a1]; simp [World.setCell], a2, a3, a4, fun b hb => ?_⟩
    show (World.setCells _ G (o + 1) r).heap[b]? = _
    rw [a5 b hb, Below.heap_setCell _ _ _ _ (by exact hb)]
theorem setCells_below {B : Nat} {a w : World} (h : Below B a w) {G : Nat} (hG : B ≤ G) (o : Nat) (vs : List Value) : Below B a (w.setCells G o vs) := by
  obtain ⟨a1, a2, a3, a4, a5⟩ := setCells_frame G vs o w
  exact h.trans ⟨a2, a3, a4, by rw [a1]; exact Nat.le_refl _, fun k hk => a5 k (by omega)⟩
theorem setCells_kept {ok : Nat → Prop} (w : World) (G o : Nat) (vs : List Value) (hi : ∀ b, ok b → b ≠ G) : Kept ok w (w.setCells G o vs) := by
  obtain ⟨a1, a2, a3, a4, a5⟩ := setCells_frame G vs o w
  exact ⟨by rw [a1]; exact Nat.le_refl _, fun b hb _ => a5 b (hi b hb)⟩
theorem Kept.trans {ok : Nat → Prop} {a b c : World} (h : Kept ok a b) (k : Kept ok b c) : Kept ok a c := ⟨Nat.le_trans h.1 k.1, fun i ho hi => (k.2 i ho (Nat.lt_of_lt_of_le hi h.1)).trans (h.2 i ho hi)⟩
theorem setCell_kept {ok : Nat → Prop} (w : World) (p : Addr) (v : Value) (hi : ∀ b, ok b → b ≠ p.block) : Kept ok w (w.setCell p v) := ⟨by simp [World.setCell], fun b hb _ => Below.heap_setCell _ _ _ _ (hi b hb)⟩
theorem res9 (X : World) (R : Nat) (v0 v1 v2 v3 v4 v5 v6 v7 v8 : Value) (hs : ∀ r, r < 9 → (X.cell? ⟨R, r, none⟩).isSome = true) :
    (X.setCells R 0 [v0, v1, v2, v3, v4, v5, v6, v7, v8]).cell? ⟨R, 0, none⟩ = some v0 ∧ (X.setCells R 0 [v0, v1, v2, v3, v4, v5, v6, v7, v8]).cell? ⟨R, 1, none⟩ = some v1 ∧ (X.setCells R 0 [v0, v1, v2, v3, v4, v5, v6, v7, v8]).cell? ⟨R, 2, none⟩ = some v2 ∧
    (X.setCells R 0 [v0, v1, v2, v3, v4, v5, v6, v7, v8]).cell? ⟨R, 3, none⟩ = some v3 ∧ (X.setCells R 0 [v0, v1, v2, v3, v4, v5, v6, v7, v8]).cell? ⟨R, 4, none⟩ = some v4 ∧ (X.setCells R 0 [v0, v1, v2, v3, v4, v5, v6, v7, v8]).cell? ⟨R, 5, none⟩ = some v5 ∧
    (X.setCells R 0 [v0, v1, v2, v3, v4, v5, v6, v7, v8]).cell? ⟨R, 6, none⟩ = some v6 ∧ (X.setCells R 0 [v0, v1, v2, v3, v4, v5, v6, v7, v8]).cell? ⟨R, 7, none⟩ = some v7 ∧ (X.setCells R 0 [v0, v1, v2, v3, v4, v5, v6, v7, v8]).cell? ⟨R, 8, none⟩ = some v8 := by
  have key := fun r hr => World.cell?_setCells_in R [v0, v1, v2, v3, v4, v5, v6, v7, v8] 0 X (fun j hj => by rw [Nat.zero_add]; exact hs j hj) r hr
  simp only [Nat.zero_add] at key
  exact ⟨key 0 (by simp), key 1 (by simp), key 2 (by simp), key 3 (by simp), key 4 (by simp), key 5 (by simp), key 6 (by simp), key 7 (by simp), key 8 (by simp)⟩
end Go.Proofs.YtppkknmgdahniaaDoor
