/- What is proved here: plain facts on the text of a policy: how its lines stand one behind the other, and that none that is written begins another one; conditions: as each theorem states. It imports nothing of any program. -/
import Derived.Test.YtppkknmgdahniaaDoorZAb
import Derived.Lib.AtoiAll
import Derived.Lib.ItoaNum
import Derived.Lib.Split
import Derived.Test.YtppkknmgdahniaaDoorZBb
import Derived.Test.YtppkknmgdahniaaDoorZBa
import Derived.Shelf.Strings.SplitCore
import Derived.Shelf.Strings.Count
import Derived.Lib.SplitLaws
import Derived.WalkKit
import Derived.Below
import Derived.Test.YtppkknmgdahniaaDoorProg
import Derived.Test.YtppkknmgdahniaaDoorZBi
import Derived.OwnWalk
import Derived.Deep.AppendLies
import Derived.Deep.RegionHeld3
import Derived.Deep.LoopGhost
import Derived.Lib.ItoaLen
import Derived.BigQuiet
import Derived.Deep.CutBlock
import Derived.Deep.CutRange
import Derived.Deep.DeepCutAuto
import Derived.Deep.RegionWith
import Derived.Test.YtppkknmgdahniaaDoorZYj
namespace Go.Proofs.YtppkknmgdahniaaDoor.Pol
set_option maxRecDepth 100000
set_option linter.unusedVariables false
set_option linter.unusedSimpArgs false

abbrev Tx := List UInt8
structure Mk where
  path : List Pm.St
  mask : Nat
structure Po where
  cats : List Tx
  marks : List Mk
  token : Tx
  fuel : Int
  quota : Int
def wCats : Tx := [99, 97, 116, 115]
def wMark : Tx := [109, 97, 114, 107]
def wToken : Tx := [116, 111, 107, 101, 110]
def wFuel : Tx := [102, 117, 101, 108]
def wQuota : Tx := [113, 117, 111, 116, 97]
/-- A line: a word, texts with a blank ahead of each, a newline. -/
def lineT (w : Tx) (ws : List Tx) : Tx := w ++ (Cm.flatB ws ++ [10])
def namesT (cats : List Tx) (m : Nat) : Tx := Cm.joinB (Cm.selK cats m cats.length)
def markT (pt : List Pm.St → Tx) (cats : List Tx) (m : Mk) : Tx := lineT wMark [namesT cats m.mask, pt m.path]
def marksT (pt : List Pm.St → Tx) (cats : List Tx) (ms : List Mk) : Tx := ms.flatMap (markT pt cats)
def tailT (p : Po) : Tx := lineT wToken [Qm.quoteL p.token] ++ (lineT wFuel [Lib.itoa p.fuel] ++ lineT wQuota [Lib.itoa p.quota])
/-- The text of a policy. -/
def printT (pt : List Pm.St → Tx) (p : Po) : Tx := lineT wCats p.cats ++ (marksT pt p.cats p.marks ++ tailT p)

theorem take_line {x r : Tx} (h : (10 : UInt8) ∉ x) : (x ++ 10 :: r).takeWhile (fun c => c != 10) = x := by
  induction x with
  | nil => simp
  | cons c x ih =>
    have hc : c ≠ 10 := fun e => h (by simp [e])
    rw [List.cons_append, List.takeWhile_cons_of_pos (by simpa using hc), ih (fun g => h (by simp [g]))]
/-- Two lines are one. -/
theorem line_eq {x y a b : Tx} (hx : (10 : UInt8) ∉ x) (hy : (10 : UInt8) ∉ y) (h : x ++ 10 :: a = y ++ 10 :: b) : x = y ∧ a = b := by
  have e := congrArg (fun T => T.takeWhile (fun c => c != 10)) h
  simp only [take_line hx, take_line hy] at e
  subst e
  exact ⟨rfl, (List.cons.inj (List.append_cancel_left h)).2⟩

/-- What is asked of a policy so that its lines are told apart. -/
structure Good (pt : List Pm.St → Tx) (p : Po) : Prop where
  names : ∀ x ∈ p.cats, (10 : UInt8) ∉ x ∧ (32 : UInt8) ∉ x ∧ (36 : UInt8) ∉ x ∧ x ≠ []
  paths : ∀ m ∈ p.marks, (10 : UInt8) ∉ pt m.path
  token : (10 : UInt8) ∉ Qm.quoteL p.token
  fuel : (10 : UInt8) ∉ Lib.itoa p.fuel
  quota : (10 : UInt8) ∉ Lib.itoa p.quota
theorem flat_no {ws : List Tx} {c : UInt8} (h32 : c ≠ 32) (h : ∀ x ∈ ws, c ∉ x) : c ∉ Cm.flatB ws := by
  induction ws with
  | nil => simp [Cm.flatB]
  | cons x r ih =>
    rw [Cm.flatB_cons]
    simp only [List.mem_cons, List.mem_append, not_or]
    exact ⟨h32, h x (by simp), ih (fun y hy => h y (by simp [hy]))⟩
theorem names_no {cats : List Tx} {c : UInt8} (h32 : c ≠ 32) (h : ∀ x ∈ cats, c ∉ x) (m : Nat) : c ∉ namesT cats m := by
  intro g
  refine flat_no (ws := Cm.selK cats m cats.length) h32 (fun x hx => h x (Cm.selK_mem (Nat.le_refl _) hx)) ?_
  unfold namesT Cm.joinB at g
  exact List.mem_of_mem_drop g
theorem Good.mark {pt : List Pm.St → Tx} {p : Po} (h : Good pt p) {m : Mk} (hm : m ∈ p.marks) : (10 : UInt8) ∉ Cm.flatB [namesT p.cats m.mask, pt m.path] :=
  flat_no (by decide) (fun x hx => by
    simp only [List.mem_cons, List.not_mem_nil, or_false] at hx
    rcases hx with rfl | rfl
    · exact names_no (by decide) (fun x hx => (h.names x hx).1) _
    · exact h.paths m hm)
theorem flat_one {x : Tx} {c : UInt8} (h32 : c ≠ 32) (h : c ∉ x) : c ∉ Cm.flatB [x] := flat_no h32 (fun y hy => by simp only [List.mem_cons, List.not_mem_nil, or_false] at hy; rw [hy]; exact h)
theorem line_app (w : Tx) (ws : List Tx) (r : Tx) : lineT w ws ++ r = w ++ (Cm.flatB ws ++ 10 :: r) := by unfold lineT; simp
theorem marks_cons (pt : List Pm.St → Tx) (cats : List Tx) (m : Mk) (ms : List Mk) : marksT pt cats (m :: ms) = markT pt cats m ++ marksT pt cats ms := by unfold marksT; rw [List.flatMap_cons]
theorem tail_head (p : Po) : ∃ u, tailT p = 116 :: u := ⟨_, rfl⟩
theorem mark_head (pt : List Pm.St → Tx) (cats : List Tx) (m : Mk) : ∃ u, markT pt cats m = 109 :: u := ⟨_, rfl⟩
theorem lines_eq {w : Tx} {us vs : List Tx} {a b : Tx} (hu : (10 : UInt8) ∉ Cm.flatB us) (hv : (10 : UInt8) ∉ Cm.flatB vs) (h : lineT w us ++ a = lineT w vs ++ b) : Cm.flatB us = Cm.flatB vs ∧ a = b := by
  rw [line_app, line_app] at h
  exact line_eq hu hv (List.append_cancel_left h)
theorem marks_eq {pt : List Pm.St → Tx} {p q : Po} (hp : Good pt p) (hq : Good pt q) {R : Tx} : ∀ (l k : List Mk), (∀ m ∈ l, m ∈ q.marks) → (∀ m ∈ k, m ∈ p.marks) → marksT pt q.cats l ++ (tailT q ++ R) = marksT pt p.cats k ++ tailT p → tailT q ++ R = tailT p
  | [], [], _, _, h => h
  | [], m :: k, _, _, h => by
    obtain ⟨u, e⟩ := tail_head q
    obtain ⟨v, g⟩ := mark_head pt p.cats m
    rw [marks_cons, e, g] at h
    simp [marksT] at h
  | m :: l, [], _, _, h => by
    obtain ⟨u, e⟩ := tail_head p
    obtain ⟨v, g⟩ := mark_head pt q.cats m
    rw [marks_cons, e, g] at h
    simp [marksT] at h
  | m :: l, n :: k, hl, hk, h => by
    rw [marks_cons, marks_cons, List.append_assoc, List.append_assoc] at h
    obtain ⟨_, h2⟩ := lines_eq (hq.mark (hl m (by simp))) (hp.mark (hk n (by simp))) h
    exact marks_eq hp hq l k (fun x hx => hl x (by simp [hx])) (fun x hx => hk x (by simp [hx])) h2
/-- No text of a policy begins another one. -/
theorem uniq {pt : List Pm.St → Tx} {p q : Po} (hp : Good pt p) (hq : Good pt q) {R : Tx} (h : printT pt q ++ R = printT pt p) : R = [] := by
  unfold printT at h
  rw [List.append_assoc, List.append_assoc] at h
  obtain ⟨_, h1⟩ := lines_eq (flat_no (by decide) (fun x hx => (hq.names x hx).1)) (flat_no (by decide) (fun x hx => (hp.names x hx).1)) h
  have h2 := marks_eq hp hq q.marks p.marks (fun _ h => h) (fun _ h => h) h1
  unfold tailT at h2
  rw [List.append_assoc, List.append_assoc] at h2
  obtain ⟨_, h3⟩ := lines_eq (flat_one (by decide) hq.token) (flat_one (by decide) hp.token) h2
  obtain ⟨_, h4⟩ := lines_eq (flat_one (by decide) hq.fuel) (flat_one (by decide) hp.fuel) h3
  have h5 : lineT wQuota [Lib.itoa q.quota] ++ R = lineT wQuota [Lib.itoa p.quota] ++ [] := by rw [List.append_nil]; exact h4
  exact (lines_eq (flat_one (by decide) hq.quota) (flat_one (by decide) hp.quota) h5).2

/-! ### numbers -/
theorem digit_ok {d : Nat} (h : d < 10) : (UInt8.ofNat (48 + d)).toNat = 48 + d := by
  rw [UInt8.toNat_ofNat']
  omega
theorem dec_mem (u : Nat) : ∀ c ∈ Lib.decDigits u, 48 ≤ c.toNat ∧ c.toNat ≤ 57 := by
  induction u using Nat.strongRecOn with
  | _ u ih =>
    intro c hc
    by_cases h : u < 10
    · rw [Lib.decDigits, dif_pos h, List.mem_singleton] at hc
      rw [hc, digit_ok h]; omega
    · rw [Lib.decDigits, dif_neg h, List.mem_append, List.mem_singleton] at hc
      rcases hc with hc | hc
      · exact ih (u / 10) (by omega) c hc
      · rw [hc, digit_ok (Nat.mod_lt _ (by omega))]; omega
theorem itoa_no {n : Int} (h0 : 0 ≤ n) {c : UInt8} (hc : c.toNat < 48) : c ∉ Lib.itoa n := by
  obtain ⟨u, rfl⟩ := Int.eq_ofNat_of_zero_le h0
  have e : Lib.itoa (u : Int) = Lib.decDigits u := by unfold Lib.itoa; rw [if_neg (by omega)]; simp
  rw [e]
  intro g
  have := dec_mem u c g
  omega

/-! ### quotes -/
theorem escB_all : (List.range 256).all (fun n => !(Qm.escB (UInt8.ofNat n)).contains 10) = true := by decide +kernel
theorem escB_no (c : UInt8) : (10 : UInt8) ∉ Qm.escB c := by
  have h := List.all_eq_true.1 escB_all c.toNat (List.mem_range.2 c.toNat_lt)
  rw [UInt8.ofNat_toNat] at h
  intro g
  have : (Qm.escB c).contains 10 = true := List.contains_iff_mem.2 g
  rw [this] at h
  cases h
theorem quote_no {l : Tx} (h : Lib.validD l = true) : (10 : UInt8) ∉ Qm.quoteL l := by
  unfold Qm.quoteL
  rw [Qm.quo_flat l h]
  simp only [List.mem_cons, List.mem_append, List.mem_flatMap, List.not_mem_nil, or_false, not_or, not_exists, not_and]
  exact ⟨by decide, fun c _ g => escB_no c g, by decide⟩

/-! ### what is read -/
end Go.Proofs.YtppkknmgdahniaaDoor.Pol
/- What is proved here: rows of texts that lie anywhere, empty ones too; what bitsOf, May, Names and Mask of package cats do with such a row, walked; conditions: as each theorem states. -/
namespace Go.Proofs.YtppkknmgdahniaaDoor.Pol
set_option maxRecDepth 100000
open Go.RowKit Go.Maps Go.Proofs.YtppkknmgdahniaaDoor.Nc
set_option linter.unusedVariables false
set_option linter.unusedSimpArgs false

/-- A row of texts that lies from a place of a block on. -/
def RowO (w : World) (g o : Nat) (L : List Tx) : Prop := g < w.heap.size ∧ ∀ i, ∀ h : i < L.length, w.cell? ⟨g, o + i, none⟩ = some (.string ⟨(L[i]'h).toArray⟩)
theorem RowO.step {w w' : World} {g o : Nat} {L : List Tx} (h : RowO w g o L) (hb : Below w.heap.size w w') : RowO w' g o L :=
  ⟨Nat.lt_of_lt_of_le h.1 hb.size, fun i hi => (hb.cell (p := ⟨g, o + i, none⟩) h.1).trans (h.2 i hi)⟩
/-- A row of texts, as a slice has it. -/
def TxIn (w : World) (a : Option Addr) (n : Nat) (L : List Tx) : Prop := L.length = n ∧ (L.length = 0 ∨ ∃ g o, a = some ⟨g, o, none⟩ ∧ RowO w g o L)
theorem TxIn.step {w w' : World} {a : Option Addr} {n : Nat} {L : List Tx} (h : TxIn w a n L) (hb : Below w.heap.size w w') : TxIn w' a n L :=
  ⟨h.1, h.2.imp id fun ⟨g, o, e, r⟩ => ⟨g, o, e, r.step hb⟩⟩
end Go.Proofs.YtppkknmgdahniaaDoor.Pol
/- What is proved here: contracts of Go's library functions at this translation, each one application of the library's; conditions: as each theorem states. -/
namespace Go.Proofs
open Go.Shelf
namespace YtppkknmgdahniaaDoor.Pol
set_option maxRecDepth 100000
open Go.RowKit
end YtppkknmgdahniaaDoor.Pol
end Go.Proofs
/- What is proved here: what the functions of package policy that go through a text line by line do, walked; conditions: as each theorem states. -/
namespace Go.Proofs.YtppkknmgdahniaaDoor.Pol
set_option maxRecDepth 100000
open Go.RowKit Go.Proofs.YtppkknmgdahniaaDoor.Nc Go.Proofs.YtppkknmgdahniaaDoor.Np Go.Proofs.YtppkknmgdahniaaDoor.Nq
set_option linter.unusedVariables false
set_option linter.unusedSimpArgs false

/-! ### all but one block -/
/-- Nothing but block x has turned. -/
structure Off (x : Nat) (w w' : World) : Prop where
  os : w'.os = w.os
  tape : w'.tape = w.tape
  output : w'.output = w.output
  size : w.heap.size ≤ w'.heap.size
  block : ∀ k, k < w.heap.size → k ≠ x → w'.heap[k]? = w.heap[k]?
theorem Off.refl (x : Nat) (w : World) : Off x w w := ⟨rfl, rfl, rfl, Nat.le_refl _, fun _ _ _ => rfl⟩
theorem Off.trans {x : Nat} {a b c : World} (h : Off x a b) (k : Off x b c) : Off x a c :=
  ⟨k.os.trans h.os, k.tape.trans h.tape, k.output.trans h.output, Nat.le_trans h.size k.size, fun i hi hx => (k.block i (Nat.lt_of_lt_of_le hi h.size) hx).trans (h.block i hi hx)⟩
theorem Off.of_below {x : Nat} {w w' : World} (h : Below w.heap.size w w') : Off x w w' := ⟨h.os, h.tape, h.output, h.size, fun k hk _ => h.block k hk⟩
theorem Off.below {x B : Nat} {a w w' : World} (h : Off x w w') (hb : Below B a w) (hx : B ≤ x) (hB : B ≤ w.heap.size) : Below B a w' :=
  hb.trans ⟨h.os, h.tape, h.output, h.size, fun k hk => h.block k (by omega) (by omega)⟩
theorem Off.cell {x : Nat} {w w' : World} (h : Off x w w') {p : Addr} (hl : p.block < w.heap.size) (hx : p.block ≠ x) : w'.cell? p = w.cell? p := World.cell?_of_block (w := w) (h.block _ hl hx)
theorem Off.frozen {x : Nat} {w w' : World} (h : Off x w w') {p : Addr} (hl : p.block < w.heap.size) (hx : p.block ≠ x) : w'.frozen? p = w.frozen? p := World.frozen?_of_block (w := w) (h.block _ hl hx)
/-- A box that holds a text. -/
def BoxS (w : World) (cb : Nat) (T : ByteArray) : Prop := ∃ ty, w.heap[cb]? = some (.cells #[.string T] ty)
theorem BoxS.lt {w : World} {cb : Nat} {T : ByteArray} (h : BoxS w cb T) : cb < w.heap.size := by
  obtain ⟨ty, h⟩ := h
  rcases Nat.lt_or_ge cb w.heap.size with g | g
  · exact g
  · rw [Array.getElem?_eq_none g] at h; cases h
theorem BoxS.cell {w : World} {cb : Nat} {T : ByteArray} (h : BoxS w cb T) (i : Nat) : w.cell? ⟨cb, i, none⟩ = if i = 0 then some (.string T) else none := by
  obtain ⟨ty, h⟩ := h
  unfold World.cell?
  rw [h]
  cases i with
  | zero => rfl
  | succ i => simp
theorem BoxS.frozen {w : World} {cb : Nat} {T : ByteArray} (h : BoxS w cb T) : w.frozen? ⟨cb, 0, none⟩ = false := by
  obtain ⟨ty, h⟩ := h
  unfold World.frozen?
  rw [h]
  rfl
theorem BoxS.step {w w' : World} {cb : Nat} {T : ByteArray} (h : BoxS w cb T) (hb : Below w.heap.size w w') : BoxS w' cb T := by
  obtain ⟨ty, g⟩ := h
  exact ⟨ty, (hb.block cb (BoxS.lt ⟨ty, g⟩)).trans g⟩
theorem BoxS.off {x : Nat} {w w' : World} {cb : Nat} {T : ByteArray} (h : BoxS w cb T) (hb : Off x w w') (hx : cb ≠ x) : BoxS w' cb T := by
  obtain ⟨ty, g⟩ := h
  exact ⟨ty, (hb.block cb (BoxS.lt ⟨ty, g⟩) hx).trans g⟩
theorem BoxS.put {w : World} {cb : Nat} {T r : ByteArray} (h : BoxS w cb T) : BoxS (w.setCell ⟨cb, 0, none⟩ (.string r)) cb r ∧ Off cb w (w.setCell ⟨cb, 0, none⟩ (.string r)) := by
  have hl := h.lt
  obtain ⟨ty, g⟩ := h
  refine ⟨⟨ty, ?_⟩, rfl, rfl, rfl, by simp [World.setCell], fun k hk hx => Below.heap_setCell _ _ _ _ hx⟩
  have g2 : w.heap[cb] = .cells #[.string T] ty := by
    rw [Array.getElem?_eq_getElem hl] at g
    exact Option.some.inj g
  simp [World.setCell, Array.getElem?_modify, g]
end Go.Proofs.YtppkknmgdahniaaDoor.Pol
/- What is proved here: readCats, readFuel and readMark of package policy, walked; conditions: as each theorem states. -/
namespace Go.Proofs.YtppkknmgdahniaaDoor.Pol
set_option maxRecDepth 100000
open Go.RowKit Go.Proofs.YtppkknmgdahniaaDoor.Nc Go.Proofs.YtppkknmgdahniaaDoor.Np Go.Proofs.YtppkknmgdahniaaDoor.Nq
set_option linter.unusedVariables false
set_option linter.unusedSimpArgs false

/-! ### categories -/
/-! ### a mark -/
/-- Whether the parts of a mark can be told from its line. -/
def MarkOk (L : List Tx) (mk : Mk) : Prop := L.Nodup ∧ (∀ x ∈ L, Cm.Word x) ∧ (∀ x ∈ L, (36 : UInt8) ∉ x) ∧ mk.mask < 2 ^ L.length ∧ mk.path.length ≤ 8 ∧ (∀ t ∈ mk.path, mayB t = true)
/-- A block of two cells that may be written. -/
structure Two (w : World) (b : Nat) (u v : Value) : Prop where
  lt : b < w.heap.size
  c0 : w.cell? ⟨b, 0, none⟩ = some u
  c1 : w.cell? ⟨b, 1, none⟩ = some v
  c2 : ∀ i, w.cell? ⟨b, i + 2, none⟩ = none
  f0 : w.frozen? ⟨b, 0, none⟩ = false
  f1 : w.frozen? ⟨b, 1, none⟩ = false
theorem Two.new (w : World) (u v : Value) (ty : TypeId) : Two (w.alloc (.cells #[u, v] ty)) w.heap.size u v :=
  ⟨by simp, World.cell?_alloc_at _ _ _ _ rfl, World.cell?_alloc_at _ _ _ _ rfl, fun i => (World.cell?_alloc_at _ _ _ _ rfl).trans (by simp), World.frozen?_alloc_new _ _ _ _, World.frozen?_alloc_new _ _ _ _⟩
theorem Two.step {w w' : World} {b : Nat} {u v : Value} (h : Two w b u v) (hb : Below w.heap.size w w') : Two w' b u v :=
  ⟨Nat.lt_of_lt_of_le h.lt hb.size, (hb.cell (p := ⟨b, 0, none⟩) h.lt).trans h.c0, (hb.cell (p := ⟨b, 1, none⟩) h.lt).trans h.c1, fun i => (hb.cell (p := ⟨b, i + 2, none⟩) h.lt).trans (h.c2 i), (hb.frozen (p := ⟨b, 0, none⟩) h.lt).trans h.f0, (hb.frozen (p := ⟨b, 1, none⟩) h.lt).trans h.f1⟩
theorem Two.other {w : World} {b : Nat} {u v : Value} (h : Two w b u v) (p : Addr) (hp : b ≠ p.block) (x : Value) : Two (w.setCell p x) b u v :=
  ⟨by simp [World.setCell]; exact h.lt, by rw [World.cell?_setCell_other _ _ _ _ (fun e => hp (congrArg Addr.block e).symm)]; exact h.c0, by rw [World.cell?_setCell_other _ _ _ _ (fun e => hp (congrArg Addr.block e).symm)]; exact h.c1, fun i => by rw [World.cell?_setCell_other _ _ _ _ (fun e => hp (congrArg Addr.block e).symm)]; exact h.c2 i, by rw [frozen_set]; exact h.f0, by rw [frozen_set]; exact h.f1⟩
end Go.Proofs.YtppkknmgdahniaaDoor.Pol
/- What is proved here: which policies may be; how the parts of a policy lie in memory, and what leaves them; conditions: as each theorem states. -/
namespace Go.Proofs.YtppkknmgdahniaaDoor.Pol
set_option maxRecDepth 100000
open Go.RowKit Go.Proofs.YtppkknmgdahniaaDoor.Nc Go.Proofs.YtppkknmgdahniaaDoor.Np Go.Proofs.YtppkknmgdahniaaDoor.Nq
set_option linter.unusedVariables false
set_option linter.unusedSimpArgs false

/-- What is known of a policy that may be. -/
structure Ok (p : Po) : Prop where
  n64 : p.cats.length ≤ 64
  nodup : p.cats.Nodup
  names : ∀ x ∈ p.cats, Cm.nameB x = true
  m16 : p.marks.length ≤ 16
  marks : ∀ m ∈ p.marks, Np.mayE m.path = 0 ∧ m.mask ≠ 0 ∧ m.mask < 2 ^ p.cats.length
  t24 : p.token.length ≤ 24
  valid : Lib.validD p.token = true
  fuel : 1 ≤ p.fuel ∧ p.fuel ≤ 100000
  quota : 1 ≤ p.quota ∧ p.quota ≤ 100000
theorem name_no {x : Tx} (h : Cm.nameB x = true) : (10 : UInt8) ∉ x ∧ (32 : UInt8) ∉ x ∧ (36 : UInt8) ∉ x ∧ x ≠ [] := by
  have ha := List.all_eq_true.1 (Nc.name_in h)
  have hn : ∀ c : UInt8, Cm.inB c = false → c ∉ x := fun c hc hm => by rw [ha c hm] at hc; cases hc
  refine ⟨hn 10 (by decide), hn 32 (by decide), hn 36 (by decide), ?_⟩
  rintro rfl
  cases h
theorem pr_no {t : Pm.St} (h : mayB t = true) : (10 : UInt8) ∉ prL t := by
  unfold prL
  split
  · rename_i h1
    obtain ⟨_, _, hv⟩ := mayB_key h h1
    split
    · rename_i hnm
      simp only [List.mem_cons, not_or]
      exact ⟨by decide, (name_no hnm).1⟩
    · simp only [List.mem_cons, List.mem_append, List.not_mem_nil, or_false, not_or]
      exact ⟨by decide, quote_no hv, by decide⟩
  · split
    · rename_i h2
      obtain ⟨h0, _, _⟩ := mayB_at h h2
      simp only [List.mem_cons, List.mem_append, List.not_mem_nil, or_false, not_or]
      exact ⟨by decide, itoa_no h0 (by decide), by decide⟩
    · split
      · decide
      · split <;> decide
theorem pt_no {L : List Pm.St} (h : Np.mayE L = 0) : (10 : UInt8) ∉ ptL L := by
  unfold ptL
  simp only [List.mem_cons, List.mem_flatMap, not_or, not_exists, not_and]
  exact ⟨by decide, fun t ht => pr_no ((Np.mayE_len h).2 t ht)⟩
theorem Ok.good {p : Po} (h : Ok p) : Good ptL p :=
  ⟨fun x hx => name_no (h.names x hx), fun m hm => pt_no (h.marks m hm).1, quote_no h.valid, itoa_no (by have := h.fuel; omega) (by decide), itoa_no (by have := h.quota; omega) (by decide)⟩
theorem Ok.mark {p : Po} (h : Ok p) {m : Mk} (hm : m ∈ p.marks) : MarkOk p.cats m :=
  ⟨h.nodup, fun x hx => Cm.name_word (h.names x hx), fun x hx => (name_no (h.names x hx)).2.2.1, (h.marks m hm).2.2, (Np.mayE_len (h.marks m hm).1).1, (Np.mayE_len (h.marks m hm).1).2⟩

/-! ### how parts lie -/
/-- What lies from a number of a block on, and in no block x, is as it was. -/
def Kp (base : Nat) (x : Option Nat) (w w' : World) : Prop := w.heap.size ≤ w'.heap.size ∧ ∀ k, base ≤ k → k < w.heap.size → x ≠ some k → w'.heap[k]? = w.heap[k]?
theorem Kp.of_below {base : Nat} {x : Option Nat} {w w' : World} (h : Below w.heap.size w w') : Kp base x w w' := ⟨h.size, fun k _ hk _ => h.block k hk⟩
theorem Kp.of_grown {base : Nat} {x : Option Nat} {w w' : World} (h : w.grownBy w' x) : Kp base x w w' := ⟨h.size, fun k hb hk hx => h.block k hk (fun e => hx e.symm)⟩
theorem Kp.trans {base : Nat} {x : Option Nat} {a b c : World} (h : Kp base x a b) (k : Kp base x b c) : Kp base x a c := ⟨Nat.le_trans h.1 k.1, fun i hb hi hx => (k.2 i hb (Nat.lt_of_lt_of_le hi h.1) hx).trans (h.2 i hb hi hx)⟩
/-- A row of steps that lies apart. -/
def StF (W : World) (base : Nat) (x : Option Nat) (a : Option Addr) (n : Nat) (L : List Pm.St) : Prop := L.length = n ∧ (n = 0 ∨ ∃ b o, a = some ⟨b, o, none⟩ ∧ Np.RowSt W b o L ∧ base ≤ b ∧ x ≠ some b)
def TxF (W : World) (base : Nat) (x : Option Nat) (a : Option Addr) (n : Nat) (L : List Tx) : Prop := L.length = n ∧ (L.length = 0 ∨ ∃ b o, a = some ⟨b, o, none⟩ ∧ RowO W b o L ∧ base ≤ b ∧ x ≠ some b)
theorem cell_of_blk {w w' : World} {b o : Nat} (e : w'.heap[b]? = w.heap[b]?) : w'.cell? ⟨b, o, none⟩ = w.cell? ⟨b, o, none⟩ := World.cell?_of_block (w := w) (a := ⟨b, o, none⟩) e
theorem StF.keep {W W' : World} {base : Nat} {x : Option Nat} {a : Option Addr} {n : Nat} {L : List Pm.St} (h : StF W base x a n L) (hk : Kp base x W W') : StF W' base x a n L := by
  refine ⟨h.1, h.2.imp id ?_⟩
  rintro ⟨b, o, e, r, h1, h2⟩
  have eb := hk.2 b h1 r.1 h2
  exact ⟨b, o, e, ⟨Nat.lt_of_lt_of_le r.1 hk.1, fun i hi => ⟨(cell_of_blk eb).trans (r.2 i hi).1, (cell_of_blk eb).trans (r.2 i hi).2.1, (cell_of_blk eb).trans (r.2 i hi).2.2⟩⟩, h1, h2⟩
theorem TxF.keep {W W' : World} {base : Nat} {x : Option Nat} {a : Option Addr} {n : Nat} {L : List Tx} (h : TxF W base x a n L) (hk : Kp base x W W') : TxF W' base x a n L := by
  refine ⟨h.1, h.2.imp id ?_⟩
  rintro ⟨b, o, e, r, h1, h2⟩
  have eb := hk.2 b h1 r.1 h2
  exact ⟨b, o, e, ⟨Nat.lt_of_lt_of_le r.1 hk.1, fun i hi => (cell_of_blk eb).trans (r.2 i hi)⟩, h1, h2⟩
theorem StF.of {W : World} {base : Nat} {x : Option Nat} {a : Option Addr} {n : Nat} {L : List Pm.St} (h : Np.StepsIn W a n L) (hn : ∀ g o, a = some ⟨g, o, none⟩ → base ≤ g ∧ x ≠ some g) : StF W base x a n L :=
  ⟨h.1, h.2.imp id fun ⟨b, o, e, r⟩ => ⟨b, o, e, r, (hn b o e).1, (hn b o e).2⟩⟩
theorem TxF.of {W : World} {base : Nat} {x : Option Nat} {a : Option Addr} {n : Nat} {L : List Tx} (h : TxIn W a n L) (hn : ∀ g o, a = some ⟨g, o, none⟩ → base ≤ g ∧ x ≠ some g) : TxF W base x a n L :=
  ⟨h.1, h.2.imp id fun ⟨b, o, e, r⟩ => ⟨b, o, e, r, (hn b o e).1, (hn b o e).2⟩⟩

/-- A mark as it lies: its slice, and what it is. -/
structure Dk where
  a : Option Addr
  n : Nat
  c : Nat
  m : Mk
def cellsM (d : Dk) : List Value := [.slice d.a d.n d.c, .int .u64 (d.m.mask : Int)]
def rowM (D : List Dk) : List Value := D.flatMap cellsM
/-- A row of marks, as a slice has it. -/
def MarksIn (w : World) (a : Option Addr) (n : Nat) (ms : List Mk) : Prop := ms.length = n ∧ (n = 0 ∨ ∃ g o, a = some ⟨g, o, none⟩ ∧ g < w.heap.size ∧ ∀ i, ∀ hi : i < ms.length, (ms[i]'hi).mask < 18446744073709551616 ∧
  ∃ b k c, w.cell? ⟨g, o + i * 2, none⟩ = some (.slice b k c) ∧ w.cell? ⟨g, o + i * 2 + 1, none⟩ = some (.int .u64 ((ms[i]'hi).mask : Int)) ∧ Np.StepsIn w b k (ms[i]'hi).path)
theorem MarksIn.step {w w' : World} {a : Option Addr} {n : Nat} {ms : List Mk} (h : MarksIn w a n ms) (hb : Below w.heap.size w w') : MarksIn w' a n ms := by
  refine ⟨h.1, h.2.imp id ?_⟩
  rintro ⟨g, o, e, hg, r⟩
  refine ⟨g, o, e, Nat.lt_of_lt_of_le hg hb.size, fun i hi => ?_⟩
  obtain ⟨hm, b, k, c, r1, r2, r3⟩ := r i hi
  exact ⟨hm, b, k, c, (hb.cell (p := ⟨g, _, none⟩) hg).trans r1, (hb.cell (p := ⟨g, _, none⟩) hg).trans r2, r3.step hb⟩
/-- A policy, as a value has it. -/
def PolIn (w : World) (v : Value) (p : Po) : Prop := ∃ a n c b m d, ∃ tok : ByteArray, v = .agg #[.slice a n c, .slice b m d, .string tok, .int .i64 p.fuel, .int .i64 p.quota] ∧ tok.data.toList = p.token ∧ TxIn w a n p.cats ∧ MarksIn w b m p.marks
theorem PolIn.step {w w' : World} {v : Value} {p : Po} (h : PolIn w v p) (hb : Below w.heap.size w w') : PolIn w' v p := by
  obtain ⟨a, n, c, b, m, d, tok, h1, h2, h3, h4⟩ := h
  exact ⟨a, n, c, b, m, d, tok, h1, h2, h3.step hb, h4.step hb⟩

theorem ownM_block {w w' : World} {base k : Nat} {v : Value} {xs : List Value} (h : w.ownsRow base 96 2 v k xs) (hB : ∀ g, v.ownBlock = some g → w'.heap[g]? = w.heap[g]?) : w'.ownsRow base 96 2 v k xs := by
  obtain ⟨h0, h⟩ := h
  refine ⟨h0, ?_⟩
  rcases h with ⟨e, e2⟩ | ⟨g', cap', cur, hv, hg, hh, r⟩
  · exact .inl ⟨e, e2⟩
  · refine .inr ⟨g', cap', cur, hv, hg, ?_, r⟩
    rw [hB g' (by rw [hv]; rfl)]
    exact hh
/-- A mark that may be told whether it may be. -/
def GoodMk (m : Mk) : Prop := m.mask < 18446744073709551616 ∧ m.path.length ≤ 8
/-- A row of marks that lies apart. -/
def MarksF (w : World) (base : Nat) (a : Option Addr) (n : Nat) (ms : List Mk) : Prop := ms.length = n ∧ (n = 0 ∨ ∃ g o, a = some ⟨g, o, none⟩ ∧ base ≤ g ∧ g < w.heap.size ∧ ∀ i, ∀ hi : i < ms.length, (ms[i]'hi).mask < 18446744073709551616 ∧
  ∃ b k c, w.cell? ⟨g, o + i * 2, none⟩ = some (.slice b k c) ∧ w.cell? ⟨g, o + i * 2 + 1, none⟩ = some (.int .u64 ((ms[i]'hi).mask : Int)) ∧ StF w base none b k (ms[i]'hi).path)
theorem MarksF.keep {w w' : World} {base : Nat} {a : Option Addr} {n : Nat} {ms : List Mk} (h : MarksF w base a n ms) (hk : Kp base none w w') : MarksF w' base a n ms := by
  refine ⟨h.1, h.2.imp id ?_⟩
  rintro ⟨g, o, e, hb, hg, r⟩
  have eb := hk.2 g hb hg (by simp)
  refine ⟨g, o, e, hb, Nat.lt_of_lt_of_le hg hk.1, fun i hi => ?_⟩
  obtain ⟨hm, b, k, c, r1, r2, r3⟩ := r i hi
  exact ⟨hm, b, k, c, (cell_of_blk eb).trans r1, (cell_of_blk eb).trans r2, r3.keep hk⟩
/-- A policy that lies apart, as a value has it. -/
def PolF (w : World) (base : Nat) (v : Value) (p : Po) : Prop := ∃ a n c b m d, ∃ tok : ByteArray, v = .agg #[.slice a n c, .slice b m d, .string tok, .int .i64 p.fuel, .int .i64 p.quota] ∧ tok.data.toList = p.token ∧ TxF w base none a n p.cats ∧ MarksF w base b m p.marks
theorem PolF.keep {w w' : World} {base : Nat} {v : Value} {p : Po} (h : PolF w base v p) (hk : Kp base none w w') : PolF w' base v p := by
  obtain ⟨a, n, c, b, m, d, tok, h1, h2, h3, h4⟩ := h
  exact ⟨a, n, c, b, m, d, tok, h1, h2, h3.keep hk, h4.keep hk⟩
theorem MarksF.low {w : World} {base base' : Nat} {a : Option Addr} {n : Nat} {ms : List Mk} (h : MarksF w base a n ms) (hb : base' ≤ base) : MarksF w base' a n ms := by
  refine ⟨h.1, h.2.imp id ?_⟩
  rintro ⟨g, o, e, h1, hg, r⟩
  refine ⟨g, o, e, Nat.le_trans hb h1, hg, fun i hi => ?_⟩
  obtain ⟨hm, b, k, c, r1, r2, r3⟩ := r i hi
  exact ⟨hm, b, k, c, r1, r2, r3.1, r3.2.imp id fun ⟨b, o, e, r, h1, h2⟩ => ⟨b, o, e, r, Nat.le_trans hb h1, by simp⟩⟩
theorem StF.low {W : World} {base base' : Nat} {x : Option Nat} {a : Option Addr} {n : Nat} {L : List Pm.St} (h : StF W base x a n L) (hb : base' ≤ base) : StF W base' none a n L :=
  ⟨h.1, h.2.imp id fun ⟨b, o, e, r, h1, h2⟩ => ⟨b, o, e, r, Nat.le_trans hb h1, by simp⟩⟩
theorem TxF.low {W : World} {base base' : Nat} {x : Option Nat} {a : Option Addr} {n : Nat} {L : List Tx} (h : TxF W base x a n L) (hb : base' ≤ base) : TxF W base' none a n L :=
  ⟨h.1, h.2.imp id fun ⟨b, o, e, r, h1, h2⟩ => ⟨b, o, e, r, Nat.le_trans hb h1, by simp⟩⟩
end Go.Proofs.YtppkknmgdahniaaDoor.Pol
/- What is proved here: read of package policy, walked: what it takes from any text, and that of a text that was printed it is the policy; conditions: the tables and the two errors lie. -/
namespace Go.Proofs.YtppkknmgdahniaaDoor.Pol
set_option maxRecDepth 100000
open Go.RowKit Go.Proofs.YtppkknmgdahniaaDoor.Nc Go.Proofs.YtppkknmgdahniaaDoor.Np Go.Proofs.YtppkknmgdahniaaDoor.Nq
set_option linter.unusedVariables false
set_option linter.unusedSimpArgs false

/-- A block of five cells that may be written. -/
structure Five (w : World) (b : Nat) (v0 v1 v2 v3 v4 : Value) : Prop where
  lt : b < w.heap.size
  c0 : w.cell? ⟨b, 0, none⟩ = some v0
  c1 : w.cell? ⟨b, 1, none⟩ = some v1
  c2 : w.cell? ⟨b, 2, none⟩ = some v2
  c3 : w.cell? ⟨b, 3, none⟩ = some v3
  c4 : w.cell? ⟨b, 4, none⟩ = some v4
  f : ∀ i, w.frozen? ⟨b, i, none⟩ = false
theorem Five.new (w : World) (v0 v1 v2 v3 v4 : Value) (ty : TypeId) : Five (w.alloc (.cells #[v0, v1, v2, v3, v4] ty)) w.heap.size v0 v1 v2 v3 v4 :=
  ⟨by simp, World.cell?_alloc_at _ _ _ _ rfl, World.cell?_alloc_at _ _ _ _ rfl, World.cell?_alloc_at _ _ _ _ rfl, World.cell?_alloc_at _ _ _ _ rfl, World.cell?_alloc_at _ _ _ _ rfl, fun i => World.frozen?_alloc_new _ _ _ _⟩
theorem Five.blk {w w' : World} {b : Nat} {v0 v1 v2 v3 v4 : Value} (h : Five w b v0 v1 v2 v3 v4) (hs : w.heap.size ≤ w'.heap.size) (e : w'.heap[b]? = w.heap[b]?) : Five w' b v0 v1 v2 v3 v4 :=
  ⟨Nat.lt_of_lt_of_le h.lt hs, (cell_of_blk e).trans h.c0, (cell_of_blk e).trans h.c1, (cell_of_blk e).trans h.c2, (cell_of_blk e).trans h.c3, (cell_of_blk e).trans h.c4, fun i => (World.frozen?_of_block (w := w) (a := ⟨b, i, none⟩) e).trans (h.f i)⟩
theorem Five.step {w w' : World} {b : Nat} {v0 v1 v2 v3 v4 : Value} (h : Five w b v0 v1 v2 v3 v4) (hb : Below w.heap.size w w') : Five w' b v0 v1 v2 v3 v4 := h.blk hb.size (hb.block b h.lt)
theorem Five.off {w w' : World} {b y : Nat} {v0 v1 v2 v3 v4 : Value} (h : Five w b v0 v1 v2 v3 v4) (hb : Off y w w') (hy : b ≠ y) : Five w' b v0 v1 v2 v3 v4 := h.blk hb.size (hb.block b h.lt hy)
theorem Five.put {w : World} {b : Nat} {v0 v1 v2 v3 v4 : Value} (h : Five w b v0 v1 v2 v3 v4) (x : Value) :
    Five (w.setCell ⟨b, 0, none⟩ x) b x v1 v2 v3 v4 ∧ Five (w.setCell ⟨b, 1, none⟩ x) b v0 x v2 v3 v4 ∧ Five (w.setCell ⟨b, 2, none⟩ x) b v0 v1 x v3 v4 ∧ Five (w.setCell ⟨b, 3, none⟩ x) b v0 v1 v2 x v4 ∧ Five (w.setCell ⟨b, 4, none⟩ x) b v0 v1 v2 v3 x := by
  have ho : ∀ (i j : Nat) (v : Value), i ≠ j → w.cell? ⟨b, j, none⟩ = some v → (w.setCell ⟨b, i, none⟩ x).cell? ⟨b, j, none⟩ = some v := fun i j v hij hv => by
    rw [World.cell?_setCell_other _ _ _ _ (fun e => hij (by have := congrArg Addr.off e; simp at this; omega))]; exact hv
  have hf : ∀ i j, (w.setCell ⟨b, i, none⟩ x).frozen? ⟨b, j, none⟩ = false := fun i j => by rw [frozen_set]; exact h.f j
  have hl : ∀ i, b < (w.setCell ⟨b, i, none⟩ x).heap.size := fun i => by simp [World.setCell]; exact h.lt
  exact ⟨⟨hl 0, World.cell?_setCell_same _ _ _ h.c0, ho 0 1 _ (by decide) h.c1, ho 0 2 _ (by decide) h.c2, ho 0 3 _ (by decide) h.c3, ho 0 4 _ (by decide) h.c4, hf 0⟩,
    ⟨hl 1, ho 1 0 _ (by decide) h.c0, World.cell?_setCell_same _ _ _ h.c1, ho 1 2 _ (by decide) h.c2, ho 1 3 _ (by decide) h.c3, ho 1 4 _ (by decide) h.c4, hf 1⟩,
    ⟨hl 2, ho 2 0 _ (by decide) h.c0, ho 2 1 _ (by decide) h.c1, World.cell?_setCell_same _ _ _ h.c2, ho 2 3 _ (by decide) h.c3, ho 2 4 _ (by decide) h.c4, hf 2⟩,
    ⟨hl 3, ho 3 0 _ (by decide) h.c0, ho 3 1 _ (by decide) h.c1, ho 3 2 _ (by decide) h.c2, World.cell?_setCell_same _ _ _ h.c3, ho 3 4 _ (by decide) h.c4, hf 3⟩,
    ⟨hl 4, ho 4 0 _ (by decide) h.c0, ho 4 1 _ (by decide) h.c1, ho 4 2 _ (by decide) h.c2, ho 4 3 _ (by decide) h.c3, World.cell?_setCell_same _ _ _ h.c4, hf 4⟩⟩
theorem Five.other {w : World} {b : Nat} {v0 v1 v2 v3 v4 : Value} (h : Five w b v0 v1 v2 v3 v4) (p : Addr) (hp : b ≠ p.block) (x : Value) : Five (w.setCell p x) b v0 v1 v2 v3 v4 :=
  h.blk (by simp [World.setCell]) (Below.heap_setCell _ _ _ _ hp)
theorem BoxS.other {w : World} {cb : Nat} {T : ByteArray} (h : BoxS w cb T) (p : Addr) (hp : cb ≠ p.block) (x : Value) : BoxS (w.setCell p x) cb T := by
  obtain ⟨ty, g⟩ := h
  exact ⟨ty, (Below.heap_setCell _ _ _ _ hp).trans g⟩
/-- What stands while read goes on. -/
structure RS (w0 : World) (rb : Nat) (W : World) (T : ByteArray) (v0 v1 v2 v3 v4 : Value) : Prop where
  b : Below rb w0 W
  sz : rb + 3 ≤ W.heap.size
  r : Five W rb (.slice none 0 0) (.slice none 0 0) (.string ⟨#[]⟩) (.int .i64 0) (.int .i64 0)
  x : BoxS W (rb + 1) T
  f : Five W (rb + 1 + 1) v0 v1 v2 v3 v4
theorem RS.step {w0 : World} {rb : Nat} {W W' : World} {T : ByteArray} {v0 v1 v2 v3 v4 : Value} (h : RS w0 rb W T v0 v1 v2 v3 v4) (hb : Below W.heap.size W W') : RS w0 rb W' T v0 v1 v2 v3 v4 :=
  ⟨h.b.trans (hb.mono (by have := h.sz; omega)), Nat.le_trans h.sz hb.size, h.r.step hb, h.x.step hb, h.f.step hb⟩
theorem RS.next {w0 : World} {rb : Nat} {W W' : World} {T T' : ByteArray} {v0 v1 v2 v3 v4 : Value} (h : RS w0 rb W T v0 v1 v2 v3 v4) (hx : BoxS W' (rb + 1) T') (ho : Off (rb + 1) W W') : RS w0 rb W' T' v0 v1 v2 v3 v4 :=
  ⟨ho.below h.b (by omega) (by have := h.sz; omega), Nat.le_trans h.sz ho.size, h.r.off ho (by omega), hx, h.f.off ho (by omega)⟩
theorem RS.grown {w0 : World} {rb : Nat} {W W' : World} {T : ByteArray} {v0 v1 v2 v3 v4 : Value} {x : Option Nat} (h : RS w0 rb W T v0 v1 v2 v3 v4) (hg : W.grownBy W' x) (hx : ∀ k, x = some k → rb + 3 ≤ k) : RS w0 rb W' T v0 v1 v2 v3 v4 := by
  have hk : ∀ k, k < rb + 3 → W'.heap[k]? = W.heap[k]? := fun k hk => hg.block k (by have := h.sz; omega) (fun e => by have := hx k e.symm; omega)
  refine ⟨h.b.grown hg (by have := h.sz; omega) (fun k hk => by have := hx k hk; omega), Nat.le_trans h.sz hg.size, h.r.blk hg.size (hk _ (by omega)), ?_, h.f.blk hg.size (hk _ (by omega))⟩
  obtain ⟨ty, e⟩ := h.x
  exact ⟨ty, (hk _ (by omega)).trans e⟩
theorem RS.put {w0 : World} {rb : Nat} {W : World} {T : ByteArray} {v0 v1 v2 v3 v4 : Value} (h : RS w0 rb W T v0 v1 v2 v3 v4) (x : Value) :
    RS w0 rb (W.setCell ⟨rb + 1 + 1, 0, none⟩ x) T x v1 v2 v3 v4 ∧ RS w0 rb (W.setCell ⟨rb + 1 + 1, 1, none⟩ x) T v0 x v2 v3 v4 ∧ RS w0 rb (W.setCell ⟨rb + 1 + 1, 2, none⟩ x) T v0 v1 x v3 v4 ∧ RS w0 rb (W.setCell ⟨rb + 1 + 1, 3, none⟩ x) T v0 v1 v2 x v4 ∧ RS w0 rb (W.setCell ⟨rb + 1 + 1, 4, none⟩ x) T v0 v1 v2 v3 x := by
  obtain ⟨p0, p1, p2, p3, p4⟩ := h.f.put x
  have hb : ∀ i, Below rb w0 (W.setCell ⟨rb + 1 + 1, i, none⟩ x) := fun i => h.b.setCell (by show rb ≤ rb + 1 + 1; omega) x
  have hz : ∀ i, rb + 3 ≤ (W.setCell ⟨rb + 1 + 1, i, none⟩ x).heap.size := fun i => by simp [World.setCell]; exact h.sz
  have hr : ∀ i, Five (W.setCell ⟨rb + 1 + 1, i, none⟩ x) rb (.slice none 0 0) (.slice none 0 0) (.string ⟨#[]⟩) (.int .i64 0) (.int .i64 0) := fun i => h.r.other _ (by show rb ≠ rb + 1 + 1; omega) x
  have hx : ∀ i, BoxS (W.setCell ⟨rb + 1 + 1, i, none⟩ x) (rb + 1) T := fun i => h.x.other _ (by show rb + 1 ≠ rb + 1 + 1; omega) x
  exact ⟨⟨hb 0, hz 0, hr 0, hx 0, p0⟩, ⟨hb 1, hz 1, hr 1, hx 1, p1⟩, ⟨hb 2, hz 2, hr 2, hx 2, p2⟩, ⟨hb 3, hz 3, hr 3, hx 3, p3⟩, ⟨hb 4, hz 4, hr 4, hx 4, p4⟩⟩
/-- A row of marks of one's own, and what lies in it. -/
structure MR (W : World) (base : Nat) (v : Value) (D : List Dk) : Prop where
  own : W.ownsRow base 96 2 v D.length (rowM D)
  each : ∀ d ∈ D, GoodMk d.m ∧ StF W base v.ownBlock d.a d.n d.m.path
theorem MR.keep {W W' : World} {base : Nat} {v : Value} {D : List Dk} (h : MR W base v D) (hk : Kp base none W W') : MR W' base v D :=
  ⟨ownM_block h.own (fun g hg => hk.2 g (h.own.lt g hg).1 (h.own.lt g hg).2 (by simp)), fun d hd => ⟨(h.each d hd).1, (h.each d hd).2.keep ⟨hk.1, fun k a b _ => hk.2 k a b (by simp)⟩⟩⟩
theorem Kp.any {base : Nat} {x : Option Nat} {w w' : World} (h : Kp base none w w') : Kp base x w w' := ⟨h.1, fun k a b _ => h.2 k a b (by simp)⟩

end Go.Proofs.YtppkknmgdahniaaDoor.Pol
/- What is proved here: May of package policy, walked; conditions: the tables of unicode/utf8 lie, the policy lies. -/
namespace Go.Proofs.YtppkknmgdahniaaDoor.Pol
set_option maxRecDepth 100000
open Go.RowKit Go.Proofs.YtppkknmgdahniaaDoor.Nc Go.Proofs.YtppkknmgdahniaaDoor.Np Go.Proofs.YtppkknmgdahniaaDoor.Nq
set_option linter.unusedVariables false
set_option linter.unusedSimpArgs false

end Go.Proofs.YtppkknmgdahniaaDoor.Pol
/- What is proved here: Print of package policy, walked; conditions: the tables of unicode/utf8 and the table of powers of ten lie, the policy lies and may be. -/
namespace Go.Proofs.YtppkknmgdahniaaDoor.Pol
set_option maxRecDepth 100000
open Go.RowKit Go.Proofs.YtppkknmgdahniaaDoor.Nc Go.Proofs.YtppkknmgdahniaaDoor.Np Go.Proofs.YtppkknmgdahniaaDoor.Nq
set_option linter.unusedVariables false
set_option linter.unusedSimpArgs false

theorem flat_take {ws : List Tx} {k : Nat} (h : k < ws.length) : Cm.flatB (ws.take (k + 1)) = Cm.flatB (ws.take k) ++ 32 :: ws[k]'h := by
  rw [List.take_succ_eq_append_getElem h, Cm.flatB_snoc]
theorem quote_len (l : Tx) (h : Lib.validD l = true) : (Qm.quoteL l).length ≤ 2 + 6 * l.length := by
  unfold Qm.quoteL
  rw [Qm.quo_flat l h]
  have : ∀ l : Tx, (l.flatMap Qm.escB).length ≤ 6 * l.length := by
    intro l
    induction l with
    | nil => simp
    | cons c r ih =>
      rw [List.flatMap_cons, List.length_append, List.length_cons]
      have : (Qm.escB c).length ≤ 6 := by
        unfold Qm.escB
        split
        · simp
        · unfold Qm.esc
          repeat' split
          all_goals simp
      omega
  simp only [List.length_cons, List.length_append, List.length_nil]
  have := this l
  omega
end Go.Proofs.YtppkknmgdahniaaDoor.Pol
/- What is proved here: Parse of package policy, walked; conditions: the tables and the two errors lie. -/
namespace Go.Proofs.YtppkknmgdahniaaDoor.Pol
set_option maxRecDepth 100000
open Go.RowKit Go.Proofs.YtppkknmgdahniaaDoor.Nc Go.Proofs.YtppkknmgdahniaaDoor.Np Go.Proofs.YtppkknmgdahniaaDoor.Nq
set_option linter.unusedVariables false
set_option linter.unusedSimpArgs false

end Go.Proofs.YtppkknmgdahniaaDoor.Pol
/- What is proved here: shown of the laws of layer 8 (the document's example), walked; conditions: the tables and the two errors lie. Written by vj_gen.py. -/
namespace Go.Proofs.YtppkknmgdahniaaDoor.Pol
set_option maxRecDepth 100000
open Go.RowKit Go.Proofs.YtppkknmgdahniaaDoor.Nc Go.Proofs.YtppkknmgdahniaaDoor.Np Go.Proofs.YtppkknmgdahniaaDoor.Nq
set_option linter.unusedVariables false
set_option linter.unusedSimpArgs false

end Go.Proofs.YtppkknmgdahniaaDoor.Pol
/- What is proved here: the document's own Same of two policies with the same content, walked; conditions: both policies lie. -/
namespace Go.Proofs.YtppkknmgdahniaaDoor.Pol
set_option maxRecDepth 100000
open Go.RowKit Go.Proofs.YtppkknmgdahniaaDoor.Nc Go.Proofs.YtppkknmgdahniaaDoor.Np Go.Proofs.YtppkknmgdahniaaDoor.Nq
set_option linter.unusedVariables false
set_option linter.unusedSimpArgs false

end Go.Proofs.YtppkknmgdahniaaDoor.Pol
/- What is proved here: few of the laws of layer 8, walked: whatever policy comes in, it answers one of bounded size; conditions: the policy lies. -/
namespace Go.Proofs.YtppkknmgdahniaaDoor.Pol
set_option maxRecDepth 100000
open Go.RowKit Go.Proofs.YtppkknmgdahniaaDoor.Nc Go.Proofs.YtppkknmgdahniaaDoor.Np Go.Proofs.YtppkknmgdahniaaDoor.Nq
set_option linter.unusedVariables false
set_option linter.unusedSimpArgs false

/-- A policy of bounded size. -/
structure Bnd (p : Po) : Prop where
  cats : p.cats.length ≤ 70
  names : ∀ x ∈ p.cats, x.length ≤ 40
  marks : p.marks.length ≤ 20
  paths : ∀ m ∈ p.marks, m.path.length ≤ 12
  token : p.token.length ≤ 100
/-- A row of marks of one's own; their paths are short. -/
structure MR12 (W : World) (base : Nat) (v : Value) (D : List Dk) : Prop where
  own : W.ownsRow base 96 2 v D.length (rowM D)
  each : ∀ d ∈ D, (d.m.mask < 18446744073709551616 ∧ d.m.path.length ≤ 12) ∧ StF W base v.ownBlock d.a d.n d.m.path
theorem MR12.keep {W W' : World} {base : Nat} {v : Value} {D : List Dk} (h : MR12 W base v D) (hk : Kp base none W W') : MR12 W' base v D :=
  ⟨ownM_block h.own (fun g hg => hk.2 g (h.own.lt g hg).1 (h.own.lt g hg).2 (by simp)), fun d hd => ⟨(h.each d hd).1, (h.each d hd).2.keep ⟨hk.1, fun k a b _ => hk.2 k a b (by simp)⟩⟩⟩
end Go.Proofs.YtppkknmgdahniaaDoor.Pol
/- What is proved here: PolicyBack, walked: for every policy, every text and every place that come in the law returns true and leaves them; conditions: the tables and the two errors lie, the policy lies. -/
namespace Go.Proofs.YtppkknmgdahniaaDoor.Pol
set_option maxRecDepth 100000
open Go.RowKit Go.Proofs.YtppkknmgdahniaaDoor.Nc Go.Proofs.YtppkknmgdahniaaDoor.Np Go.Proofs.YtppkknmgdahniaaDoor.Nq
set_option linter.unusedVariables false
set_option linter.unusedSimpArgs false

end Go.Proofs.YtppkknmgdahniaaDoor.Pol
/- What is proved here: the document's own May of policies, walked; conditions: the policy lies. -/
namespace Go.Proofs.YtppkknmgdahniaaDoor.Pol
set_option maxRecDepth 100000
open Go.RowKit Go.Proofs.YtppkknmgdahniaaDoor.Nc Go.Proofs.YtppkknmgdahniaaDoor.Np Go.Proofs.YtppkknmgdahniaaDoor.Nq
set_option linter.unusedVariables false
set_option linter.unusedSimpArgs false

end Go.Proofs.YtppkknmgdahniaaDoor.Pol
/- What is proved here: Match of package path of any two rows of steps, empty ones too; what MaskAt of package policy answers, walked; conditions: the rows, the policy lie. -/
namespace Go.Proofs.YtppkknmgdahniaaDoor.Pol
set_option maxRecDepth 100000
open Go.RowKit Go.Proofs.YtppkknmgdahniaaDoor.Nc Go.Proofs.YtppkknmgdahniaaDoor.Np Go.Proofs.YtppkknmgdahniaaDoor.Nq
set_option linter.unusedVariables false
set_option linter.unusedSimpArgs false

end Go.Proofs.YtppkknmgdahniaaDoor.Pol
/- What is proved here: what MaskAt of package policy answers, walked; conditions: the policy and the place lie. -/
namespace Go.Proofs.YtppkknmgdahniaaDoor.Pol
set_option maxRecDepth 100000
open Go.RowKit Go.Proofs.YtppkknmgdahniaaDoor.Nc Go.Proofs.YtppkknmgdahniaaDoor.Np Go.Proofs.YtppkknmgdahniaaDoor.Nq
set_option linter.unusedVariables false
set_option linter.unusedSimpArgs false

theorem MarksIn.lt {w : World} {a : Option Addr} {n : Nat} {ms : List Mk} (h : MarksIn w a n ms) : ∀ m ∈ ms, m.mask < 18446744073709551616 := by
  intro m hm
  obtain ⟨i, hi, rfl⟩ := List.getElem_of_mem hm
  have h1 := h.1
  obtain ⟨g, o, _, _, r⟩ := h.2.resolve_left (by omega)
  exact (r i hi).1
end Go.Proofs.YtppkknmgdahniaaDoor.Pol
/- What is proved here: a copy of a labelled value lies in blocks of its own, each row of kids in another one that may be written to; condition: not too many keys and kids anywhere. -/
namespace Go.Proofs.YtppkknmgdahniaaDoor.Pol
set_option maxRecDepth 100000
open Go.RowKit
set_option linter.unusedVariables false
set_option linter.unusedSimpArgs false

/-- The value v is the tree t, at most n levels deep, in blocks from lo to below hi: each row of kids in a block of its own, that may be written to, keys ahead of it, what lies below it behind it, kid by kid. -/
def Own (w : World) : Nat → Nat → Nat → Value → Tr → Prop
  | 0, _, _, _, _ => False
  | n + 1, lo, hi, v, t => ∃ h l kv dv, t = Tr.mk h l ∧ v = .agg (nine h kv dv) ∧ h.m < 18446744073709551616 ∧ ∃ G, lo ≤ G ∧ G ≤ hi ∧ StrsIn (fun b => lo ≤ b ∧ b < G) w kv h.ks ∧ ∃ a cap, dv = .slice a l.length cap ∧ CapOk a l.length cap ∧
      (l.length = 0 ∨ (a = some ⟨G, 0, none⟩ ∧ G < w.heap.size ∧ G < hi ∧ (∀ r, w.frozen? ⟨G, r, none⟩ = false) ∧ ∃ s : Nat → Nat, s 0 = G + 1 ∧ s l.length ≤ hi ∧ (∀ i, i < l.length → s i ≤ s (i + 1)) ∧
        ∀ i, ∀ h : i < l.length, ∃ cs, Row9 w G (i * 9) cs ∧ Own w n (s i) (s (i + 1)) (.agg cs) (l[i]'h)))
theorem _root_.Go.Proofs.YtppkknmgdahniaaDoor.StrsIn.weak2 {ok ok' : Nat → Prop} {w : World} {kv : Value} {ks : List ByteArray} (h : StrsIn ok w kv ks) (hi : ∀ b, ok b → ok' b) : StrsIn ok' w kv ks := h.keep (Kept.refl _ _) (fun b _ hb => hi b hb)
theorem s_mono {s : Nat → Nat} {n : Nat} (h : ∀ i, i < n → s i ≤ s (i + 1)) (i : Nat) : ∀ j, i ≤ j → j ≤ n → s i ≤ s j
  | 0, hi, _ => by obtain rfl : i = 0 := by omega
                   exact Nat.le_refl _
  | j + 1, hi, hj => by
    by_cases e : i = j + 1
    · subst e; exact Nat.le_refl _
    · exact Nat.le_trans (s_mono h i j (by omega) (by omega)) (h j (by omega))
theorem Own.keep {ok : Nat → Prop} {w w' : World} (hK : Kept ok w w') : ∀ {n lo hi : Nat} {v : Value} {t : Tr}, (∀ b, lo ≤ b → b < hi → ok b) → Own w n lo hi v t → Own w' n lo hi v t
  | 0, _, _, _, _, _, h => h.elim
  | n + 1, lo, hi, v, t, ho, ⟨h, l, kv, dv, e1, e2, e3, G, h1, h2, h3, a, cap, e4, e5, h4⟩ => by
    refine ⟨h, l, kv, dv, e1, e2, e3, G, h1, h2, ?_, a, cap, e4, e5, ?_⟩
    · exact (h3.weak2 (ok' := fun b => ok b ∧ (lo ≤ b ∧ b < G)) (fun b hb => ⟨ho b hb.1 (by omega), hb⟩)).keep (hK.weak (ok := fun b => ok b ∧ (lo ≤ b ∧ b < G)) (fun b _ hb => hb.1)) (fun b _ hb => hb.2)
    · refine h4.imp_right ?_
      rintro ⟨f1, f2, f3, f4, s, s0, s1, s2, f5⟩
      have hGo : ok G := ho G h1 f3
      have eG := hK.2 G hGo f2
      refine ⟨f1, Nat.lt_of_lt_of_le f2 hK.1, f3, fun r => by rw [← f4 r]; exact World.frozen?_of_block (a := ⟨G, r, none⟩) eG, s, s0, s1, s2, fun i hi => ?_⟩
      obtain ⟨cs, r, p⟩ := f5 i hi
      have m1 := s_mono s2 0 i (by omega) (by omega)
      have m2 := s_mono s2 (i + 1) l.length (by omega) (by omega)
      exact ⟨cs, r.keep hGo f2 hK, Own.keep hK (fun b b1 b2 => ho b (by omega) (by omega)) p⟩
theorem Own.weak {w : World} {n lo hi lo' hi' : Nat} {v : Value} {t : Tr} (h1 : lo' ≤ lo) (h2 : hi ≤ hi') (h : Own w n lo hi v t) : Own w n lo' hi' v t := by
  cases n with
  | zero => exact h.elim
  | succ n =>
    obtain ⟨h, l, kv, dv, e1, e2, e3, G, g1, g2, g3, a, cap, e4, e5, h4⟩ := h
    refine ⟨h, l, kv, dv, e1, e2, e3, G, by omega, by omega, g3.weak2 (fun b hb => ⟨by omega, hb.2⟩), a, cap, e4, e5, h4.imp_right ?_⟩
    rintro ⟨f1, f2, f3, f4, s, s0, s1, s2, f5⟩
    exact ⟨f1, f2, by omega, f4, s, s0, by omega, s2, f5⟩
/-- What lies in a row that is being filled. -/
def FilledO (w : World) (n G k : Nat) (l : List Tr) : Prop :=
  (∃ cur, w.heap[G]? = some (.cells cur 31 (0, 0)) ∧ cur.size = l.length * 9) ∧
  ∃ s : Nat → Nat, s 0 = G + 1 ∧ (∀ i, i < k → s i ≤ s (i + 1)) ∧ s k ≤ w.heap.size ∧ ∀ j, j < k → ∀ h : j < l.length, ∃ cs, Row9 w G (j * 9) cs ∧ Own w n (s j) (s (j + 1)) (.agg cs) (l[j]'h)
theorem FilledO.below {w w' : World} {n G k : Nat} {l : List Tr} (h : FilledO w n G k l) (hb : Below w.heap.size w w') : FilledO w' n G k l := by
  obtain ⟨⟨cur, h1, h2⟩, s, s0, s1, s2, h3⟩ := h
  have hG : G < w.heap.size := (Array.getElem?_eq_some_iff.1 h1).1
  refine ⟨⟨cur, by rw [hb.block G hG]; exact h1, h2⟩, s, s0, s1, Nat.le_trans s2 hb.size, fun j hj hl => ?_⟩
  obtain ⟨cs, r, p⟩ := h3 j hj hl
  exact ⟨cs, r.keep (ok := anyB) trivial hG (Kept.of_below hb), p.keep (ok := anyB) (Kept.of_below hb) (fun _ _ _ => trivial)⟩
end Go.Proofs.YtppkknmgdahniaaDoor.Pol
/- What is proved here: the step from a node to a kid of it, and what the visit of a node sets, walked; conditions: as each theorem states. -/
namespace Go.Proofs.YtppkknmgdahniaaDoor.Pol
set_option maxRecDepth 100000
open Go.RowKit Go.Proofs.YtppkknmgdahniaaDoor.Nc Go.Proofs.YtppkknmgdahniaaDoor.Np Go.Proofs.YtppkknmgdahniaaDoor.Nq
set_option linter.unusedVariables false
set_option linter.unusedSimpArgs false

/-- The step from a node to its kid at a place. -/
def stepT (h : Hd) (i : Nat) : Pm.St := if h.k = 6 then ⟨2, ⟨#[]⟩, i⟩ else if h.k = 7 then (if hi : i < h.ks.length then ⟨1, h.ks[i]'hi, 0⟩ else ⟨0, ⟨#[]⟩, 0⟩) else ⟨0, ⟨#[]⟩, 0⟩
/-- A box that holds a policy that lies. -/
def PBox (w : World) (pb : Nat) (p : Po) : Prop := ∃ a n c b m d, ∃ tok : ByteArray, Five w pb (.slice a n c) (.slice b m d) (.string tok) (.int .i64 p.fuel) (.int .i64 p.quota) ∧ PolIn w (.agg #[.slice a n c, .slice b m d, .string tok, .int .i64 p.fuel, .int .i64 p.quota]) p
theorem PBox.step {w w' : World} {pb : Nat} {p : Po} (h : PBox w pb p) (hb : Below w.heap.size w w') : PBox w' pb p := by
  obtain ⟨a, n, c, b, m, d, tok, h1, h2⟩ := h
  exact ⟨a, n, c, b, m, d, tok, h1.step hb, h2.step hb⟩
end Go.Proofs.YtppkknmgdahniaaDoor.Pol
