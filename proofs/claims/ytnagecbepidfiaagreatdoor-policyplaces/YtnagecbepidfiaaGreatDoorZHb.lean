/- What is proved here: plain facts on the text of a policy: how its lines stand one behind the other, and that none that is written begins another one; conditions: as each theorem states. It imports nothing of any program. -/
import Derived.Test.YtnagecbepidfiaaGreatDoorZAb
import Derived.Lib.AtoiAll
import Derived.Lib.ItoaNum
import Derived.Lib.Split
import Derived.Test.YtnagecbepidfiaaGreatDoorZBb
import Derived.Test.YtnagecbepidfiaaGreatDoorZBa
import Derived.Shelf.Strings.SplitCore
import Derived.Shelf.Strings.Count
import Derived.Lib.SplitLaws
import Derived.WalkKit
import Derived.Below
import Derived.Test.YtnagecbepidfiaaGreatDoorProg
import Derived.Test.YtnagecbepidfiaaGreatDoorZBi
import Derived.OwnWalk
import Derived.Deep.AppendLies
namespace Go.Proofs.YtnagecbepidfiaaGreatDoor.Pol
set_option maxRecDepth 100000
set_option linter.unusedVariables false
set_option linter.unusedSimpArgs false

abbrev Tx := List UInt8
structure Mk where
  path : List Pm.St
  mask : Nat
structure Po where
  cats : List Tx
  marks : List Mk
  token : Tx
  fuel : Int
  quota : Int
def wCats : Tx := [99, 97, 116, 115]
def wMark : Tx := [109, 97, 114, 107]
def wToken : Tx := [116, 111, 107, 101, 110]
def wFuel : Tx := [102, 117, 101, 108]
def wQuota : Tx := [113, 117, 111, 116, 97]
/-- A line: a word, texts with a blank ahead of each, a newline. -/
def lineT (w : Tx) (ws : List Tx) : Tx := w ++ (Cm.flatB ws ++ [10])
def namesT (cats : List Tx) (m : Nat) : Tx := Cm.joinB (Cm.selK cats m cats.length)
def markT (pt : List Pm.St → Tx) (cats : List Tx) (m : Mk) : Tx := lineT wMark [namesT cats m.mask, pt m.path]
def marksT (pt : List Pm.St → Tx) (cats : List Tx) (ms : List Mk) : Tx := ms.flatMap (markT pt cats)
def tailT (p : Po) : Tx := lineT wToken [Qm.quoteL p.token] ++ (lineT wFuel [Lib.itoa p.fuel] ++ lineT wQuota [Lib.itoa p.quota])
/-- The text of a policy. -/
def printT (pt : List Pm.St → Tx) (p : Po) : Tx := lineT wCats p.cats ++ (marksT pt p.cats p.marks ++ tailT p)

/-- What stands behind a word in the next line, and what is left; nothing, and all, if it begins with another one. -/
def nextF (w T : Tx) : Tx × Tx :=
  if w.isPrefixOf (T.takeWhile (fun c => c != 10)) then ((T.takeWhile (fun c => c != 10)).drop w.length, T.drop ((T.takeWhile (fun c => c != 10)).length + 1)) else ([], T)
theorem take_line {x r : Tx} (h : (10 : UInt8) ∉ x) : (x ++ 10 :: r).takeWhile (fun c => c != 10) = x := by
  induction x with
  | nil => simp
  | cons c x ih =>
    have hc : c ≠ 10 := fun e => h (by simp [e])
    rw [List.cons_append, List.takeWhile_cons_of_pos (by simpa using hc), ih (fun g => h (by simp [g]))]
theorem next_yes {w x r : Tx} (hw : (10 : UInt8) ∉ w) (hx : (10 : UInt8) ∉ x) : nextF w (w ++ (x ++ 10 :: r)) = (x, r) := by
  have h : (10 : UInt8) ∉ w ++ x := by simp [hw, hx]
  have e : (w ++ (x ++ 10 :: r)).takeWhile (fun c => c != 10) = w ++ x := by rw [← List.append_assoc]; exact take_line h
  unfold nextF
  rw [e, if_pos (by simp), List.drop_left]
  have hd : List.drop ((w ++ x).length + 1) (w ++ (x ++ 10 :: r)) = r := by
    rw [← List.append_assoc, ← List.drop_drop, List.drop_left]; rfl
  rw [hd]
theorem next_no {c d : UInt8} {w T : Tx} (h : c ≠ d) : nextF (c :: w) (d :: T) = ([], d :: T) := by
  unfold nextF
  rw [if_neg]
  intro g
  rw [List.takeWhile_cons] at g
  split at g
  · simp [List.isPrefixOf] at g
    exact h g.1
  · simp at g
/-- Two lines are one. -/
theorem line_eq {x y a b : Tx} (hx : (10 : UInt8) ∉ x) (hy : (10 : UInt8) ∉ y) (h : x ++ 10 :: a = y ++ 10 :: b) : x = y ∧ a = b := by
  have e := congrArg (fun T => T.takeWhile (fun c => c != 10)) h
  simp only [take_line hx, take_line hy] at e
  subst e
  exact ⟨rfl, (List.cons.inj (List.append_cancel_left h)).2⟩

/-- What is asked of a policy so that its lines are told apart. -/
structure Good (pt : List Pm.St → Tx) (p : Po) : Prop where
  names : ∀ x ∈ p.cats, (10 : UInt8) ∉ x ∧ (32 : UInt8) ∉ x ∧ (36 : UInt8) ∉ x ∧ x ≠ []
  paths : ∀ m ∈ p.marks, (10 : UInt8) ∉ pt m.path
  token : (10 : UInt8) ∉ Qm.quoteL p.token
  fuel : (10 : UInt8) ∉ Lib.itoa p.fuel
  quota : (10 : UInt8) ∉ Lib.itoa p.quota
theorem flat_no {ws : List Tx} {c : UInt8} (h32 : c ≠ 32) (h : ∀ x ∈ ws, c ∉ x) : c ∉ Cm.flatB ws := by
  induction ws with
  | nil => simp [Cm.flatB]
  | cons x r ih =>
    rw [Cm.flatB_cons]
    simp only [List.mem_cons, List.mem_append, not_or]
    exact ⟨h32, h x (by simp), ih (fun y hy => h y (by simp [hy]))⟩
theorem names_no {cats : List Tx} {c : UInt8} (h32 : c ≠ 32) (h : ∀ x ∈ cats, c ∉ x) (m : Nat) : c ∉ namesT cats m := by
  intro g
  refine flat_no (ws := Cm.selK cats m cats.length) h32 (fun x hx => h x (Cm.selK_mem (Nat.le_refl _) hx)) ?_
  unfold namesT Cm.joinB at g
  exact List.mem_of_mem_drop g
theorem Good.mark {pt : List Pm.St → Tx} {p : Po} (h : Good pt p) {m : Mk} (hm : m ∈ p.marks) : (10 : UInt8) ∉ Cm.flatB [namesT p.cats m.mask, pt m.path] :=
  flat_no (by decide) (fun x hx => by
    simp only [List.mem_cons, List.not_mem_nil, or_false] at hx
    rcases hx with rfl | rfl
    · exact names_no (by decide) (fun x hx => (h.names x hx).1) _
    · exact h.paths m hm)
theorem flat_one {x : Tx} {c : UInt8} (h32 : c ≠ 32) (h : c ∉ x) : c ∉ Cm.flatB [x] := flat_no h32 (fun y hy => by simp only [List.mem_cons, List.not_mem_nil, or_false] at hy; rw [hy]; exact h)
theorem line_app (w : Tx) (ws : List Tx) (r : Tx) : lineT w ws ++ r = w ++ (Cm.flatB ws ++ 10 :: r) := by unfold lineT; simp
theorem marks_cons (pt : List Pm.St → Tx) (cats : List Tx) (m : Mk) (ms : List Mk) : marksT pt cats (m :: ms) = markT pt cats m ++ marksT pt cats ms := by unfold marksT; rw [List.flatMap_cons]
theorem tail_head (p : Po) : ∃ u, tailT p = 116 :: u := ⟨_, rfl⟩
theorem mark_head (pt : List Pm.St → Tx) (cats : List Tx) (m : Mk) : ∃ u, markT pt cats m = 109 :: u := ⟨_, rfl⟩
theorem lines_eq {w : Tx} {us vs : List Tx} {a b : Tx} (hu : (10 : UInt8) ∉ Cm.flatB us) (hv : (10 : UInt8) ∉ Cm.flatB vs) (h : lineT w us ++ a = lineT w vs ++ b) : Cm.flatB us = Cm.flatB vs ∧ a = b := by
  rw [line_app, line_app] at h
  exact line_eq hu hv (List.append_cancel_left h)
theorem marks_eq {pt : List Pm.St → Tx} {p q : Po} (hp : Good pt p) (hq : Good pt q) {R : Tx} : ∀ (l k : List Mk), (∀ m ∈ l, m ∈ q.marks) → (∀ m ∈ k, m ∈ p.marks) → marksT pt q.cats l ++ (tailT q ++ R) = marksT pt p.cats k ++ tailT p → tailT q ++ R = tailT p
  | [], [], _, _, h => h
  | [], m :: k, _, _, h => by
    obtain ⟨u, e⟩ := tail_head q
    obtain ⟨v, g⟩ := mark_head pt p.cats m
    rw [marks_cons, e, g] at h
    simp [marksT] at h
  | m :: l, [], _, _, h => by
    obtain ⟨u, e⟩ := tail_head p
    obtain ⟨v, g⟩ := mark_head pt q.cats m
    rw [marks_cons, e, g] at h
    simp [marksT] at h
  | m :: l, n :: k, hl, hk, h => by
    rw [marks_cons, marks_cons, List.append_assoc, List.append_assoc] at h
    obtain ⟨_, h2⟩ := lines_eq (hq.mark (hl m (by simp))) (hp.mark (hk n (by simp))) h
    exact marks_eq hp hq l k (fun x hx => hl x (by simp [hx])) (fun x hx => hk x (by simp [hx])) h2
/-- No text of a policy begins another one. -/
theorem uniq {pt : List Pm.St → Tx} {p q : Po} (hp : Good pt p) (hq : Good pt q) {R : Tx} (h : printT pt q ++ R = printT pt p) : R = [] := by
  unfold printT at h
  rw [List.append_assoc, List.append_assoc] at h
  obtain ⟨_, h1⟩ := lines_eq (flat_no (by decide) (fun x hx => (hq.names x hx).1)) (flat_no (by decide) (fun x hx => (hp.names x hx).1)) h
  have h2 := marks_eq hp hq q.marks p.marks (fun _ h => h) (fun _ h => h) h1
  unfold tailT at h2
  rw [List.append_assoc, List.append_assoc] at h2
  obtain ⟨_, h3⟩ := lines_eq (flat_one (by decide) hq.token) (flat_one (by decide) hp.token) h2
  obtain ⟨_, h4⟩ := lines_eq (flat_one (by decide) hq.fuel) (flat_one (by decide) hp.fuel) h3
  have h5 : lineT wQuota [Lib.itoa q.quota] ++ R = lineT wQuota [Lib.itoa p.quota] ++ [] := by rw [List.append_nil]; exact h4
  exact (lines_eq (flat_one (by decide) hq.quota) (flat_one (by decide) hp.quota) h5).2

/-! ### numbers -/
theorem digit_ok {d : Nat} (h : d < 10) : (UInt8.ofNat (48 + d)).toNat = 48 + d := by
  rw [UInt8.toNat_ofNat']
  omega
theorem digits_parse : ∀ (n u : Nat), u ≤ n → u < 1000000 → ∀ r, Lib.parseUint10 0 (Lib.decDigits u ++ r) = Lib.parseUint10 u r
  | n, u, hn, hu, r => by
    by_cases h : u < 10
    · rw [Lib.decDigits, dif_pos h, List.singleton_append, Lib.parseUint10, digit_ok h, if_pos (by omega), if_neg (by omega), if_neg (by omega)]
      congr 1; omega
    · rw [Lib.decDigits, dif_neg h, List.append_assoc, List.singleton_append]
      cases n with
      | zero => omega
      | succ n =>
        rw [digits_parse n (u / 10) (by omega) (by omega), Lib.parseUint10, digit_ok (Nat.mod_lt _ (by omega)), if_pos (by omega), if_neg (by omega), if_neg (by omega)]
        congr 1; omega
theorem dec_head (u : Nat) : ∃ c r, Lib.decDigits u = c :: r ∧ 48 ≤ c.toNat ∧ c.toNat ≤ 57 := by
  induction u using Nat.strongRecOn with
  | _ u ih =>
    by_cases h : u < 10
    · rw [Lib.decDigits, dif_pos h]
      exact ⟨_, _, rfl, by rw [digit_ok h]; omega, by rw [digit_ok h]; omega⟩
    · obtain ⟨c, r, e, h1, h2⟩ := ih (u / 10) (by omega)
      rw [Lib.decDigits, dif_neg h, e]
      exact ⟨c, _, rfl, h1, h2⟩
theorem dec_mem (u : Nat) : ∀ c ∈ Lib.decDigits u, 48 ≤ c.toNat ∧ c.toNat ≤ 57 := by
  induction u using Nat.strongRecOn with
  | _ u ih =>
    intro c hc
    by_cases h : u < 10
    · rw [Lib.decDigits, dif_pos h, List.mem_singleton] at hc
      rw [hc, digit_ok h]; omega
    · rw [Lib.decDigits, dif_neg h, List.mem_append, List.mem_singleton] at hc
      rcases hc with hc | hc
      · exact ih (u / 10) (by omega) c hc
      · rw [hc, digit_ok (Nat.mod_lt _ (by omega))]; omega
theorem atoi_itoa {n : Int} (h0 : 0 ≤ n) (h1 : n ≤ 100000) : Lib.atoiAll (Lib.itoa n) = .ok n := by
  obtain ⟨u, rfl⟩ := Int.eq_ofNat_of_zero_le h0
  have e : Lib.itoa (u : Int) = Lib.decDigits u := by unfold Lib.itoa; rw [if_neg (by omega)]; simp
  obtain ⟨c, r, g, c1, c2⟩ := dec_head u
  have hp := digits_parse u u (Nat.le_refl _) (by omega) []
  rw [List.append_nil, Lib.parseUint10] at hp
  rw [e, g] at *
  unfold Lib.atoiAll
  simp only []
  rw [if_neg (by omega)]
  unfold Lib.parseMag
  rw [if_neg (by simp), hp]
  simp only []
  rw [if_neg (by omega), if_neg (by omega), if_neg (by omega)]
theorem itoa_no {n : Int} (h0 : 0 ≤ n) {c : UInt8} (hc : c.toNat < 48) : c ∉ Lib.itoa n := by
  obtain ⟨u, rfl⟩ := Int.eq_ofNat_of_zero_le h0
  have e : Lib.itoa (u : Int) = Lib.decDigits u := by unfold Lib.itoa; rw [if_neg (by omega)]; simp
  rw [e]
  intro g
  have := dec_mem u c g
  omega

/-! ### quotes -/
theorem escB_all : (List.range 256).all (fun n => !(Qm.escB (UInt8.ofNat n)).contains 10) = true := by decide +kernel
theorem escB_no (c : UInt8) : (10 : UInt8) ∉ Qm.escB c := by
  have h := List.all_eq_true.1 escB_all c.toNat (List.mem_range.2 c.toNat_lt)
  rw [UInt8.ofNat_toNat] at h
  intro g
  have : (Qm.escB c).contains 10 = true := List.contains_iff_mem.2 g
  rw [this] at h
  cases h
theorem quote_no {l : Tx} (h : Lib.validD l = true) : (10 : UInt8) ∉ Qm.quoteL l := by
  unfold Qm.quoteL
  rw [Qm.quo_flat l h]
  simp only [List.mem_cons, List.mem_append, List.mem_flatMap, List.not_mem_nil, or_false, not_or, not_exists, not_and]
  exact ⟨by decide, fun c _ g => escB_no c g, by decide⟩

/-! ### what is read -/
theorem index_miss {c : UInt8} : ∀ {x : Tx}, c ∉ x → Lib.index x [c] = -1
  | [], _ => rfl
  | d :: x, h => by
    have hd : ¬ c = d := fun e => h (by simp [e])
    unfold Lib.index
    rw [index_miss (fun g => h (by simp [g]))]
    simp [List.isPrefixOf, hd]
theorem index_hit {c : UInt8} {r : Tx} : ∀ {x : Tx}, c ∉ x → Lib.index (x ++ c :: r) [c] = (x.length : Int)
  | [], _ => by
    rw [List.nil_append]
    unfold Lib.index
    simp [List.isPrefixOf]
  | d :: x, h => by
    have hd : ¬ c = d := fun e => h (by simp [e])
    rw [List.cons_append]
    unfold Lib.index
    rw [index_hit (fun g => h (by simp [g]))]
    have : ¬ ((x.length : Int) = -1) := by omega
    simp [List.isPrefixOf, hd, this]
/-- Texts between blanks, a blank ahead of the first one. -/
theorem split_flat : ∀ (ws : List Tx) (x : Tx) (k : Nat), (∀ y ∈ ws, (32 : UInt8) ∉ y) → (32 : UInt8) ∉ x → ws.length ≤ k → Lib.splitK [32] 0 k (x ++ Cm.flatB ws) = x :: ws
  | [], x, k, _, hx, _ => by
    rw [Cm.flatB_nil, List.append_nil]
    cases k with
    | zero => rfl
    | succ k => unfold Lib.splitK; rw [index_miss hx]; rfl
  | y :: ws, x, k, hw, hx, hk => by
    cases k with
    | zero => simp at hk
    | succ k =>
      have hi := index_hit (r := y ++ Cm.flatB ws) hx
      rw [Cm.flatB_cons]
      unfold Lib.splitK
      rw [hi, if_neg (by rw [beq_iff_eq]; omega), Int.toNat_natCast, Nat.add_zero, List.take_left]
      have hd : List.drop (x.length + ([32] : Tx).length) (x ++ 32 :: (y ++ Cm.flatB ws)) = y ++ Cm.flatB ws := by
        rw [← List.drop_drop, List.drop_left]; rfl
      rw [hd, split_flat ws y k (fun z hz => hw z (by simp [hz])) (hw y (by simp)) (by simpa using hk)]
theorem mark_mask {cats : List Tx} {m : Nat} (hd : cats.Nodup) (hw : ∀ x ∈ cats, Cm.Word x) (hm : m < 2 ^ cats.length) : Cm.maskF cats 0 (Cm.words (32 :: (namesT cats m ++ [32]))) = (m, 0) := by
  have e : namesT cats m ++ [32] = namesT cats m ++ 32 :: [] := rfl
  rw [Cm.words_blank, e, Cm.words_part, Cm.words_nil, List.append_nil]
  unfold namesT
  rw [Cm.words_join (fun x hx => hw x (Cm.selK_mem (Nat.le_refl _) hx)), Cm.maskF_sel hd m _ (Nat.le_refl _), Nat.mod_eq_of_lt hm]
end Go.Proofs.YtnagecbepidfiaaGreatDoor.Pol
/- What is proved here: rows of texts that lie anywhere, empty ones too; what bitsOf, May, Names and Mask of package cats do with such a row, walked; conditions: as each theorem states. -/
namespace Go.Proofs.YtnagecbepidfiaaGreatDoor.Pol
set_option maxRecDepth 100000
open Go.RowKit Go.Maps Go.Proofs.YtnagecbepidfiaaGreatDoor.Nc
set_option linter.unusedVariables false
set_option linter.unusedSimpArgs false

/-- A row of texts that lies from a place of a block on. -/
def RowO (w : World) (g o : Nat) (L : List Tx) : Prop := g < w.heap.size ∧ ∀ i, ∀ h : i < L.length, w.cell? ⟨g, o + i, none⟩ = some (.string ⟨(L[i]'h).toArray⟩)
theorem RowO.step {w w' : World} {g o : Nat} {L : List Tx} (h : RowO w g o L) (hb : Below w.heap.size w w') : RowO w' g o L :=
  ⟨Nat.lt_of_lt_of_le h.1 hb.size, fun i hi => (hb.cell (p := ⟨g, o + i, none⟩) h.1).trans (h.2 i hi)⟩
/-- A row of texts, as a slice has it. -/
def TxIn (w : World) (a : Option Addr) (n : Nat) (L : List Tx) : Prop := L.length = n ∧ (L.length = 0 ∨ ∃ g o, a = some ⟨g, o, none⟩ ∧ RowO w g o L)
theorem TxIn.step {w w' : World} {a : Option Addr} {n : Nat} {L : List Tx} (h : TxIn w a n L) (hb : Below w.heap.size w w') : TxIn w' a n L :=
  ⟨h.1, h.2.imp id fun ⟨g, o, e, r⟩ => ⟨g, o, e, r.step hb⟩⟩
theorem TxIn.get {w : World} {a : Option Addr} {n : Nat} {L : List Tx} (h : TxIn w a n L) (h0 : 0 < n) : ∃ g o, a = some ⟨g, o, none⟩ ∧ RowO w g o L :=
  h.2.resolve_left (by rw [h.1]; omega)

set_option maxRecDepth 100000 in
theorem bitsOf_o (a : Option Addr) (n c : Nat) (L : List Cm.Tx) (hn : L.length = n) (hn2 : n ≤ 1000) (hl : ∀ x ∈ L, x.length ≤ 1000000) (w : World) (hr : TxIn w a n L) :
    Calls Tryz.prog 77 #[.slice a n c] w fun e w' => e = .returned (.map (some w.heap.size)) ∧ Below w.heap.size w w' ∧
      ∃ D, w'.ownsMap Tryz.prog 9 (plainElem (H := Unit) Tryz.prog 37) w.heap.size n D ∧ Cm.BitsAt D L n := by
  have hmm := fun q z w => run_makeMap_hint (P := Tryz.prog) Tryz.underlying111 q z w
  go_enter Tryz.func77, Tryz.ntmps77
  go_wp2
  go_loopw [11] (fun i wr => ∃ k : Nat, k ≤ n ∧ i = .int .i64 (k : Int) ∧ Below w.heap.size w wr ∧ ∃ D, wr.ownsMap Tryz.prog 9 (plainElem (H := Unit) Tryz.prog 37) w.heap.size k D ∧ Cm.BitsAt D L k) (fun i _ => n - (intOf i).toNat)
  case atStart => exact ⟨0, Nat.zero_le _, rfl, (Below.refl _ _).alloc (Nat.le_refl _) _, .map [], World.ownsMap_made _ _ _ _, Cm.BitsAt.start L⟩
  case round =>
    obtain ⟨k, hk, rfl, hB, D, hown, hD⟩ := hrel
    by_cases hlt : k < n
    · obtain ⟨x, hx, hx2, hx3⟩ := txt (L[k]'(by omega))
      obtain ⟨g, o, rfl, hrow⟩ := hr.get (by omega)
      have hc := (hrow.step hB).2 k (by omega)
      rw [hx] at hc
      have hLk : L[k]? = some x.data.toList := by rw [hx2]; exact List.getElem?_eq_getElem (by omega)
      have hxl := hl _ (List.getElem_mem (show k < L.length by omega))
      have hkey : keyOf Tryz.prog 9 (.string x) = some (.string x.data.toList) := WideMaps.keyOf_string_mk Tryz.underlying9 (by unfold maxLen; omega)
      have hownd : wr.drew.ownsMap Tryz.prog 9 (plainElem (H := Unit) Tryz.prog 37) w.heap.size k D := hown
      obtain ⟨c0, hrun, hat, _⟩ := hownd.lookup_int law Tryz.underlying111 Tryz.underlying37 (zero_u64 _) hkey
      have hc0 : c0 = (Cm.valK L k x.data.toList : Int) := by
        have := hat.symm.trans (hD.2.1 x.data.toList)
        injection this with this
        injection this
      subst hc0
      obtain ⟨V, hV⟩ : ∃ V, Cm.valK L k x.data.toList ||| Cm.bitN k = V := ⟨_, rfl⟩
      have hor : bits BinOp.or IntKind.u64 (Cm.valK L k x.data.toList : Int) (Cm.bitN k : Int) = (V : Int) := by rw [← hV]; exact u64_or_nat _ _ (Cm.valK_lt _ _ _) (Cm.bitN_lt _)
      have hVl : V < 18446744073709551616 := by rw [← hV]; exact Nat.or_lt_two_pow (n := 64) (Cm.valK_lt _ _ _) (Cm.bitN_lt _)
      have hD2 := hD.next (hown.tidy law) hLk
      rw [hV] at hD2
      obtain ⟨w2, hup, hown2, hgr⟩ := hownd.update (val := .int .u64 (V : Int)) law Tryz.underlying111 (by unfold maxLen; omega) hkey (plainElem_int Tryz.underlying37 (WalkArith.wf_u64 (by omega)))
      have hB2 : Below w.heap.size w w2 := (hB.drew).grown hgr (Below.drew hB).size (fun j hj => by cases hj; exact Nat.le_refl _)
      clear hr hrow
      clear hD hat hownd hown hV hVl hxl hx hx2 hx3 hLk hkey
      generalize Cm.valK L k x.data.toList = v0 at *
      go_wp2_with fail
      go_region_held3 (fun w' => True) (trivial) (first | (go_at_call 83; refine (bitAt_any k _).mono ?_; rintro e w ⟨rfl, rfl⟩))
      all_goals
        go_wp2
        go_roundw
        case rel => exact ⟨k + 1, hlt, by go_num, hB2, _, hown2, hD2⟩
        case measure => simp [intOf]; omega
    · have : k = n := by omega
      subst this
      go_wp2
      go_ret
      exact ⟨rfl, hB, D, hown, hD⟩
set_option maxRecDepth 100000 in
set_option maxHeartbeats 1000000 in
theorem may_o (a : Option Addr) (n c : Nat) (L : List Cm.Tx) (hn : L.length = n) (hn2 : n ≤ 1000) (hl : ∀ x ∈ L, x.length ≤ 1000000) (q : Nat) (hq : Cm.mayE L = q) (w : World) (hr : TxIn w a n L) :
    Calls Tryz.prog 42 #[.slice a n c] w fun e w' => e = .returned (.int .i64 (q : Int)) ∧ Below w.heap.size w w' := by
  by_cases h64 : 64 < n
  · have hm : Cm.mayE L = 3 := by unfold Cm.mayE; rw [if_pos (by omega)]
    have hq3 := hq.symm.trans hm
    subst hq3
    clear hq hm
    go_enter Tryz.func42, Tryz.ntmps42
    go_wp2
    go_ret
    exact ⟨rfl, Below.refl _ _⟩
  · rw [may_small (by omega)] at hq
    have C := fun W (h : TxIn W a n L) => bitsOf_o a n c L hn hn2 hl W h
    have HQ := hide hq
    clear hq
    go_enter Tryz.func42, Tryz.ntmps42
    go_wp2_with fail
    refine (C _ hr).mono ?_
    rintro e w1 ⟨rfl, hB, D, hown, hD⟩
    obtain ⟨z, hz⟩ : ∃ z, size D = z := ⟨_, rfl⟩
    have hzn := hD.2.2.1
    have hzd := hD.2.2.2
    rw [hz] at hzn hzd
    rw [List.take_of_length_le (by omega)] at hzd
    by_cases hd : L.Nodup
    · have hzz := hzd.2 hd
      subst hzz
      have hlm := fun ty => hown.len Tryz.underlying111 ty
      rw [hz] at hlm
      obtain ⟨w0, hrun, hrg0, hg0, hs0⟩ := hown.range law Tryz.underlying111
      have hB0 : Below w.heap.size w w0 := hB.grown hg0 hB.size (fun j hj => by cases hj)
      obtain ⟨R, hR⟩ : ∃ R, w1.heap.size = R := ⟨_, rfl⟩
      rw [hR] at hrg0 hrun
      have hwR : w.heap.size < R := by rw [← hR]; exact hown.lt
      rw [hz] at hrg0
      clear hzn hzd hB hl hr hs0 hg0 C hR
      go_wp2_with fail
      go_loopw [4] (fun _ wr => ∃ left cnt, wr.ranges Tryz.prog 9 (plainElem (H := Unit) Tryz.prog 37) w.heap.size R z D left cnt ∧ Below w.heap.size w wr ∧ ∀ x, has D (.string x) = true → left (.string x) = false → Cm.nameB x = true) (fun _ wr => wr.rangeLeft w.heap.size R)
      case atStart => exact ⟨_, _, hrg0, hB0, fun x h1 h2 => by rw [h1] at h2; cases h2⟩
      case round =>
        obtain ⟨left, cnt, hrg, hB, hno⟩ := hrel
        rcases hrg.next law 0 with ⟨h0, hl0, hrun⟩ | ⟨key, v, kl, y, w2, cnt2, hkey, hlk, hv, hat, hrun, hrg2, hlt, hgr2, hsz2, hen⟩
        · have hall : L.all Cm.nameB = true := by
            rw [List.all_eq_true]
            intro x hx
            refine hno x ?_ (hl0 _)
            rw [hD.1 x, List.take_of_length_le (by omega)]
            exact decide_eq_true hx
          have hq := unhide HQ
          rw [hall, decide_eq_true hd] at hq
          have HQ2 := hide (show (0 : Nat) = q from hq)
          clear hq hall hl0 hno hD hrg hown HQ
          go_wp2
          go_ret
          exact ⟨by rw [← unhide HQ2]; rfl, hB⟩
        · obtain ⟨x, rfl, rfl, hxl⟩ := keyOf_str Tryz.underlying9 hkey
          obtain ⟨cv, rfl, _, _⟩ := plainElem_int_inv Tryz.underlying37 hv
          obtain ⟨s, hs, hs2, hs3⟩ := txt x
          have hB2 : Below w.heap.size w w2 := hB.grown hgr2 hB.size (fun j hj => by cases hj; omega)
          have hmem : has D (.string x) = true := has_true_of_atKey hat
          cases hnm : Cm.nameB x
          · have C : ∀ W, Calls Tryz.prog 78 #[.string s] W fun e w' => e = .returned (.bool false) ∧ w' = W := fun W => by
              have := mayName_any s W (by unfold maxLen at hxl; omega)
              rwa [hs2, hnm] at this
            have hall : L.all Cm.nameB = false := by
              rw [List.all_eq_false]
              refine ⟨x, ?_, by rw [hnm]; simp⟩
              have := hD.1 x
              rw [hmem] at this
              exact List.mem_of_mem_take (of_decide_eq_true this.symm)
            have hq := unhide HQ
            rw [hall] at hq
            have HQ2 := hide (show (20 : Nat) = q from hq)
            rw [show encStr x = Value.string s from congrArg Value.string hs] at hrun hen
            clear hq hall hno hD hrg hown HQ hrg2 hgr2 hsz2 hat hv hkey hs hs2 hs3 hxl hnm hmem hlk
            go_wp2_with (go_at_call 78; refine (C _).mono ?_; rintro e w ⟨rfl, rfl⟩)
            go_ret
            exact ⟨by rw [← unhide HQ2]; rfl, hB2⟩
          · have C : ∀ W, Calls Tryz.prog 78 #[.string s] W fun e w' => e = .returned (.bool true) ∧ w' = W := fun W => by
              have := mayName_any s W (by unfold maxLen at hxl; omega)
              rwa [hs2, hnm] at this
            have hno2 : ∀ y, has D (.string y) = true → (fun z => left z && !z.sameKey (.string x)) (.string y) = false → Cm.nameB y = true := by
              intro y h1 h2
              cases hly : left (.string y)
              · exact hno y h1 hly
              · have : Lit.sameKey (.string y) (.string x) = true := by simpa [hly] using h2
                have e := WideAt.sameKey_eq this
                injection e with e
                rw [e]; exact hnm
            have hmes : w2.rangeLeft w.heap.size R < wr.rangeLeft w.heap.size R := by rw [hrg2.left_eq, hrg.left_eq]; exact hlt
            rw [show encStr x = Value.string s from congrArg Value.string hs] at hrun hen
            clear hno hrg hown hgr2 hsz2 hat hv hkey hs hs2 hs3 hxl hnm hmem hlk
            go_wp2_with (go_at_call 78; refine (C _).mono ?_; rintro e w ⟨rfl, rfl⟩)
            go_roundw
            case rel => exact ⟨_, _, hrg2, hB2, hno2⟩
            case measure => exact hmes
    · have hzlt : z < n := by
        have : z ≠ n := fun e => hd (hzd.1 e)
        omega
      have hq := unhide HQ
      rw [decide_eq_false hd, Bool.and_false] at hq
      have HQ2 := hide (show (20 : Nat) = q from hq)
      have hlm := fun ty => hown.len Tryz.underlying111 ty
      rw [hz] at hlm
      have d1 : decide ((z : Int) < (n : Int)) = true := decide_eq_true (by omega)
      clear hzn hzd hl hr C hq hown hD hz hd HQ
      go_wp2
      go_ret
      exact ⟨by rw [← unhide HQ2]; rfl, hB⟩
set_option maxRecDepth 100000 in
set_option maxHeartbeats 1000000 in
theorem names_o (a : Option Addr) (n c : Nat) (L : List Cm.Tx) (hn : L.length = n) (hn2 : n ≤ 1000) (hl : ∀ x ∈ L, x.length ≤ 1000) (m : Nat) (hm : m < 18446744073709551616) (u : ByteArray) (hu : Cm.joinB (Cm.selK L m n) = u.data.toList) (w : World) (hr : TxIn w a n L) :
    Calls Tryz.prog 48 #[.slice a n c, .int .u64 (m : Int)] w fun e w' => e = .returned (.string u) ∧ Below w.heap.size w w' := by
  have HU := hide hu
  clear hu
  go_enter Tryz.func48, Tryz.ntmps48
  go_wp2
  go_loopw [6, 11] (fun bt i wr => ∃ (k : Nat) (ws : List Cm.Tx), i = .int .i64 (k : Int) ∧ k ≤ n ∧ ws = Cm.selK L m k ∧ bt = .string (if ws = [] then ⟨#[]⟩ else ⟨#[32]⟩) ∧ Lib.IsBuilderF 81 5 w.heap.size w.heap.size (Lib.byteCells (Cm.joinB ws)) wr ∧ Below w.heap.size w wr) (fun _ i _ => n - (intOf i).toNat)
  case atStart => exact ⟨0, [], rfl, by omega, rfl, rfl, Lib.IsBuilderF.of (Lib.fresh_isBuilder 81 5 w), (Below.refl _ w).alloc (Nat.le_refl _) _⟩
  case round =>
    obtain ⟨k, ws, rfl, hk, hws, rfl, hI, hB⟩ := hrel
    have hlw : w.heap.size < wr.heap.size := by rcases hI with h | h <;> exact h.lt
    obtain ⟨sp, hsp⟩ : ∃ sp : ByteArray, (if ws = [] then (⟨#[]⟩ : ByteArray) else ⟨#[32]⟩) = sp := ⟨_, rfl⟩
    rw [hsp]
    have HSP := hide hsp
    by_cases hlt : k < n
    · obtain ⟨x, hx, hx2, hx3⟩ := txt (L[k]'(by omega))
      obtain ⟨g, o, rfl, hrow⟩ := hr.get (by omega)
      have hc := (hrow.step hB).2 k (by omega)
      rw [hx] at hc
      have hxl := hl _ (List.getElem_mem (show k < L.length by omega))
      have hjl := Cm.names_len (m := m) (k := k) (by omega) hl
      rw [← hws] at hjl
      have hand : bits BinOp.and IntKind.u64 (m : Int) (Cm.bitN k : Int) = ((m &&& Cm.bitN k : Nat) : Int) := u64_and_nat _ _ hm (Cm.bitN_lt _)
      clear hr hrow
      cases hbit : m.testBit k
      · have h0 := (Cm.bit_zero hm).2 hbit
        have hz : (bits BinOp.and IntKind.u64 (m : Int) (Cm.bitN k : Int) == 0) = true := by rw [hand, h0]; rfl
        have hws2 : ws = Cm.selK L m (k + 1) := by rw [Cm.selK_no hbit]; exact hws
        have HWS := hide hws2
        clear hand hbit h0 hws hws2 hx hx2 hx3 hxl hjl hsp
        go_wp2_with (go_at_call 83; refine (bitAt_any k _).mono ?_; rintro e wr ⟨rfl, rfl⟩)
        go_roundw
        case rel => exact ⟨k + 1, ws, by go_num, hlt, unhide HWS, by rw [unhide HSP], hI, hB⟩
        case measure => simp [intOf]; omega
      · have h0 : ¬ (m &&& Cm.bitN k = 0) := fun h => by have := (Cm.bit_zero hm).1 h; rw [hbit] at this; cases this
        have hz : (bits BinOp.and IntKind.u64 (m : Int) (Cm.bitN k : Int) == 0) = false := by rw [hand]; exact beq_eq_false_iff_ne.2 (by omega)
        have hws2 : ws ++ [x.data.toList] = Cm.selK L m (k + 1) := by rw [Cm.selK_yes (by omega) hbit, ← hws, hx2]
        have hsp2 : sp.data.toList = if ws = [] then [] else [32] := by rw [← hsp]; split <;> rfl
        have hjs := Cm.joinB_snoc ws x.data.toList
        rw [← hsp2] at hjs
        have hb1 : (Lib.byteCells (Cm.joinB ws)).length + sp.size ≤ 1002001 := by
          have : sp.size ≤ 1 := by rw [← hsp]; split <;> decide
          rw [Lib.byteCells_length]
          have := Nat.mul_le_mul_right 1001 (show k ≤ 1000 by omega)
          omega
        have hb2 : (Lib.byteCells (Cm.joinB ws) ++ Lib.strCells sp).length + x.size ≤ 2000000 := by
          rw [List.length_append, Lib.strCells_length]
          omega
        have hcs : Lib.byteCells (Cm.joinB ws) ++ Lib.strCells sp ++ Lib.strCells x = Lib.byteCells (Cm.joinB (ws ++ [x.data.toList])) := by
          rw [hjs, strCells_is, strCells_is, Lib.byteCells_append, Lib.byteCells_append, List.append_assoc]
        have HB1 := hide hb1
        have HB2 := hide hb2
        have HWS := hide hws2
        have HCS := hide hcs
        clear hand hbit h0 hws hws2 hx hx2 hx3 hxl hjl hb1 hb2 hjs hsp hsp2 hcs
        go_wp2_with (go_at_call 83; refine (bitAt_any k _).mono ?_; rintro e wr ⟨rfl, rfl⟩)
        refine (Tryz.Builder_WriteString_k w.heap.size w.heap.size _ _ _ hI (by have := unhide HB1; omega) (Nat.le_of_lt hlw)).mono ?_
        rintro e w2 ⟨rfl, i2, b2, k2⟩
        have hl2 := Nat.le_of_lt (Nat.lt_of_lt_of_le hlw b2.size)
        replace hB := hB.trans b2
        go_wp2_with fail
        refine (Tryz.Builder_WriteString_k w.heap.size w.heap.size _ _ _ (.inr i2) (by have := unhide HB2; omega) hl2).mono ?_
        rintro e w3 ⟨rfl, i3, b3, k3⟩
        replace hB := hB.trans b3
        rw [unhide HCS] at i3
        go_wp2
        go_roundw
        case rel => exact ⟨k + 1, _, by go_num, hlt, unhide HWS, by rw [if_neg (by simp)], .inr i3, hB⟩
        case measure => simp [intOf]; omega
    · have hkn : k = n := by omega
      rw [hkn] at hws
      have hu := unhide HU
      rw [← hws] at hu
      rw [hu] at hI
      clear hws hu HU hkn hsp HSP
      go_wp2_with fail
      refine (Tryz.Builder_String_any_k w.heap.size w.heap.size _ _ hI (Nat.le_of_lt hlw)).mono ?_
      rintro e w3 ⟨rfl, i3, b3, k3⟩
      go_wp2
      go_ret
      exact ⟨rfl, hB.trans b3⟩
/-- The mask of a row of names, and the error, also where two names are one. -/
def maskG (L : List Tx) : Nat → List Tx → Nat × Nat
  | m, [] => (m, 0)
  | m, x :: r => if x ∈ L then maskG L (m ||| Cm.valK L L.length x) r else (0, 20)
theorem maskG_is {L : List Tx} (hd : L.Nodup) (hn : L.length ≤ 64) : ∀ (ws : List Tx) (m : Nat), maskG L m ws = Cm.maskF L m ws
  | [], m => rfl
  | x :: r, m => by
    rcases bits_idx (n := L.length) rfl hn hd x with ⟨hno, hi⟩ | ⟨i, hi, hmem, hval, hpl⟩
    · rw [Cm.maskF_miss _ _ hi, maskG, if_neg hno]
    · rw [Cm.maskF_hit _ _ hi, maskG, if_pos hmem, hval, maskG_is hd hn]

set_option maxRecDepth 100000 in
set_option maxHeartbeats 2000000 in
theorem mask_o (ad : Option Addr) (n c : Nat) (L : List Cm.Tx) (hn : L.length = n) (hn2 : n ≤ 1000) (hl : ∀ x ∈ L, x.length ≤ 1000000) (s : ByteArray) (hs : s.size ≤ 9223372036854775806) (q e0 : Nat) (hq : maskG L 0 (Cm.words s.data.toList) = (q, e0)) (w : World) (hr : TxIn w ad n L) :
    Calls Tryz.prog 101 #[.slice ad n c, .string s] w fun e w' => e = .returned (.tuple #[.int .u64 (q : Int), .int .i64 (e0 : Int)]) ∧ Below w.heap.size w w' := by
  have C := fun W (h : TxIn W ad n L) => bitsOf_o ad n c L hn (by omega) hl W h
  go_enter Tryz.func101, Tryz.ntmps101
  go_wp2_with fail
  refine (C _ hr).mono ?_
  rintro e w1 ⟨rfl, hB1, D, hown1, hD⟩
  clear C
  have hDh : ∀ x, has D (.string x) = decide (x ∈ L) := fun x => by rw [hD.1 x, List.take_of_length_le (by omega)]
  have hDv := hD.2.1
  clear hD
  go_wp2_with fail
  go_loopw [1, 7] (fun sv mv wr => ∃ (t : ByteArray) (m : Nat), sv = .string t ∧ mv = .int .u64 (m : Int) ∧ m < 18446744073709551616 ∧ t.size ≤ s.size ∧ maskG L m (Cm.words t.data.toList) = (q, e0) ∧ wr.ownsMap Tryz.prog 9 (plainElem (H := Unit) Tryz.prog 37) w.heap.size n D ∧ Below w.heap.size w wr) (fun sv _ _ => match sv with | .string t => t.size | _ => 0)
  case atStart => exact ⟨s, 0, rfl, rfl, by omega, Nat.le_refl _, hq, hown1, hB1⟩
  case round =>
    obtain ⟨t, m, rfl, rfl, hm, hts, hF, hown, hB⟩ := hrel
    by_cases h0 : t.size = 0
    · have hz := empty_yes h0
      have htn : t.data.toList = [] := List.eq_nil_of_length_eq_zero (by rw [len_size]; exact h0)
      rw [htn, Cm.words_nil, maskG] at hF
      have hqm : m = q := congrArg Prod.fst hF
      have he0 : 0 = e0 := congrArg Prod.snd hF
      subst hqm
      subst he0
      clear hF htn h0 hq
      go_wp2
      go_ret2
      exact ⟨rfl, hB⟩
    · have hz := empty_no h0
      obtain ⟨a, r, b, CC, hw, hrs, has2⟩ := cut_ex t (by omega) h0
      by_cases ha0 : a.size = 0
      · have hza := empty_yes ha0
        have han : a.data.toList = [] := List.eq_nil_of_length_eq_zero (by rw [len_size]; exact ha0)
        rw [hw, han, if_pos rfl, List.nil_append] at hF
        have HF := hide hF
        have hrs2 : r.size ≤ s.size := by omega
        clear hw hF han ha0 h0
        go_wp2_with fail
        refine (CC _).mono ?_
        rintro e w2 ⟨rfl, j, rfl⟩
        have hown2 := ownsMap_drewN hown j
        have hB2 := Go.below_drewN hB j
        clear CC hown hB
        go_wp2
        go_roundw
        case rel => exact ⟨r, m, rfl, rfl, hm, hrs2, unhide HF, hown2, hB2⟩
        case measure => exact hrs
      · have hza := empty_no ha0
        have han : a.data.toList ≠ [] := fun e => ha0 (by have := congrArg List.length e; rwa [len_size] at this)
        rw [hw, if_neg han, List.singleton_append] at hF
        have hkey : keyOf Tryz.prog 9 (.string a) = some (.string a.data.toList) := WideMaps.keyOf_string_mk Tryz.underlying9 (by unfold maxLen; omega)
        by_cases hmem : a.data.toList ∈ L
        case neg =>
          have hno := hmem
          rw [maskG, if_neg hno] at hF
          have hqm : 0 = q := congrArg Prod.fst hF
          have he0 : 20 = e0 := congrArg Prod.snd hF
          subst hqm
          subst he0
          have hha := hDh a.data.toList
          rw [decide_eq_false hno] at hha
          clear hF hw hno hmem han ha0 h0 hq
          go_wp2_with fail
          refine (CC _).mono ?_
          rintro e w2 ⟨rfl, j, rfl⟩
          have hown2 := ownsMap_drewN hown j
          have hB2 := Go.below_drewN hB j
          obtain ⟨v, ps, hrun, hv⟩ := hown2.look_ok law Tryz.underlying111 (zero_u64 _) (plainElem_int Tryz.underlying37 (by decide)) hkey
          rw [hha] at hrun
          obtain ⟨cv, rfl, _, _⟩ := plainElem_int_inv Tryz.underlying37 hv
          clear CC hown hB hv hha hown2 hkey hDh hDv
          go_wp2
          go_ret2
          exact ⟨rfl, hB2⟩
        case pos =>
          rw [maskG, if_pos hmem] at hF
          have hha := hDh a.data.toList
          rw [decide_eq_true hmem] at hha
          have hva := hDv a.data.toList
          have hpl := Cm.valK_lt L a.data.toList L.length
          obtain ⟨p, hp⟩ : ∃ p, Cm.valK L L.length a.data.toList = p := ⟨_, rfl⟩
          rw [← hn, hp] at hva
          rw [hp] at hF hpl
          have hor : bits BinOp.or IntKind.u64 (m : Int) (p : Int) = ((m ||| p : Nat) : Int) := u64_or_nat _ _ hm hpl
          have hm2 : m ||| p < 18446744073709551616 := Nat.or_lt_two_pow (n := 64) hm hpl
          generalize m ||| p = m2 at hor hm2 hF
          have HF := hide hF
          have hrs2 : r.size ≤ s.size := by omega
          clear hF hw han ha0 h0 hp hmem
          go_wp2_with fail
          refine (CC _).mono ?_
          rintro e w2 ⟨rfl, j, rfl⟩
          have hown2 := ownsMap_drewN hown j
          have hB2 := Go.below_drewN hB j
          obtain ⟨v, ps, hrun, hv⟩ := hown2.look_ok law Tryz.underlying111 (zero_u64 _) (plainElem_int Tryz.underlying37 (by decide)) hkey
          rw [hha] at hrun
          rw [hva] at hv
          obtain ⟨cv, rfl, hcv, _⟩ := plainElem_int_inv Tryz.underlying37 hv
          obtain rfl : cv = (p : Int) := by
            have := congrArg Prod.fst hcv
            simp only at this
            injection this with this
            injection this with _ this
            exact this.symm
          clear CC hown hB hv hha hkey hva hcv
          go_wp2
          go_roundw
          case rel => exact ⟨r, m2, rfl, rfl, hm2, hrs2, unhide HF, hown2, hB2⟩
          case measure => exact hrs
end Go.Proofs.YtnagecbepidfiaaGreatDoor.Pol
/- What is proved here: contracts of Go's library functions at this translation, each one application of the library's; conditions: as each theorem states. -/
namespace Go.Proofs
open Go.Shelf
def Tryz.laysS_ren : Go.Shelf.Ren := ⟨fun | 138 => 143 | 143 => 100 | 147 => 98 | 195 => 162 | 197 => 134 | 217 => 144 | 218 => 163 | 219 => 129 | 221 => 127 | 224 => 146 | 225 => 145 | 260 => 150 | 266 => 164 | 267 => 147 | 268 => 142 | 314 => 165 | n => n, fun | 0 => 0 | 3 => 3 | 4 => 4 | 5 => 5 | 9 => 9 | 21 => 21 | 31 => 22 | 46 => 140 | 51 => 160 | 105 => 130 | 119 => 136 | 138 => 138 | 139 => 139 | 146 => 171 | n => n, fun | 1 => 2 | 3 => 0 | 4 => 1 | n => n⟩
theorem Tryz.laysS_Lays_221 : Go.Proofs.Lays.n221 Tryz.prog Tryz.laysS_ren := {
  mixed := by kernel_rfl
  f138 := Tryz.func143.trans (congrArg some (by kernel_rfl))
  f143 := Tryz.func100.trans (congrArg some (by kernel_rfl))
  f195 := Tryz.func162.trans (congrArg some (by kernel_rfl))
  f197 := Tryz.func134.trans (congrArg some (by kernel_rfl))
  f217 := Tryz.func144.trans (congrArg some (by kernel_rfl))
  f218 := Tryz.func163.trans (congrArg some (by kernel_rfl))
  f219 := Tryz.func129.trans (congrArg some (by kernel_rfl))
  f221 := Tryz.func127.trans (congrArg some (by kernel_rfl))
  f224 := Tryz.func146.trans (congrArg some (by kernel_rfl))
  f225 := Tryz.func145.trans (congrArg some (by kernel_rfl))
  f260 := Tryz.func150.trans (congrArg some (by kernel_rfl))
  f266 := Tryz.func164.trans (congrArg some (by kernel_rfl))
  f267 := Tryz.func147.trans (congrArg some (by kernel_rfl))
  f268 := Tryz.func142.trans (congrArg some (by kernel_rfl))
  f314 := Tryz.func165.trans (congrArg some (by kernel_rfl))
  t0 := Tryz.underlying0
  a0 := Tryz.isAgg0
  z0 := Tryz.sizeOf0
  v0 := Tryz.zeroValue0
  t3 := Tryz.underlying3
  a3 := Tryz.isAgg3
  z3 := Tryz.sizeOf3
  v3 := Tryz.zeroValue3
  t4 := Tryz.underlying4
  a4 := Tryz.isAgg4
  z4 := Tryz.sizeOf4
  v4 := Tryz.zeroValue4
  t5 := Tryz.underlying5
  a5 := Tryz.isAgg5
  z5 := Tryz.sizeOf5
  v5 := Tryz.zeroValue5
  t9 := Tryz.underlying9
  a9 := Tryz.isAgg9
  z9 := Tryz.sizeOf9
  v9 := Tryz.zeroValue9
  t21 := Tryz.underlying21
  a21 := Tryz.isAgg21
  z21 := Tryz.sizeOf21
  v21 := Tryz.zeroValue21
  t31 := Tryz.underlying22
  a31 := Tryz.isAgg22
  z31 := Tryz.sizeOf22
  v31 := Tryz.zeroValue22
  t46 := Tryz.underlying140
  a46 := Tryz.isAgg140
  z46 := Tryz.sizeOf140
  v46 := Tryz.zeroValue140
  t51 := Tryz.underlying160
  a51 := Tryz.isAgg160
  z51 := Tryz.sizeOf160
  v51 := Tryz.zeroValue160
  t105 := Tryz.underlying130
  a105 := Tryz.isAgg130
  z105 := Tryz.sizeOf130
  v105 := Tryz.zeroValue130
  t119 := Tryz.underlying136
  a119 := Tryz.isAgg136
  z119 := Tryz.sizeOf136
  t138 := Tryz.underlying138
  a138 := Tryz.isAgg138
  z138 := Tryz.sizeOf138
  v138 := Tryz.zeroValue138
  t139 := Tryz.underlying139
  a139 := Tryz.isAgg139
  z139 := Tryz.sizeOf139
  v139 := Tryz.zeroValue139
  t146 := Tryz.underlying171
  a146 := Tryz.isAgg171
  z146 := Tryz.sizeOf171
  v146 := Tryz.zeroValue171
  g1 := by kernel_rfl
  g3 := by kernel_rfl
  g4 := by kernel_rfl }
theorem Tryz.laysS_Lays_138 : Go.Proofs.Lays.n138 Tryz.prog Tryz.laysS_ren := {
  mixed := by kernel_rfl
  f138 := Tryz.func143.trans (congrArg some (by kernel_rfl))
  f143 := Tryz.func100.trans (congrArg some (by kernel_rfl))
  f195 := Tryz.func162.trans (congrArg some (by kernel_rfl))
  f217 := Tryz.func144.trans (congrArg some (by kernel_rfl))
  f218 := Tryz.func163.trans (congrArg some (by kernel_rfl))
  f219 := Tryz.func129.trans (congrArg some (by kernel_rfl))
  f224 := Tryz.func146.trans (congrArg some (by kernel_rfl))
  f225 := Tryz.func145.trans (congrArg some (by kernel_rfl))
  f266 := Tryz.func164.trans (congrArg some (by kernel_rfl))
  f267 := Tryz.func147.trans (congrArg some (by kernel_rfl))
  f314 := Tryz.func165.trans (congrArg some (by kernel_rfl))
  t0 := Tryz.underlying0
  a0 := Tryz.isAgg0
  z0 := Tryz.sizeOf0
  v0 := Tryz.zeroValue0
  t3 := Tryz.underlying3
  a3 := Tryz.isAgg3
  z3 := Tryz.sizeOf3
  v3 := Tryz.zeroValue3
  t4 := Tryz.underlying4
  a4 := Tryz.isAgg4
  z4 := Tryz.sizeOf4
  v4 := Tryz.zeroValue4
  t5 := Tryz.underlying5
  a5 := Tryz.isAgg5
  z5 := Tryz.sizeOf5
  v5 := Tryz.zeroValue5
  t9 := Tryz.underlying9
  a9 := Tryz.isAgg9
  z9 := Tryz.sizeOf9
  v9 := Tryz.zeroValue9
  t46 := Tryz.underlying140
  a46 := Tryz.isAgg140
  z46 := Tryz.sizeOf140
  v46 := Tryz.zeroValue140
  t51 := Tryz.underlying160
  a51 := Tryz.isAgg160
  z51 := Tryz.sizeOf160
  v51 := Tryz.zeroValue160
  t146 := Tryz.underlying171
  a146 := Tryz.isAgg171
  z146 := Tryz.sizeOf171
  v146 := Tryz.zeroValue171
  g1 := by kernel_rfl }
namespace YtnagecbepidfiaaGreatDoor.Pol
set_option maxRecDepth 100000
open Go.RowKit
theorem info9s : (Tryz.prog.info? (Tryz.laysS_ren.t 9)).map (fun i => (i.zero, i.size, i.bytes)) = some (some (.string ByteArray.empty), 1, 16) := by kernel_rfl
theorem ib_miss {c : UInt8} {l : List UInt8} (h : c ∉ l) : Lib.indexByte l c = -1 := by
  induction l with
  | nil => rfl
  | cons b l ih =>
    unfold Lib.indexByte
    rw [if_neg (by intro e; exact h (by rw [eq_of_beq e]; exact List.mem_cons_self)), ih (fun e => h (List.mem_cons_of_mem _ e))]
    rfl
theorem ib_hit {c : UInt8} {a r : List UInt8} (h : c ∉ a) : Lib.indexByte (a ++ c :: r) c = (a.length : Int) := by
  induction a with
  | nil => simp [Lib.indexByte]
  | cons b l ih =>
    rw [List.cons_append]
    unfold Lib.indexByte
    rw [if_neg (by intro e; exact h (by rw [eq_of_beq e]; exact List.mem_cons_self)), ih (fun e => h (List.mem_cons_of_mem _ e)), if_neg (by rw [beq_iff_eq]; omega), List.length_cons]
    omega
theorem ib_is (c : UInt8) : ∀ l : List UInt8, Lib.indexByte l c = Lib.index l [c]
  | [] => rfl
  | b :: l => by
    unfold Lib.indexByte Lib.index
    rw [ib_is c l]
    have : ([c] : List UInt8).isPrefixOf (b :: l) = (b == c) := by
      rw [Bool.eq_iff_iff, beq_iff_eq]
      simp only [List.isPrefixOf, Bool.and_true, beq_iff_eq]
      exact eq_comm
    rw [this]
theorem ibw_10 (s : ByteArray) (w : World) : Calls Tryz.prog 144 #[.string s, .int .u8 10] w fun e w' => e = .returned (.int .i64 (Lib.indexByte s.data.toList 10)) ∧ w' = w := by
  go_enter Tryz.func144, Tryz.ntmps144
  go_wp2
  rw [run_callFunc_extern Tryz.func164 (by kernel_rfl) (by kernel_rfl) (by kernel_rfl) (e := Extern.BytealgIndexByte.indexByte) (by kernel_rfl), Lib.run_indexByteString]
  simp only [Result.andThen]
  rw [Oper.upon_value]
  go_wp2
  go_ret
  exact ⟨rfl, rfl⟩
theorem idx_10 (s : ByteArray) (n : Int) (hn : Lib.indexByte s.data.toList 10 = n) (w : World) : Calls Tryz.prog 129 #[.string s, .string ⟨#[10]⟩] w fun e w' => e = .returned (.int .i64 n) ∧ w' = w := by
  have C : ∀ W, Calls Tryz.prog 144 #[.string s, .int .u8 10] W fun e w' => e = .returned (.int .i64 n) ∧ w' = W := fun W => hn ▸ ibw_10 s W
  by_cases h : s.toList = [10]
  · have hb : ([10] == s.toList) = true := by rw [h]; rfl
    have h0 : n = 0 := by rw [← hn, ← ByteArray.toList_eq, h]; rfl
    subst h0
    clear hn h
    go_enter Tryz.func129, Tryz.ntmps129
    go_wp2_with fail
    go_ret
    exact ⟨rfl, rfl⟩
  · have hb : ([10] == s.toList) = false := by rw [← Bool.not_eq_true]; intro e; exact h (eq_of_beq e).symm
    clear hn h
    go_enter Tryz.func129, Tryz.ntmps129
    go_wp2_with fail
    refine (C _).mono ?_
    rintro e w ⟨rfl, rfl⟩
    go_wp2_with fail
    go_ret
    exact ⟨rfl, rfl⟩
theorem ibw_32 (s : ByteArray) (w : World) : Calls Tryz.prog 144 #[.string s, .int .u8 32] w fun e w' => e = .returned (.int .i64 (Lib.indexByte s.data.toList 32)) ∧ w' = w := by
  go_enter Tryz.func144, Tryz.ntmps144
  go_wp2
  rw [run_callFunc_extern Tryz.func164 (by kernel_rfl) (by kernel_rfl) (by kernel_rfl) (e := Extern.BytealgIndexByte.indexByte) (by kernel_rfl), Lib.run_indexByteString]
  simp only [Result.andThen]
  rw [Oper.upon_value]
  go_wp2
  go_ret
  exact ⟨rfl, rfl⟩
theorem idx_32 (s : ByteArray) (n : Int) (hn : Lib.indexByte s.data.toList 32 = n) (w : World) : Calls Tryz.prog 129 #[.string s, .string ⟨#[32]⟩] w fun e w' => e = .returned (.int .i64 n) ∧ w' = w := by
  have C : ∀ W, Calls Tryz.prog 144 #[.string s, .int .u8 32] W fun e w' => e = .returned (.int .i64 n) ∧ w' = W := fun W => hn ▸ ibw_32 s W
  by_cases h : s.toList = [32]
  · have hb : ([32] == s.toList) = true := by rw [h]; rfl
    have h0 : n = 0 := by rw [← hn, ← ByteArray.toList_eq, h]; rfl
    subst h0
    clear hn h
    go_enter Tryz.func129, Tryz.ntmps129
    go_wp2_with fail
    go_ret
    exact ⟨rfl, rfl⟩
  · have hb : ([32] == s.toList) = false := by rw [← Bool.not_eq_true]; intro e; exact h (eq_of_beq e).symm
    clear hn h
    go_enter Tryz.func129, Tryz.ntmps129
    go_wp2_with fail
    refine (C _).mono ?_
    rintro e w ⟨rfl, rfl⟩
    go_wp2_with fail
    go_ret
    exact ⟨rfl, rfl⟩
theorem sidx_32 (s : ByteArray) (n : Int) (hn : Lib.indexByte s.data.toList 32 = n) (w : World) : Calls Tryz.prog 100 #[.string s, .string ⟨#[32]⟩] w fun e w' => e = .returned (.int .i64 n) ∧ w' = w := by
  have C := fun W => idx_32 s n hn W
  clear hn
  go_enter Tryz.func100, Tryz.ntmps100
  go_wp2_with fail
  refine (C _).mono ?_
  rintro e w ⟨rfl, rfl⟩
  go_wp2
  go_ret
  exact ⟨rfl, rfl⟩
theorem ibw_36 (s : ByteArray) (w : World) : Calls Tryz.prog 144 #[.string s, .int .u8 36] w fun e w' => e = .returned (.int .i64 (Lib.indexByte s.data.toList 36)) ∧ w' = w := by
  go_enter Tryz.func144, Tryz.ntmps144
  go_wp2
  rw [run_callFunc_extern Tryz.func164 (by kernel_rfl) (by kernel_rfl) (by kernel_rfl) (e := Extern.BytealgIndexByte.indexByte) (by kernel_rfl), Lib.run_indexByteString]
  simp only [Result.andThen]
  rw [Oper.upon_value]
  go_wp2
  go_ret
  exact ⟨rfl, rfl⟩
theorem idx_36 (s : ByteArray) (n : Int) (hn : Lib.indexByte s.data.toList 36 = n) (w : World) : Calls Tryz.prog 129 #[.string s, .string ⟨#[36]⟩] w fun e w' => e = .returned (.int .i64 n) ∧ w' = w := by
  have C : ∀ W, Calls Tryz.prog 144 #[.string s, .int .u8 36] W fun e w' => e = .returned (.int .i64 n) ∧ w' = W := fun W => hn ▸ ibw_36 s W
  by_cases h : s.toList = [36]
  · have hb : ([36] == s.toList) = true := by rw [h]; rfl
    have h0 : n = 0 := by rw [← hn, ← ByteArray.toList_eq, h]; rfl
    subst h0
    clear hn h
    go_enter Tryz.func129, Tryz.ntmps129
    go_wp2_with fail
    go_ret
    exact ⟨rfl, rfl⟩
  · have hb : ([36] == s.toList) = false := by rw [← Bool.not_eq_true]; intro e; exact h (eq_of_beq e).symm
    clear hn h
    go_enter Tryz.func129, Tryz.ntmps129
    go_wp2_with fail
    refine (C _).mono ?_
    rintro e w ⟨rfl, rfl⟩
    go_wp2_with fail
    go_ret
    exact ⟨rfl, rfl⟩
theorem sidx_36 (s : ByteArray) (n : Int) (hn : Lib.indexByte s.data.toList 36 = n) (w : World) : Calls Tryz.prog 100 #[.string s, .string ⟨#[36]⟩] w fun e w' => e = .returned (.int .i64 n) ∧ w' = w := by
  have C := fun W => idx_36 s n hn W
  clear hn
  go_enter Tryz.func100, Tryz.ntmps100
  go_wp2_with fail
  refine (C _).mono ?_
  rintro e w ⟨rfl, rfl⟩
  go_wp2
  go_ret
  exact ⟨rfl, rfl⟩
/-- strings.SplitN at a blank, into at most 65. -/
theorem splitN_any (s : ByteArray) (N : Nat) (hs : s.size ≤ 1000000) (hN : min 65 (s.size + 1) = N) (L : List ByteArray) (hL : Lib.splitB ⟨#[32]⟩ 0 (N - 1) s = L) (k : Nat) (hk : L.length = k) (w : World) :
    Calls Tryz.prog 98 #[.string s, .string ⟨#[32]⟩, .int .i64 65] w fun e w' => e = .returned (.slice (some ⟨w.heap.size, 0, none⟩) k N) ∧ w' = w.alloc (.cells (Lib.cellsOf L N) 9) := by
  have C : ∀ W, Calls Tryz.prog 127 #[.string s, .string ⟨#[32]⟩, .int .i64 0, .int .i64 65] W fun e w' => e = .returned (.slice (some ⟨W.heap.size, 0, none⟩) k N) ∧ w' = W.alloc (.cells (Lib.cellsOf L N) 9) := fun W => by
    have c := Any.strings_genSplit_core Tryz.laysS_Lays_221 info9s s ⟨#[32]⟩ 0 65 N W (by omega) (by decide) (by omega)
      (fun x c hx => by
        refine (sidx_32 x _ rfl _).mono ?_
        rintro e w' ⟨rfl, rfl⟩
        refine ⟨?_, rfl⟩
        rw [ib_is])
      (by
        refine (Any.strings_Count_one Tryz.laysS_Lays_138 s 32 W).mono ?_
        rintro e w' ⟨rfl, rfl⟩
        refine ⟨?_, rfl⟩
        show _ = Ending.returned (Value.int .i64 ((Lib.count s.data.toList [32] : Nat) : Int))
        rw [Lib.count_one]
        rfl)
      (by decide) (by decide) (by rw [if_neg (by decide), ← hN]; omega)
    rw [hL, hk] at c
    exact c
  clear hN hL hk hs
  go_enter Tryz.func98, Tryz.ntmps98
  go_wp2_with fail
  refine (C _).mono ?_
  rintro e w ⟨rfl, rfl⟩
  go_wp2
  go_ret
  exact ⟨rfl, rfl⟩
end YtnagecbepidfiaaGreatDoor.Pol
end Go.Proofs
/- What is proved here: what the functions of package policy that go through a text line by line do, walked; conditions: as each theorem states. -/
namespace Go.Proofs.YtnagecbepidfiaaGreatDoor.Pol
set_option maxRecDepth 100000
open Go.RowKit Go.Proofs.YtnagecbepidfiaaGreatDoor.Nc Go.Proofs.YtnagecbepidfiaaGreatDoor.Np Go.Proofs.YtnagecbepidfiaaGreatDoor.Nq
set_option linter.unusedVariables false
set_option linter.unusedSimpArgs false

theorem cutMiss_liteN (s : ByteArray) (w : World) (h : (10 : UInt8) ∉ s.data.toList) :
    Calls Tryz.prog 125 #[.string s, .string ⟨#[10]⟩] w fun e w' => e = .returned (.tuple #[.string s, .string ⟨#[]⟩, .bool false]) ∧ ∃ n, w' = w.drewN n := by
  have C := idx_10 s (-1) (ib_miss h)
  clear h
  go_enter Tryz.func125, Tryz.ntmps125
  go_wp2_with fail
  refine (C _).mono ?_
  rintro e w ⟨rfl, rfl⟩
  go_wp2
  go_ret3
  exact ⟨rfl, 0, rfl⟩
theorem cut_partsN {s a r : ByteArray} (h : s.data.toList = a.data.toList ++ 10 :: r.data.toList) : s.size = a.size + 1 + r.size ∧ s.extract 0 a.size = a ∧ s.extract (a.size + 1) s.size = r := by
  have h1 : s.size = a.size + 1 + r.size := by
    have := congrArg List.length h
    rw [List.length_append, List.length_cons, Array.length_toList, Array.length_toList, Array.length_toList] at this
    show s.data.size = a.data.size + 1 + r.data.size
    omega
  have ext : ∀ {x y : ByteArray}, x.data.toList = y.data.toList → x = y := by
    intro x y e
    cases x; cases y
    congr 1
    exact Array.toList_inj.1 e
  refine ⟨h1, ext ?_, ext ?_⟩
  · rw [Lib.extract_data, h, List.drop_zero, Nat.sub_zero, List.take_left' (by rw [Array.length_toList]; rfl)]
  · rw [Lib.extract_data, h, show a.size + 1 = a.data.toList.length + 1 by rw [Array.length_toList]; rfl, List.drop_length_add_append, List.drop_succ_cons, List.drop_zero, List.take_of_length_le]
    rw [Array.length_toList, Array.length_toList]
    show r.data.size ≤ s.size - (a.size + 1)
    have : r.size = r.data.size := rfl
    omega
theorem cutHit_liteN (s a r : ByteArray) (w : World) (hs : s.size ≤ 9223372036854775806) (h : s.data.toList = a.data.toList ++ 10 :: r.data.toList) (ha : (10 : UInt8) ∉ a.data.toList) :
    Calls Tryz.prog 125 #[.string s, .string ⟨#[10]⟩] w fun e w' => e = .returned (.tuple #[.string a, .string r, .bool true]) ∧ ∃ n, w' = w.drewN n := by
  obtain ⟨h1, h2, h3⟩ := cut_partsN h
  have C := idx_10 s (a.size : Int) (by rw [h, ib_hit ha, Array.length_toList]; rfl)
  obtain ⟨n, hn⟩ : ∃ n, a.size = n := ⟨_, rfl⟩
  rw [hn] at h1 h2 h3 C
  have c1 : (0 : Int) ≤ (n : Int) := by omega
  have c2 : (n : Int) ≤ (s.size : Int) := by omega
  have c3 : (0 : Int) ≤ (n : Int) + 1 := by omega
  have c4 : (n : Int) + 1 ≤ (s.size : Int) := by omega
  clear h ha hn h1
  go_enter Tryz.func125, Tryz.ntmps125
  go_wp2_with fail
  refine (C _).mono ?_
  rintro e w ⟨rfl, rfl⟩
  go_wp2_with fail
  go_quiet (fail)
  go_wp2
  go_ret3
  exact ⟨rfl, _, rfl⟩
theorem cutMissN (s : ByteArray) (w : World) (h : (10 : UInt8) ∉ s.data.toList) :
    Calls Tryz.prog 96 #[.string s, .string ⟨#[10]⟩] w fun e w' => e = .returned (.tuple #[.string s, .string ⟨#[]⟩, .bool false]) ∧ ∃ n, w' = w.drewN n := by
  have C := fun W => cutMiss_liteN s W h
  go_enter Tryz.func96, Tryz.ntmps96
  go_wp2_with fail
  refine (C _).mono ?_
  rintro e w ⟨rfl, n, rfl⟩
  go_wp2
  go_ret3
  exact ⟨rfl, n, rfl⟩
theorem cutHitN (s a r : ByteArray) (w : World) (hs : s.size ≤ 9223372036854775806) (h : s.data.toList = a.data.toList ++ 10 :: r.data.toList) (ha : (10 : UInt8) ∉ a.data.toList) :
    Calls Tryz.prog 96 #[.string s, .string ⟨#[10]⟩] w fun e w' => e = .returned (.tuple #[.string a, .string r, .bool true]) ∧ ∃ n, w' = w.drewN n := by
  have C := fun W => cutHit_liteN s a r W hs h ha
  clear h
  go_enter Tryz.func96, Tryz.ntmps96
  go_wp2_with fail
  refine (C _).mono ?_
  rintro e w ⟨rfl, n, rfl⟩
  go_wp2
  go_ret3
  exact ⟨rfl, n, rfl⟩

theorem cutN_ex (T : ByteArray) (hs : T.size ≤ 1000000) : ∃ (a r : ByteArray) (b : Bool),
    (∀ W, Calls Tryz.prog 96 #[.string T, .string ⟨#[10]⟩] W fun e w' => e = .returned (.tuple #[.string a, .string r, .bool b]) ∧ ∃ n, w' = W.drewN n) ∧
    a.data.toList = T.data.toList.takeWhile (fun c => c != 10) ∧ r.data.toList = T.data.toList.drop ((T.data.toList.takeWhile (fun c => c != 10)).length + 1) ∧ a.size ≤ T.size ∧ r.size ≤ T.size := by
  by_cases hm : (10 : UInt8) ∈ T.data.toList
  · obtain ⟨p, q, hpq, hp⟩ : ∃ p q, T.data.toList = p ++ 10 :: q ∧ (10 : UInt8) ∉ p := by
      generalize T.data.toList = l at hm
      induction l with
      | nil => cases hm
      | cons c l ih =>
        by_cases e : c = 10
        · exact ⟨[], l, by rw [e]; rfl, by simp⟩
        · obtain ⟨p, q, h1, h2⟩ := ih (by rcases List.mem_cons.1 hm with g | g; exact absurd g.symm e; exact g)
          exact ⟨c :: p, q, by rw [h1]; rfl, by simp only [List.mem_cons, not_or]; exact ⟨fun g => e g.symm, h2⟩⟩
    have hz : T.size = p.length + 1 + q.length := by
      have := congrArg List.length hpq
      rw [len_size, List.length_append, List.length_cons] at this; omega
    refine ⟨⟨p.toArray⟩, ⟨q.toArray⟩, true, fun W => cutHitN T ⟨p.toArray⟩ ⟨q.toArray⟩ W (by omega) (by simpa using hpq) (by simpa using hp), ?_, ?_, ?_, ?_⟩
    · rw [hpq, take_line hp]
    · rw [hpq, take_line hp, ← List.drop_drop, List.drop_left]; rfl
    · show p.toArray.size ≤ _; simp; omega
    · show q.toArray.size ≤ _; simp; omega
  · have ht : T.data.toList.takeWhile (fun c => c != 10) = T.data.toList := by
      have : ∀ l : List UInt8, (10 : UInt8) ∉ l → l.takeWhile (fun c => c != 10) = l := by
        intro l hl
        induction l with
        | nil => rfl
        | cons c l ih =>
          have hc : c ≠ 10 := fun e => hl (by simp [e])
          rw [List.takeWhile_cons_of_pos (by simpa using hc), ih (fun g => hl (by simp [g]))]
      exact this _ hm
    refine ⟨T, ⟨#[]⟩, false, fun W => cutMissN T W hm, ht.symm, ?_, Nat.le_refl _, Nat.zero_le _⟩
    rw [ht, List.drop_of_length_le (by omega)]
theorem hasPre (s p : ByteArray) (b : Bool) (h : p.data.toList.isPrefixOf s.data.toList = b) (w : World) : Calls Tryz.prog 132 #[.string s, .string p] w fun e w' => e = .returned (.bool b) ∧ w' = w := by
  refine (Go.Proofs.Any.stringslite_HasPrefix (show Go.Proofs.Lays.n206 Tryz.prog Tryz.laysQ_ren from { Tryz.laysQ99 with }) s p w).mono ?_
  rintro e w' ⟨rfl, rfl⟩
  exact ⟨by rw [← h]; rfl, rfl⟩
theorem ext_drop (s : ByteArray) (n : Nat) : (s.extract n s.size).data.toList = s.data.toList.drop n := Np.extr_to s n
theorem pre_len {s p : ByteArray} (h : p.data.toList.isPrefixOf s.data.toList = true) : p.size ≤ s.size := by
  have := (List.isPrefixOf_iff_prefix.1 h).length_le
  rwa [len_size, len_size] at this
theorem cutPre (s p x : ByteArray) (b : Bool) (h : p.data.toList.isPrefixOf s.data.toList = b) (hx : x.data.toList = if b then s.data.toList.drop p.data.toList.length else s.data.toList) (w : World) :
    Calls Tryz.prog 97 #[.string s, .string p] w fun e w' => e = .returned (.tuple #[.string x, .bool b]) ∧ w' = w := by
  have C := fun W => hasPre s p b h W
  have CL : ∀ W, Calls Tryz.prog 126 #[.string s, .string p] W fun e w' => e = .returned (.tuple #[.string x, .bool b]) ∧ w' = W := fun W => by
    cases b
    · have hxs : x = s := bytes_ext (by rw [hx]; rfl)
      subst hxs
      clear h hx
      go_enter Tryz.func126, Tryz.ntmps126
      go_wp2_with fail
      refine (C _).mono ?_
      rintro e w ⟨rfl, rfl⟩
      go_wp2
      go_ret2
      exact ⟨rfl, rfl⟩
    · have hxs : s.extract p.size s.size = x := bytes_ext (by rw [hx, if_pos rfl, ext_drop, len_size])
      have hl := pre_len h
      have c1 : (p.size : Int) ≤ (s.size : Int) := by omega
      have c2 : (0 : Int) ≤ (p.size : Int) := by omega
      clear h hx
      go_enter Tryz.func126, Tryz.ntmps126
      go_wp2_with fail
      refine (C _).mono ?_
      rintro e w ⟨rfl, rfl⟩
      go_wp2
      go_ret2
      exact ⟨rfl, rfl⟩
  clear h hx C
  go_enter Tryz.func97, Tryz.ntmps97
  go_wp2_with fail
  refine (CL _).mono ?_
  rintro e w ⟨rfl, rfl⟩
  go_wp2
  go_ret2
  exact ⟨rfl, rfl⟩
theorem trimPre (s p x : ByteArray) (b : Bool) (h : p.data.toList.isPrefixOf s.data.toList = b) (hx : x.data.toList = if b then s.data.toList.drop p.data.toList.length else s.data.toList) (w : World) :
    Calls Tryz.prog 70 #[.string s, .string p] w fun e w' => e = .returned (.string x) ∧ w' = w := by
  have C := fun W => hasPre s p b h W
  have CL : ∀ W, Calls Tryz.prog 107 #[.string s, .string p] W fun e w' => e = .returned (.string x) ∧ w' = W := fun W => by
    cases b
    · have hxs : x = s := bytes_ext (by rw [hx]; rfl)
      subst hxs
      clear h hx
      go_enter Tryz.func107, Tryz.ntmps107
      go_wp2_with fail
      refine (C _).mono ?_
      rintro e w ⟨rfl, rfl⟩
      go_wp2
      go_ret
      exact ⟨rfl, rfl⟩
    · have hxs : s.extract p.size s.size = x := bytes_ext (by rw [hx, if_pos rfl, ext_drop, len_size])
      have hl := pre_len h
      have c1 : (p.size : Int) ≤ (s.size : Int) := by omega
      have c2 : (0 : Int) ≤ (p.size : Int) := by omega
      clear h hx
      go_enter Tryz.func107, Tryz.ntmps107
      go_wp2_with fail
      refine (C _).mono ?_
      rintro e w ⟨rfl, rfl⟩
      go_wp2
      go_ret
      exact ⟨rfl, rfl⟩
  clear h hx C
  go_enter Tryz.func70, Tryz.ntmps70
  go_wp2_with fail
  refine (CL _).mono ?_
  rintro e w ⟨rfl, rfl⟩
  go_wp2
  go_ret
  exact ⟨rfl, rfl⟩

/-! ### all but one block -/
/-- Nothing but block x has turned. -/
structure Off (x : Nat) (w w' : World) : Prop where
  os : w'.os = w.os
  tape : w'.tape = w.tape
  output : w'.output = w.output
  size : w.heap.size ≤ w'.heap.size
  block : ∀ k, k < w.heap.size → k ≠ x → w'.heap[k]? = w.heap[k]?
theorem Off.refl (x : Nat) (w : World) : Off x w w := ⟨rfl, rfl, rfl, Nat.le_refl _, fun _ _ _ => rfl⟩
theorem Off.trans {x : Nat} {a b c : World} (h : Off x a b) (k : Off x b c) : Off x a c :=
  ⟨k.os.trans h.os, k.tape.trans h.tape, k.output.trans h.output, Nat.le_trans h.size k.size, fun i hi hx => (k.block i (Nat.lt_of_lt_of_le hi h.size) hx).trans (h.block i hi hx)⟩
theorem Off.of_below {x : Nat} {w w' : World} (h : Below w.heap.size w w') : Off x w w' := ⟨h.os, h.tape, h.output, h.size, fun k hk _ => h.block k hk⟩
theorem Off.below {x B : Nat} {a w w' : World} (h : Off x w w') (hb : Below B a w) (hx : B ≤ x) (hB : B ≤ w.heap.size) : Below B a w' :=
  hb.trans ⟨h.os, h.tape, h.output, h.size, fun k hk => h.block k (by omega) (by omega)⟩
theorem Off.cell {x : Nat} {w w' : World} (h : Off x w w') {p : Addr} (hl : p.block < w.heap.size) (hx : p.block ≠ x) : w'.cell? p = w.cell? p := World.cell?_of_block (w := w) (h.block _ hl hx)
theorem Off.frozen {x : Nat} {w w' : World} (h : Off x w w') {p : Addr} (hl : p.block < w.heap.size) (hx : p.block ≠ x) : w'.frozen? p = w.frozen? p := World.frozen?_of_block (w := w) (h.block _ hl hx)
/-- A box that holds a text. -/
def BoxS (w : World) (cb : Nat) (T : ByteArray) : Prop := ∃ ty, w.heap[cb]? = some (.cells #[.string T] ty)
theorem BoxS.lt {w : World} {cb : Nat} {T : ByteArray} (h : BoxS w cb T) : cb < w.heap.size := by
  obtain ⟨ty, h⟩ := h
  rcases Nat.lt_or_ge cb w.heap.size with g | g
  · exact g
  · rw [Array.getElem?_eq_none g] at h; cases h
theorem BoxS.cell {w : World} {cb : Nat} {T : ByteArray} (h : BoxS w cb T) (i : Nat) : w.cell? ⟨cb, i, none⟩ = if i = 0 then some (.string T) else none := by
  obtain ⟨ty, h⟩ := h
  unfold World.cell?
  rw [h]
  cases i with
  | zero => rfl
  | succ i => simp
theorem BoxS.frozen {w : World} {cb : Nat} {T : ByteArray} (h : BoxS w cb T) : w.frozen? ⟨cb, 0, none⟩ = false := by
  obtain ⟨ty, h⟩ := h
  unfold World.frozen?
  rw [h]
  rfl
theorem BoxS.step {w w' : World} {cb : Nat} {T : ByteArray} (h : BoxS w cb T) (hb : Below w.heap.size w w') : BoxS w' cb T := by
  obtain ⟨ty, g⟩ := h
  exact ⟨ty, (hb.block cb (BoxS.lt ⟨ty, g⟩)).trans g⟩
theorem BoxS.off {x : Nat} {w w' : World} {cb : Nat} {T : ByteArray} (h : BoxS w cb T) (hb : Off x w w') (hx : cb ≠ x) : BoxS w' cb T := by
  obtain ⟨ty, g⟩ := h
  exact ⟨ty, (hb.block cb (BoxS.lt ⟨ty, g⟩) hx).trans g⟩
theorem BoxS.put {w : World} {cb : Nat} {T r : ByteArray} (h : BoxS w cb T) : BoxS (w.setCell ⟨cb, 0, none⟩ (.string r)) cb r ∧ Off cb w (w.setCell ⟨cb, 0, none⟩ (.string r)) := by
  have hl := h.lt
  obtain ⟨ty, g⟩ := h
  refine ⟨⟨ty, ?_⟩, rfl, rfl, rfl, by simp [World.setCell], fun k hk hx => Below.heap_setCell _ _ _ _ hx⟩
  have g2 : w.heap[cb] = .cells #[.string T] ty := by
    rw [Array.getElem?_eq_getElem hl] at g
    exact Option.some.inj g
  simp [World.setCell, Array.getElem?_modify, g]
set_option maxHeartbeats 1000000 in
/-- The next line of what a box holds. -/
theorem next_any (cb : Nat) (w0 T x r : ByteArray) (hT : T.size ≤ 1000000) (h : nextF w0.data.toList T.data.toList = (x.data.toList, r.data.toList)) (w : World) (hb : BoxS w cb T) :
    Calls Tryz.prog 95 #[.string w0, .pointer (some ⟨cb, 0, none⟩)] w fun e w' => e = .returned (.string x) ∧ BoxS w' cb r ∧ Off cb w w' := by
  obtain ⟨a, r0, b, CC, ha, hr0, hal, hrl⟩ := cutN_ex T hT
  have hcell : w.cell? ⟨cb, 0, none⟩ = some (.string T) := hb.cell 0
  have hfr := hb.frozen
  obtain ⟨q, hq⟩ : ∃ q, w0.data.toList.isPrefixOf a.data.toList = q := ⟨_, rfl⟩
  obtain ⟨y, hy⟩ : ∃ y : ByteArray, y.data.toList = if q then a.data.toList.drop w0.data.toList.length else a.data.toList := ⟨⟨(if q then a.data.toList.drop w0.data.toList.length else a.data.toList).toArray⟩, by simp⟩
  have CP := fun W => cutPre a w0 y q hq hy W
  unfold nextF at h
  rw [← ha, hq] at h
  cases q
  · rw [if_neg (by decide)] at h
    obtain ⟨hx, hr⟩ := Prod.mk.inj h
    obtain rfl : x = ⟨#[]⟩ := bytes_ext hx.symm
    obtain rfl : r = T := bytes_ext hr.symm
    have HB := phide hb
    clear h hx hr hq hy ha hr0 hb hal hrl
    go_enter Tryz.func95, Tryz.ntmps95
    go_wp2_with fail
    refine (CC _).mono ?_
    rintro e w2 ⟨rfl, n, rfl⟩
    go_wp2_with fail
    refine (CP _).mono ?_
    rintro e w3 ⟨rfl, rfl⟩
    go_wp2
    go_ret
    exact ⟨rfl, punhide HB, Off.of_below (Go.below_drewN (Below.refl _ _) _)⟩
  · rw [if_pos rfl] at h
    rw [if_pos rfl] at hy
    obtain ⟨hx, hr⟩ := Prod.mk.inj h
    rw [← ha] at hr0
    obtain rfl : x = y := bytes_ext (by rw [hy, hx])
    obtain rfl : r = r0 := bytes_ext (by rw [hr0, hr])
    have HB := phide hb
    clear h hx hr hq hy ha hr0 hb hal hrl
    go_enter Tryz.func95, Tryz.ntmps95
    go_wp2_with fail
    refine (CC _).mono ?_
    rintro e w2 ⟨rfl, n, rfl⟩
    go_wp2_with fail
    refine (CP _).mono ?_
    rintro e w3 ⟨rfl, rfl⟩
    have hbd : BoxS (w.drewN n) cb T := punhide HB
    obtain ⟨p1, p2⟩ := BoxS.put (r := r) hbd
    clear hbd
    go_wp2
    go_ret
    exact ⟨rfl, p1, (Off.of_below (Go.below_drewN (Below.refl _ _) _)).trans p2⟩
end Go.Proofs.YtnagecbepidfiaaGreatDoor.Pol
/- What is proved here: readCats, readFuel and readMark of package policy, walked; conditions: as each theorem states. -/
namespace Go.Proofs.YtnagecbepidfiaaGreatDoor.Pol
set_option maxRecDepth 100000
open Go.RowKit Go.Proofs.YtnagecbepidfiaaGreatDoor.Nc Go.Proofs.YtnagecbepidfiaaGreatDoor.Np Go.Proofs.YtnagecbepidfiaaGreatDoor.Nq
set_option linter.unusedVariables false
set_option linter.unusedSimpArgs false

theorem sp32 : (⟨#[32]⟩ : ByteArray).data.toList = [32] := rfl
/-- A text with, or without, a blank ahead. -/
theorem trim_ex (x : ByteArray) : ∃ y : ByteArray, (∀ W, Calls Tryz.prog 70 #[.string x, .string ⟨#[32]⟩] W fun e w' => e = .returned (.string y) ∧ w' = W) ∧ y.size ≤ x.size ∧ ∀ l, x.data.toList = 32 :: l → y.data.toList = l := by
  obtain ⟨b, hb⟩ : ∃ b, (⟨#[32]⟩ : ByteArray).data.toList.isPrefixOf x.data.toList = b := ⟨_, rfl⟩
  obtain ⟨y, hy⟩ : ∃ y : ByteArray, y.data.toList = if b then x.data.toList.drop (⟨#[32]⟩ : ByteArray).data.toList.length else x.data.toList := ⟨⟨(if b then x.data.toList.drop (⟨#[32]⟩ : ByteArray).data.toList.length else x.data.toList).toArray⟩, by simp⟩
  refine ⟨y, fun W => trimPre x ⟨#[32]⟩ y b hb hy W, ?_, fun l hl => ?_⟩
  · rw [← len_size, ← len_size x, hy]
    split
    · rw [List.length_drop]; omega
    · exact Nat.le_refl _
  · rw [sp32, hl] at hb
    rw [hl] at hy
    have hbt : b = true := by rw [← hb]; simp [List.isPrefixOf]
    subst hbt
    rw [hy, if_pos rfl]
    rfl
theorem readFuel_any (x : ByteArray) (hx : x.size ≤ 1000000) (w : World) (hE : Errs w) :
    Calls Tryz.prog 71 #[.string x] w fun e w' => Below w.heap.size w w' ∧ ∃ v : Int, e = .returned (.int .i64 v) ∧ ∀ n : Int, 0 ≤ n → n ≤ 100000 → x.data.toList = 32 :: Lib.itoa n → v = n := by
  obtain ⟨y, CT, hy, hyl⟩ := trim_ex x
  have CA := fun W h => atoi_any y (by omega) W h
  go_enter Tryz.func71, Tryz.ntmps71
  go_wp2_with fail
  refine (CT _).mono ?_
  rintro e w ⟨rfl, rfl⟩
  go_wp2_with fail
  refine (CA _ hE).mono ?_
  rintro e w2 ⟨hB, ⟨v, hv, rfl⟩ | ⟨hv, v, t, p, rfl⟩⟩
  · go_wp2
    go_ret
    refine ⟨hB, v, rfl, fun n h0 h1 hl => ?_⟩
    rw [hyl _ hl, atoi_itoa h0 h1] at hv
    cases hv
    rfl
  · go_wp2
    go_ret
    refine ⟨hB, v, rfl, fun n h0 h1 hl => ?_⟩
    exact absurd (atoi_itoa h0 h1) (by rw [← hyl _ hl]; exact hv n)

/-! ### categories -/
theorem cellsOf_at {LB : List ByteArray} {N i : Nat} (h : i < LB.length) : (Lib.cellsOf LB N)[i]? = some (.string (LB[i]'h)) := by
  unfold Lib.cellsOf
  simp [h, List.getElem?_append]
theorem names_of (x : ByteArray) (N : Nat) (hN : min 65 (x.size + 1) = N) (LB : List ByteArray) (hL : Lib.splitB ⟨#[32]⟩ 0 (N - 1) x = LB) :
    1 ≤ LB.length ∧ LB.length ≤ N ∧ (∀ y ∈ LB, y.size ≤ x.size) ∧ ∀ ws : List Tx, (∀ y ∈ ws, (32 : UInt8) ∉ y) → ws.length ≤ 64 → Cm.flatB ws = x.data.toList → (LB.drop 1).map (·.data.toList) = ws := by
  have hlen := Lib.splitB_length_le ⟨#[32]⟩ 0 (N - 1) x
  rw [hL] at hlen
  have hmap := Lib.splitB_data ⟨#[32]⟩ 0 (N - 1) x
  rw [hL] at hmap
  have hsz : ∀ (k : Nat) (s : ByteArray), ∀ y ∈ Lib.splitB ⟨#[32]⟩ 0 k s, y.size ≤ s.size := by
    intro k
    induction k with
    | zero => intro s y hy; rw [Lib.splitB_zero, List.mem_singleton] at hy; rw [hy]; exact Nat.le_refl _
    | succ k ih =>
      intro s y hy
      unfold Lib.splitB at hy
      split at hy
      · rw [List.mem_singleton] at hy; rw [hy]; exact Nat.le_refl _
      · rcases List.mem_cons.1 hy with rfl | hy
        · rw [ByteArray.size_extract]; omega
        · have := ih _ y hy
          rw [ByteArray.size_extract] at this; omega
  have hpos : 1 ≤ LB.length := by
    rw [← hL]
    cases h : N - 1 with
    | zero => simp [Lib.splitB_zero]
    | succ k => unfold Lib.splitB; split <;> simp
  refine ⟨hpos, by omega, fun y hy => hsz _ _ y (by rw [hL]; exact hy), fun ws hw h64 hf => ?_⟩
  have hk : ws.length ≤ N - 1 := by
    have h1 : ws.length ≤ x.size := by
      rw [← len_size, ← hf]
      clear hf h64 hw
      induction ws with
      | nil => simp
      | cons y r ih => rw [Cm.flatB_cons]; simp; omega
    omega
  have := split_flat ws [] (N - 1) hw (by simp) hk
  rw [List.nil_append, hf] at this
  rw [List.map_drop, hmap, sp32, this]
  rfl
set_option maxHeartbeats 2000000 in
theorem readCats_any (x : ByteArray) (hx : x.size ≤ 1000000) (w : World) :
    Calls Tryz.prog 67 #[.string x] w fun e w' => Below w.heap.size w w' ∧ ∃ a n c L, e = .returned (.slice a n c) ∧ TxIn w' a n L ∧ n ≤ 64 ∧ (∀ g o, a = some ⟨g, o, none⟩ → w.heap.size ≤ g) ∧ (∀ y ∈ L, y.length ≤ 1000000) ∧
      ∀ ws : List Tx, (∀ y ∈ ws, (32 : UInt8) ∉ y) → ws.length ≤ 64 → Cm.flatB ws = x.data.toList → L = ws := by
  obtain ⟨N, hN⟩ : ∃ N, min 65 (x.size + 1) = N := ⟨_, rfl⟩
  obtain ⟨LB, hLB⟩ : ∃ LB, Lib.splitB ⟨#[32]⟩ 0 (N - 1) x = LB := ⟨_, rfl⟩
  obtain ⟨h1, h2, h3, h4⟩ := names_of x N hN LB hLB
  obtain ⟨n, hn⟩ : ∃ n, LB.length = n + 1 := ⟨LB.length - 1, by omega⟩
  have C := fun W => splitN_any x N hx hN LB hLB (n + 1) hn W
  obtain ⟨M, rfl⟩ : ∃ M, N = M + 1 := ⟨N - 1, by omega⟩
  have hM : M ≤ 64 := by omega
  have hnM : n ≤ M := by omega
  obtain ⟨L, hL⟩ : ∃ L : List Tx, (LB.drop 1).map (·.data.toList) = L := ⟨_, rfl⟩
  have hLn : L.length = n := by rw [← hL, List.length_map, List.length_drop]; omega
  rw [hL] at h4
  have hLs : ∀ y ∈ L, y.length ≤ 1000000 := by
    intro y hy
    rw [← hL] at hy
    obtain ⟨z, hz, rfl⟩ := List.mem_map.1 hy
    have := h3 z (List.mem_of_mem_drop hz)
    rw [len_size]; omega
  have hrow : RowO (w.alloc (.cells (Lib.cellsOf LB (M + 1)) 9)) w.heap.size 1 L := by
    refine ⟨by simp, fun i hi => ?_⟩
    have hi2 : 1 + i < LB.length := by omega
    have e : L[i]'hi = (LB[1 + i]'hi2).data.toList := by
      subst hL
      rw [List.getElem_map, List.getElem_drop]
    rw [e]
    exact (World.cell?_alloc_new _ _ _ _).trans (cellsOf_at hi2)
  have hfr : ∀ j, (w.alloc (.cells (Lib.cellsOf LB (M + 1)) 9)).frozen? ⟨w.heap.size, j, none⟩ = false := fun j => World.frozen?_alloc_new _ _ _ _
  have hB := (Below.refl w.heap.size w).alloc (Nat.le_refl _) (.cells (Lib.cellsOf LB (M + 1)) 9)
  have H4 := phide h4
  have HLS := phide hLs
  clear h3 h4 hLB hN h1 h2 hL
  go_enter Tryz.func67, Tryz.ntmps67
  go_wp2_with fail
  refine (C _).mono ?_
  rintro e W ⟨rfl, rfl⟩
  clear C
  generalize w.alloc (.cells (Lib.cellsOf LB (M + 1)) 9) = W1 at *
  by_cases hM0 : M = 0
  · have hn0 : n = 0 := by omega
    subst hM0
    subst hn0
    have hLe : L = [] := List.eq_nil_of_length_eq_zero hLn
    subst hLe
    clear hn hLs hLn hrow hfr hnM hM hx
    go_wp2
    go_loopw [11] (fun i wr => i = .int .i64 0 ∧ wr = W1) (fun i _ => 0)
    case atStart => exact ⟨rfl, rfl⟩
    case round =>
      obtain ⟨rfl, rfl⟩ := hrel
      go_wp2
      go_ret
      exact ⟨hB, _, _, _, [], rfl, ⟨rfl, .inl rfl⟩, by omega, (fun g o h => by cases h; exact Nat.le_refl _), (fun y hy => by cases hy), punhide H4⟩
  · clear hLs hx hn LB
    have HB := phide hB
    have HR := phide hrow
    generalize hg : w.heap.size = g at *
    have HG := phide hg
    clear hg
    go_wp2
    go_loopw [11] (fun i wr => ∃ k : Nat, k ≤ n ∧ i = .int .i64 (k : Int) ∧ Below g w wr ∧ RowO wr g 1 L ∧ ∀ j, wr.frozen? ⟨g, j, none⟩ = false) (fun i _ => n - (intOf i).toNat)
    case atStart => exact ⟨0, Nat.zero_le _, rfl, punhide HB, punhide HR, hfr⟩
    case round =>
      obtain ⟨k, hk, rfl, hBr, hRr, hFr⟩ := hrel
      clear hfr hB hrow
      by_cases hlt : k < n
      · obtain ⟨s, hs, hs2, hs3⟩ := txt (L[k]'(by omega))
        have hc := hRr.2 k (by omega)
        rw [hs] at hc
        have hsl : s.size ≤ 1000000 := by
          rw [hs3]
          exact punhide HLS _ (List.getElem_mem _)
        have CC := fun W => clone_any s W hsl
        have hgl := hRr.1
        have HS := phide hs
        clear hs hs2 hs3 hsl
        go_wp2_with fail
        refine (CC _).mono ?_
        rintro e w2 ⟨rfl, b2⟩
        have hF2 : ∀ j, w2.frozen? ⟨g, j, none⟩ = false := fun j => (b2.frozen (p := ⟨g, j, none⟩) hgl).trans (hFr j)
        have hR2 := hRr.step b2
        have hB2 := hBr.trans (b2.mono (by have := hBr.size; have := punhide HG; omega))
        have hfk := hF2 (1 + k)
        have hck : w2.cell? ⟨g, 1 + k, none⟩ = some (.string s) := by
          have := hR2.2 k (by omega)
          rw [punhide HS] at this
          exact this
        have hput : RowO (w2.setCell ⟨g, 1 + k, none⟩ (.string s)) g 1 L := by
          refine ⟨by simp [World.setCell]; exact hR2.1, fun i hi => ?_⟩
          by_cases e : i = k
          · subst e
            rw [World.cell?_setCell_same _ _ _ hck]
            exact congrArg (fun x => some (Value.string x)) (punhide HS).symm
          · rw [World.cell?_setCell_other _ _ _ _ (fun h => e (by have := congrArg Addr.off h; simp at this; omega))]
            exact hR2.2 i hi
        have hfput : ∀ j, (w2.setCell ⟨g, 1 + k, none⟩ (.string s)).frozen? ⟨g, j, none⟩ = false := fun j => by rw [frozen_set]; exact hF2 j
        have hBput := hB2.setCell (p := ⟨g, 1 + k, none⟩) (Nat.le_refl _) (.string s)
        clear CC hRr hFr hBr b2 hR2 hF2 hB2
        go_wp2
        go_roundw
        case rel => exact ⟨k + 1, hlt, by go_num, hBput, hput, hfput⟩
        case measure => simp [intOf]; omega
      · have hkn : k = n := by omega
        subst hkn
        go_wp2
        go_ret
        exact ⟨by rw [punhide HG]; exact hBr, _, _, _, L, rfl, ⟨hLn, .inr ⟨g, 1, rfl, hRr⟩⟩, by omega, (fun g2 o h => by cases h; exact Nat.le_of_eq (punhide HG)), punhide HLS, punhide H4⟩
/-! ### a mark -/
theorem mask_ex (L : List Tx) (n : Nat) (hn : L.length = n) (hn2 : n ≤ 64) (hl : ∀ x ∈ L, x.length ≤ 1000000) (s : ByteArray) (hs : s.size ≤ 1000000) : ∃ (q e0 : Nat), q < 18446744073709551616 ∧ (∀ ad c w, TxIn w ad n L → Calls Tryz.prog 101 #[.slice ad n c, .string s] w fun e w' => e = .returned (.tuple #[.int .u64 (q : Int), .int .i64 (e0 : Int)]) ∧ Below w.heap.size w w') ∧
    ∀ m, L.Nodup → (∀ x ∈ L, Cm.Word x) → m < 2 ^ L.length → s.data.toList = 32 :: (namesT L m ++ [32]) → q = m := by
  obtain ⟨⟨q, e0⟩, hq⟩ : ∃ x, maskG L 0 (Cm.words s.data.toList) = x := ⟨_, rfl⟩
  have hlt : ∀ (ws : List Tx) (m : Nat), m < 18446744073709551616 → (maskG L m ws).1 < 18446744073709551616 := by
    intro ws
    induction ws with
    | nil => intro m hm; exact hm
    | cons x r ih =>
      intro m hm
      unfold maskG
      split
      · exact ih _ (Nat.or_lt_two_pow (n := 64) hm (Cm.valK_lt _ _ _))
      · decide
  refine ⟨q, e0, ?_, fun ad c w h => mask_o ad n c L hn (by omega) hl s (by omega) q e0 hq w h, fun m hd hw hm he => ?_⟩
  · have := hlt (Cm.words s.data.toList) 0 (by decide)
    rwa [hq] at this
  · rw [maskG_is hd (by omega), he, mark_mask hd hw hm] at hq
    exact (Prod.mk.inj hq).1.symm
/-- Whether the parts of a mark can be told from its line. -/
def MarkOk (L : List Tx) (mk : Mk) : Prop := L.Nodup ∧ (∀ x ∈ L, Cm.Word x) ∧ (∀ x ∈ L, (36 : UInt8) ∉ x) ∧ mk.mask < 2 ^ L.length ∧ mk.path.length ≤ 8 ∧ (∀ t ∈ mk.path, mayB t = true)
/-- A text, cut where its first dollar stands. -/
theorem dollar_ex (x : ByteArray) : ∃ (k : Nat) (a r : ByteArray), k ≤ x.size ∧ x.extract 0 k = a ∧ x.extract k x.size = r ∧ a.size ≤ x.size ∧ r.size ≤ x.size ∧ (Lib.indexByte x.data.toList 36 = (k : Int) ∨ (Lib.indexByte x.data.toList 36 = -1 ∧ k = 0)) ∧
    ∀ (p u : Tx), (36 : UInt8) ∉ p → x.data.toList = p ++ 36 :: u → a.data.toList = p ∧ r.data.toList = 36 :: u := by
  have hz : ∃ k : Nat, k ≤ x.size ∧ (Lib.indexByte x.data.toList 36 = (k : Int) ∨ (Lib.indexByte x.data.toList 36 = -1 ∧ k = 0)) := by
    by_cases hm : (36 : UInt8) ∈ x.data.toList
    · obtain ⟨p, q, hpq, hp⟩ : ∃ p q, x.data.toList = p ++ 36 :: q ∧ (36 : UInt8) ∉ p := by
        generalize x.data.toList = l at hm
        induction l with
        | nil => cases hm
        | cons c l ih =>
          by_cases e : c = 36
          · exact ⟨[], l, by rw [e]; rfl, by simp⟩
          · obtain ⟨p, q, h1, h2⟩ := ih (by rcases List.mem_cons.1 hm with g | g; exact absurd g.symm e; exact g)
            exact ⟨c :: p, q, by rw [h1]; rfl, by simp only [List.mem_cons, not_or]; exact ⟨fun g => e g.symm, h2⟩⟩
      refine ⟨p.length, ?_, .inl (by rw [hpq]; exact ib_hit hp)⟩
      rw [← len_size, hpq, List.length_append]; omega
    · exact ⟨0, Nat.zero_le _, .inr ⟨ib_miss hm, rfl⟩⟩
  obtain ⟨k, hk, hz⟩ := hz
  refine ⟨k, x.extract 0 k, x.extract k x.size, hk, rfl, rfl, by rw [ByteArray.size_extract]; omega, by rw [ByteArray.size_extract]; omega, hz, fun p u hp hx => ?_⟩
  have hkp : k = p.length := by
    rw [hx, ib_hit hp] at hz
    omega
  rw [ext_drop, hx, hkp, List.drop_left]
  refine ⟨?_, rfl⟩
  rw [Lib.extract_data, hx, List.drop_zero, Nat.sub_zero, List.take_left]
/-- A block of two cells that may be written. -/
structure Two (w : World) (b : Nat) (u v : Value) : Prop where
  lt : b < w.heap.size
  c0 : w.cell? ⟨b, 0, none⟩ = some u
  c1 : w.cell? ⟨b, 1, none⟩ = some v
  c2 : ∀ i, w.cell? ⟨b, i + 2, none⟩ = none
  f0 : w.frozen? ⟨b, 0, none⟩ = false
  f1 : w.frozen? ⟨b, 1, none⟩ = false
theorem Two.new (w : World) (u v : Value) (ty : TypeId) : Two (w.alloc (.cells #[u, v] ty)) w.heap.size u v :=
  ⟨by simp, World.cell?_alloc_at _ _ _ _ rfl, World.cell?_alloc_at _ _ _ _ rfl, fun i => (World.cell?_alloc_at _ _ _ _ rfl).trans (by simp), World.frozen?_alloc_new _ _ _ _, World.frozen?_alloc_new _ _ _ _⟩
theorem Two.step {w w' : World} {b : Nat} {u v : Value} (h : Two w b u v) (hb : Below w.heap.size w w') : Two w' b u v :=
  ⟨Nat.lt_of_lt_of_le h.lt hb.size, (hb.cell (p := ⟨b, 0, none⟩) h.lt).trans h.c0, (hb.cell (p := ⟨b, 1, none⟩) h.lt).trans h.c1, fun i => (hb.cell (p := ⟨b, i + 2, none⟩) h.lt).trans (h.c2 i), (hb.frozen (p := ⟨b, 0, none⟩) h.lt).trans h.f0, (hb.frozen (p := ⟨b, 1, none⟩) h.lt).trans h.f1⟩
theorem Two.put0 {w : World} {b : Nat} {u v : Value} (h : Two w b u v) (x : Value) : Two (w.setCell ⟨b, 0, none⟩ x) b x v :=
  ⟨by simp [World.setCell]; exact h.lt, World.cell?_setCell_same _ _ _ h.c0, by rw [World.cell?_setCell_other _ _ _ _ (fun e => by simp at e)]; exact h.c1, fun i => by rw [World.cell?_setCell_other _ _ _ _ (fun e => by simp at e)]; exact h.c2 i, by rw [frozen_set]; exact h.f0, by rw [frozen_set]; exact h.f1⟩
theorem Two.put1 {w : World} {b : Nat} {u v : Value} (h : Two w b u v) (x : Value) : Two (w.setCell ⟨b, 1, none⟩ x) b u x :=
  ⟨by simp [World.setCell]; exact h.lt, by rw [World.cell?_setCell_other _ _ _ _ (fun e => by simp at e)]; exact h.c0, World.cell?_setCell_same _ _ _ h.c1, fun i => by rw [World.cell?_setCell_other _ _ _ _ (fun e => by simp at e)]; exact h.c2 i, by rw [frozen_set]; exact h.f0, by rw [frozen_set]; exact h.f1⟩
theorem Two.other {w : World} {b : Nat} {u v : Value} (h : Two w b u v) (p : Addr) (hp : b ≠ p.block) (x : Value) : Two (w.setCell p x) b u v :=
  ⟨by simp [World.setCell]; exact h.lt, by rw [World.cell?_setCell_other _ _ _ _ (fun e => hp (congrArg Addr.block e).symm)]; exact h.c0, by rw [World.cell?_setCell_other _ _ _ _ (fun e => hp (congrArg Addr.block e).symm)]; exact h.c1, fun i => by rw [World.cell?_setCell_other _ _ _ _ (fun e => hp (congrArg Addr.block e).symm)]; exact h.c2 i, by rw [frozen_set]; exact h.f0, by rw [frozen_set]; exact h.f1⟩
/-- No row of steps lies in a block that begins with a slice and has a mask behind it. -/
theorem Two.no_steps {w : World} {b : Nat} {a : Option Addr} {m c : Nat} {z : Int} (h : Two w b (.slice a m c) (.int .u64 z)) {o : Nat} {L : List Pm.St} (hr : Np.RowSt w b o L) : L = [] := by
  cases L with
  | nil => rfl
  | cons t r =>
    obtain ⟨e, _, _⟩ := hr.2 0 (by simp)
    rw [Nat.zero_mul, Nat.add_zero] at e
    match o, e with
    | 0, e => rw [h.c0] at e; cases e
    | 1, e => rw [h.c1] at e; cases e
    | o + 2, e => rw [h.c2] at e; cases e
theorem steps_set {w : World} {a : Option Addr} {n : Nat} {L : List Pm.St} {b i : Nat} {x : Value} (h : Np.StepsIn w a n L) (hb : ∀ g o, a = some ⟨g, o, none⟩ → n ≠ 0 → g ≠ b) : Np.StepsIn (w.setCell ⟨b, i, none⟩ x) a n L := by
  refine ⟨h.1, ?_⟩
  rcases h.2 with e | ⟨g, o, e, r⟩
  · exact .inl e
  · by_cases hn : n = 0
    · exact .inl (by first | exact hn | (have := h.1; omega))
    · have hne := hb g o e hn
      refine .inr ⟨g, o, e, by simp [World.setCell]; exact r.1, fun i hi => ?_⟩
      obtain ⟨c0, c1, c2⟩ := r.2 i hi
      exact ⟨by rw [World.cell?_setCell_other _ _ _ _ (fun e => hne (congrArg Addr.block e).symm)]; exact c0, by rw [World.cell?_setCell_other _ _ _ _ (fun e => hne (congrArg Addr.block e).symm)]; exact c1, by rw [World.cell?_setCell_other _ _ _ _ (fun e => hne (congrArg Addr.block e).symm)]; exact c2⟩
set_option maxHeartbeats 2000000 in
theorem readMark_any (ad : Option Addr) (n c : Nat) (L : List Tx) (hn2 : n ≤ 64) (hl : ∀ x ∈ L, x.length ≤ 1000000) (x : ByteArray) (hx : x.size ≤ 99000) (w : World) (hI : TxIn w ad n L) (hT : Tabs w) (hP : Pow w) (hE : Errs w) :
    Calls Tryz.prog 68 #[.slice ad n c, .string x] w fun e w' => Below w.heap.size w w' ∧ ∃ a m c2 M, ∃ q : Nat, e = .returned (.agg #[.slice a m c2, .int .u64 (q : Int)]) ∧ Np.StepsIn w' a m M ∧ (∀ g o, a = some ⟨g, o, none⟩ → w.heap.size ≤ g) ∧ q < 18446744073709551616 ∧ M.length ≤ 8 ∧
      ∀ mk : Mk, MarkOk L mk → x.data.toList = Cm.flatB [namesT L mk.mask, ptL mk.path] → M = mk.path ∧ q = mk.mask := by
  obtain ⟨k, a, r, hk, ha, hr, has, hrs, hz, hpart⟩ := dollar_ex x
  obtain ⟨q, e0, hq, CM, hqm⟩ := mask_ex L n hI.1 hn2 hl a (by omega)
  obtain ⟨ok, M0, hp1, hp2, CP⟩ := parse_ex r (by omega)
  have HF : Hid (∀ mk : Mk, MarkOk L mk → x.data.toList = Cm.flatB [namesT L mk.mask, ptL mk.path] → (ok = true ∧ M0 = mk.path) ∧ q = mk.mask) := phide (by
    intro mk ⟨h1, h2, h3, h4, h5, h6⟩ he
    have he2 : x.data.toList = (32 :: (namesT L mk.mask ++ [32])) ++ 36 :: mk.path.flatMap prL := by rw [he]; unfold ptL; simp [Cm.flatB]
    have hn36 : (36 : UInt8) ∉ (32 :: (namesT L mk.mask ++ [32]) : Tx) := by
      simp only [List.mem_cons, List.mem_append, List.not_mem_nil, or_false, not_or]
      exact ⟨by decide, names_no (by decide) h3 mk.mask, by decide⟩
    obtain ⟨g1, g2⟩ := hpart _ _ hn36 he2
    exact ⟨hp2 mk.path h5 h6 (by rw [g2]; rfl), hqm mk.mask h1 h2 h4 g1⟩)
  have HP1 := phide hp1
  have HQ := phide hq
  have CI := fun W => sidx_36 x _ rfl W
  have hkz : (0 : Int) ≤ (k : Int) := by omega
  have hkx : (k : Int) ≤ (x.size : Int) := by omega
  have hmx : max (Lib.indexByte x.data.toList 36) 0 = (k : Int) := by omega
  generalize Lib.indexByte x.data.toList 36 = z at *
  clear hp1 hp2 hqm hpart hq hz has hrs hk hl hx
  go_enter Tryz.func68, Tryz.ntmps68
  go_wp2_with fail
  refine (CI _).mono ?_
  rintro e w ⟨rfl, rfl⟩
  have HQQ := punhide HQ
  have t0 : Two ((w.alloc (.cells #[.slice none 0 0, .int .u64 0] 59)).alloc (.cells #[.slice none 0 0, .int .u64 0] 59)) w.heap.size (.slice none 0 0) (.int .u64 0) := (Two.new w _ _ _).step ((Below.refl _ _).alloc (Nat.le_refl _) _)
  have t1 : Two ((w.alloc (.cells #[.slice none 0 0, .int .u64 0] 59)).alloc (.cells #[.slice none 0 0, .int .u64 0] 59)) (w.heap.size + 1) (.slice none 0 0) (.int .u64 0) := by
    have := Two.new (w.alloc (.cells #[.slice none 0 0, .int .u64 0] 59)) (.slice none 0 0) (.int .u64 0) 59
    simpa using this
  have hB0 : Below w.heap.size w ((w.alloc (.cells #[.slice none 0 0, .int .u64 0] 59)).alloc (.cells #[.slice none 0 0, .int .u64 0] 59)) := ((Below.refl _ _).alloc (Nat.le_refl _) _).alloc (by simp) _
  go_wp2_with fail
  refine (CM _ _ _ (hI.step hB0)).mono ?_
  rintro e w2 ⟨rfl, b2⟩
  replace t0 := t0.step b2
  replace t1 := t1.step b2
  have hB2 := hB0.trans (b2.mono hB0.size)
  clear b2 CM CI hI hB0
  obtain ⟨-, x0, x1, -, x2, x3⟩ := id t1
  have hB3 := hB2.setCell (p := ⟨w.heap.size + 1, 1, none⟩) (by show w.heap.size ≤ w.heap.size + 1; omega) (.int .u64 (q : Int))
  replace t1 := t1.put1 (.int .u64 (q : Int))
  replace t0 := t0.other ⟨w.heap.size + 1, 1, none⟩ (by show w.heap.size ≠ w.heap.size + 1; omega) (.int .u64 (q : Int))
  go_wp2_with fail
  refine (CP _ (tabs_step hT hB3) (hP.next hB3) (Errs.next hE hB3)).mono ?_
  rintro e w3 ⟨b3, hc⟩
  replace t0 := t0.step b3
  replace t1 := t1.step b3
  have hB4 := hB3.trans (b3.mono hB3.size)
  clear b3 CP hB2 x0 x1 x2 x3 hT hP hE
  obtain ⟨-, x0, x1, -, x2, x3⟩ := id t1
  obtain ⟨-, y0, y1, -, y2, y3⟩ := id t0
  obtain ⟨a9, m9, c9, M9, e9, rfl, hs9, hf9⟩ : ∃ a9 m9 c9 M9 e9, e = .returned (.tuple #[.slice a9 m9 c9, .int .i64 e9]) ∧ Np.StepsIn w3 a9 m9 M9 ∧ Hid (((ok = true → M9 = M0) ∧ ∀ g o, a9 = some ⟨g, o, none⟩ → w.heap.size ≤ g) ∧ M9.length ≤ 8) := by
    rcases hc with ⟨hf, rfl | rfl⟩ | ⟨ht, a, c, rfl, hs, hnew⟩
    · exact ⟨none, 0, 0, [], _, rfl, ⟨rfl, .inl rfl⟩, phide ⟨⟨fun h => (by rw [hf] at h; cases h), fun g o h => by cases h⟩, by decide⟩⟩
    · exact ⟨none, 0, 0, [], _, rfl, ⟨rfl, .inl rfl⟩, phide ⟨⟨fun h => (by rw [hf] at h; cases h), fun g o h => by cases h⟩, by decide⟩⟩
    · exact ⟨a, _, c, M0, _, rfl, hs, phide ⟨⟨fun _ => rfl, fun g o h => Nat.le_trans hB3.size (hnew g o h)⟩, (punhide HP1 ht).1⟩⟩
  clear hc hB3
  have hne : ∀ {u v : Value} {b : Nat}, (∃ a m c z, u = .slice a m c ∧ v = .int .u64 z) → Two w3 b u v → ∀ g o, a9 = some ⟨g, o, none⟩ → m9 ≠ 0 → g ≠ b := by
    rintro u v b ⟨a, m, c, z, rfl, rfl⟩ h g o e hm rfl
    rcases hs9.2 with h0 | ⟨g2, o2, e2, r⟩
    · exact hm h0
    · rw [e] at e2
      obtain ⟨rfl, rfl, _⟩ := Addr.mk.inj (Option.some.inj e2)
      have := h.no_steps r
      exact hm (by rw [← hs9.1, this]; rfl)
  have s1 := steps_set (i := 0) (x := .slice a9 m9 c9) hs9 (hne ⟨_, _, _, _, rfl, rfl⟩ t1)
  have s2 := steps_set (i := 0) (x := .slice a9 m9 c9) s1 (hne ⟨_, _, _, _, rfl, rfl⟩ t0)
  have s3 := steps_set (i := 1) (x := .int .u64 (q : Int)) s2 (hne ⟨_, _, _, _, rfl, rfl⟩ t0)
  have u1 := t1.put0 (.slice a9 m9 c9)
  have u0 := t0.other ⟨w.heap.size + 1, 0, none⟩ (by show w.heap.size ≠ w.heap.size + 1; omega) (.slice a9 m9 c9)
  have v0 := u0.put0 (.slice a9 m9 c9)
  have z0 := v0.put1 (.int .u64 (q : Int))
  have hB5 := ((hB4.setCell (p := ⟨w.heap.size + 1, 0, none⟩) (by show w.heap.size ≤ w.heap.size + 1; omega) (.slice a9 m9 c9)).setCell (p := ⟨w.heap.size, 0, none⟩) (Nat.le_refl _) (.slice a9 m9 c9)).setCell (p := ⟨w.heap.size, 1, none⟩) (Nat.le_refl _) (.int .u64 (q : Int))
  obtain ⟨-, g0, g1, -, -, -⟩ := u1
  obtain ⟨-, g2, g3, -, g4, g5⟩ := u0
  obtain ⟨-, g6, g7, -, -, -⟩ := z0
  obtain ⟨-, k0, k1, -, -, -⟩ := id v0
  have HS3 := phide s3
  have HB5 := phide hB5
  clear s1 s2 s3 hs9 hne v0 t0 t1 hB4 hB5
  go_wp2_with fail
  refine bodyPost_ret (v := .agg #[.slice a9 m9 c9, .int .u64 (q : Int)]) (by simp [results, Tryz.results68, go_sem, k0, k1, g6, g7]) rfl ?_
  refine ⟨punhide HB5, a9, m9, c9, M9, q, rfl, punhide HS3, (punhide hf9).1.2, punhide HQ, (punhide hf9).2, fun mk hmk he => ?_⟩
  obtain ⟨⟨h1, h2⟩, h3⟩ := punhide HF mk hmk he
  exact ⟨((punhide hf9).1.1 h1).trans h2, h3⟩
end Go.Proofs.YtnagecbepidfiaaGreatDoor.Pol
/- What is proved here: which policies may be; how the parts of a policy lie in memory, and what leaves them; conditions: as each theorem states. -/
namespace Go.Proofs.YtnagecbepidfiaaGreatDoor.Pol
set_option maxRecDepth 100000
open Go.RowKit Go.Proofs.YtnagecbepidfiaaGreatDoor.Nc Go.Proofs.YtnagecbepidfiaaGreatDoor.Np Go.Proofs.YtnagecbepidfiaaGreatDoor.Nq
set_option linter.unusedVariables false
set_option linter.unusedSimpArgs false

/-- The error of a row of marks; n: how many categories there are. -/
def marksE (n : Nat) : List Mk → Int
  | [] => 0
  | m :: r => if Np.mayE m.path ≠ 0 then Np.mayE m.path else if m.mask = 0 ∨ Cm.subB m.mask (2 ^ n - 1) = false then 22 else marksE n r
def fuelB (n : Int) : Bool := decide (1 ≤ n) && decide (n ≤ 100000)
/-- The error of a policy. -/
def mayP (p : Po) : Int := if Cm.mayE p.cats ≠ 0 then (Cm.mayE p.cats : Int) else if 16 < p.marks.length then 3 else if marksE p.cats.length p.marks ≠ 0 then marksE p.cats.length p.marks else
  if 24 < p.token.length ∨ Lib.validD p.token = false ∨ fuelB p.fuel = false ∨ fuelB p.quota = false then 22 else 0
/-- What is known of a policy that may be. -/
structure Ok (p : Po) : Prop where
  n64 : p.cats.length ≤ 64
  nodup : p.cats.Nodup
  names : ∀ x ∈ p.cats, Cm.nameB x = true
  m16 : p.marks.length ≤ 16
  marks : ∀ m ∈ p.marks, Np.mayE m.path = 0 ∧ m.mask ≠ 0 ∧ m.mask < 2 ^ p.cats.length
  t24 : p.token.length ≤ 24
  valid : Lib.validD p.token = true
  fuel : 1 ≤ p.fuel ∧ p.fuel ≤ 100000
  quota : 1 ≤ p.quota ∧ p.quota ≤ 100000
theorem may_zero {L : List Tx} (h : Cm.mayE L = 0) : L.length ≤ 64 ∧ L.Nodup ∧ ∀ x ∈ L, Cm.nameB x = true := by
  unfold Cm.mayE at h
  split at h
  · cases h
  · split at h
    · rename_i h1 h2
      rw [Bool.and_eq_true, decide_eq_true_eq, List.all_eq_true] at h2
      exact ⟨by omega, h2.2, h2.1⟩
    · cases h
theorem sub_lt {m n : Nat} (h : Cm.subB m (2 ^ n - 1) = true) : m < 2 ^ n := by
  unfold Cm.subB at h
  rw [beq_iff_eq, Nat.and_two_pow_sub_one_eq_mod] at h
  rw [← h]
  exact Nat.mod_lt _ (Nat.two_pow_pos n)
theorem marks_zero (n : Nat) : ∀ l, marksE n l = 0 → ∀ m ∈ l, Np.mayE m.path = 0 ∧ m.mask ≠ 0 ∧ m.mask < 2 ^ n
  | [], _, m, hm => by cases hm
  | x :: r, h, m, hm => by
    unfold marksE at h
    split at h
    · rename_i h1; exact absurd h h1
    · rename_i h1
      split at h
      · cases h
      · rename_i h2
        rcases List.mem_cons.1 hm with rfl | hm
        · refine ⟨Decidable.not_not.1 h1, fun e => h2 (.inl e), sub_lt ?_⟩
          cases e : Cm.subB m.mask (2 ^ n - 1)
          · exact absurd (.inr e) h2
          · rfl
        · exact marks_zero n r h m hm
theorem ok_of {p : Po} (h : mayP p = 0) : Ok p := by
  unfold mayP at h
  split at h
  · rename_i h1; exact absurd (by omega) h1
  · rename_i h1
    split at h
    · cases h
    · rename_i h2
      split at h
      · rename_i h3; exact absurd h h3
      · rename_i h3
        split at h
        · cases h
        · rename_i h4
          obtain ⟨a1, a2, a3⟩ := may_zero (Decidable.not_not.1 h1)
          have f1 : ∀ n, fuelB n ≠ false → 1 ≤ n ∧ n ≤ 100000 := by
            intro n hn
            have : fuelB n = true := by cases e : fuelB n; exact absurd e hn; rfl
            unfold fuelB at this
            rw [Bool.and_eq_true, decide_eq_true_eq, decide_eq_true_eq] at this
            exact this
          refine ⟨a1, a2, a3, by omega, marks_zero _ _ (Decidable.not_not.1 h3), by omega, ?_, f1 _ (fun e => h4 (.inr (.inr (.inl e)))), f1 _ (fun e => h4 (.inr (.inr (.inr e))))⟩
          cases e : Lib.validD p.token
          · exact absurd (.inr (.inl e)) h4
          · rfl
theorem name_no {x : Tx} (h : Cm.nameB x = true) : (10 : UInt8) ∉ x ∧ (32 : UInt8) ∉ x ∧ (36 : UInt8) ∉ x ∧ x ≠ [] := by
  have ha := List.all_eq_true.1 (Nc.name_in h)
  have hn : ∀ c : UInt8, Cm.inB c = false → c ∉ x := fun c hc hm => by rw [ha c hm] at hc; cases hc
  refine ⟨hn 10 (by decide), hn 32 (by decide), hn 36 (by decide), ?_⟩
  rintro rfl
  cases h
theorem name_len {x : Tx} (h : Cm.nameB x = true) : x.length ≤ 24 := by
  unfold Cm.nameB at h
  simp only [Bool.and_eq_true, decide_eq_true_eq] at h
  exact h.1.1.2
theorem pr_no {t : Pm.St} (h : mayB t = true) : (10 : UInt8) ∉ prL t := by
  unfold prL
  split
  · rename_i h1
    obtain ⟨_, _, hv⟩ := mayB_key h h1
    split
    · rename_i hnm
      simp only [List.mem_cons, not_or]
      exact ⟨by decide, (name_no hnm).1⟩
    · simp only [List.mem_cons, List.mem_append, List.not_mem_nil, or_false, not_or]
      exact ⟨by decide, quote_no hv, by decide⟩
  · split
    · rename_i h2
      obtain ⟨h0, _, _⟩ := mayB_at h h2
      simp only [List.mem_cons, List.mem_append, List.not_mem_nil, or_false, not_or]
      exact ⟨by decide, itoa_no h0 (by decide), by decide⟩
    · split
      · decide
      · split <;> decide
theorem pt_no {L : List Pm.St} (h : Np.mayE L = 0) : (10 : UInt8) ∉ ptL L := by
  unfold ptL
  simp only [List.mem_cons, List.mem_flatMap, not_or, not_exists, not_and]
  exact ⟨by decide, fun t ht => pr_no ((Np.mayE_len h).2 t ht)⟩
theorem Ok.good {p : Po} (h : Ok p) : Good ptL p :=
  ⟨fun x hx => name_no (h.names x hx), fun m hm => pt_no (h.marks m hm).1, quote_no h.valid, itoa_no (by have := h.fuel; omega) (by decide), itoa_no (by have := h.quota; omega) (by decide)⟩
theorem Ok.mark {p : Po} (h : Ok p) {m : Mk} (hm : m ∈ p.marks) : MarkOk p.cats m :=
  ⟨h.nodup, fun x hx => Cm.name_word (h.names x hx), fun x hx => (name_no (h.names x hx)).2.2.1, (h.marks m hm).2.2, (Np.mayE_len (h.marks m hm).1).1, (Np.mayE_len (h.marks m hm).1).2⟩

/-! ### how parts lie -/
/-- What lies from a number of a block on, and in no block x, is as it was. -/
def Kp (base : Nat) (x : Option Nat) (w w' : World) : Prop := w.heap.size ≤ w'.heap.size ∧ ∀ k, base ≤ k → k < w.heap.size → x ≠ some k → w'.heap[k]? = w.heap[k]?
theorem Kp.of_below {base : Nat} {x : Option Nat} {w w' : World} (h : Below w.heap.size w w') : Kp base x w w' := ⟨h.size, fun k _ hk _ => h.block k hk⟩
theorem Kp.of_off {base y : Nat} {x : Option Nat} {w w' : World} (h : Off y w w') (hy : y < base) : Kp base x w w' := ⟨h.size, fun k hb hk _ => h.block k hk (by omega)⟩
theorem Kp.of_set {base : Nat} {x : Option Nat} {w : World} (p : Addr) (u : Value) (hy : p.block < base) : Kp base x w (w.setCell p u) := ⟨by simp [World.setCell], fun k hb hk _ => Below.heap_setCell _ _ _ _ (by omega)⟩
theorem Kp.of_grown {base : Nat} {x : Option Nat} {w w' : World} (h : w.grownBy w' x) : Kp base x w w' := ⟨h.size, fun k hb hk hx => h.block k hk (fun e => hx e.symm)⟩
theorem Kp.trans {base : Nat} {x : Option Nat} {a b c : World} (h : Kp base x a b) (k : Kp base x b c) : Kp base x a c := ⟨Nat.le_trans h.1 k.1, fun i hb hi hx => (k.2 i hb (Nat.lt_of_lt_of_le hi h.1) hx).trans (h.2 i hb hi hx)⟩
/-- A row of steps that lies apart. -/
def StF (W : World) (base : Nat) (x : Option Nat) (a : Option Addr) (n : Nat) (L : List Pm.St) : Prop := L.length = n ∧ (n = 0 ∨ ∃ b o, a = some ⟨b, o, none⟩ ∧ Np.RowSt W b o L ∧ base ≤ b ∧ x ≠ some b)
def TxF (W : World) (base : Nat) (x : Option Nat) (a : Option Addr) (n : Nat) (L : List Tx) : Prop := L.length = n ∧ (L.length = 0 ∨ ∃ b o, a = some ⟨b, o, none⟩ ∧ RowO W b o L ∧ base ≤ b ∧ x ≠ some b)
theorem cell_of_blk {w w' : World} {b o : Nat} (e : w'.heap[b]? = w.heap[b]?) : w'.cell? ⟨b, o, none⟩ = w.cell? ⟨b, o, none⟩ := World.cell?_of_block (w := w) (a := ⟨b, o, none⟩) e
theorem StF.keep {W W' : World} {base : Nat} {x : Option Nat} {a : Option Addr} {n : Nat} {L : List Pm.St} (h : StF W base x a n L) (hk : Kp base x W W') : StF W' base x a n L := by
  refine ⟨h.1, h.2.imp id ?_⟩
  rintro ⟨b, o, e, r, h1, h2⟩
  have eb := hk.2 b h1 r.1 h2
  exact ⟨b, o, e, ⟨Nat.lt_of_lt_of_le r.1 hk.1, fun i hi => ⟨(cell_of_blk eb).trans (r.2 i hi).1, (cell_of_blk eb).trans (r.2 i hi).2.1, (cell_of_blk eb).trans (r.2 i hi).2.2⟩⟩, h1, h2⟩
theorem TxF.keep {W W' : World} {base : Nat} {x : Option Nat} {a : Option Addr} {n : Nat} {L : List Tx} (h : TxF W base x a n L) (hk : Kp base x W W') : TxF W' base x a n L := by
  refine ⟨h.1, h.2.imp id ?_⟩
  rintro ⟨b, o, e, r, h1, h2⟩
  have eb := hk.2 b h1 r.1 h2
  exact ⟨b, o, e, ⟨Nat.lt_of_lt_of_le r.1 hk.1, fun i hi => (cell_of_blk eb).trans (r.2 i hi)⟩, h1, h2⟩
theorem StF.is {W : World} {base : Nat} {x : Option Nat} {a : Option Addr} {n : Nat} {L : List Pm.St} (h : StF W base x a n L) : Np.StepsIn W a n L := ⟨h.1, h.2.imp id fun ⟨b, o, e, r, _⟩ => ⟨b, o, e, r⟩⟩
theorem TxF.is {W : World} {base : Nat} {x : Option Nat} {a : Option Addr} {n : Nat} {L : List Tx} (h : TxF W base x a n L) : TxIn W a n L := ⟨h.1, h.2.imp id fun ⟨b, o, e, r, _⟩ => ⟨b, o, e, r⟩⟩
theorem StF.of {W : World} {base : Nat} {x : Option Nat} {a : Option Addr} {n : Nat} {L : List Pm.St} (h : Np.StepsIn W a n L) (hn : ∀ g o, a = some ⟨g, o, none⟩ → base ≤ g ∧ x ≠ some g) : StF W base x a n L :=
  ⟨h.1, h.2.imp id fun ⟨b, o, e, r⟩ => ⟨b, o, e, r, (hn b o e).1, (hn b o e).2⟩⟩
theorem TxF.of {W : World} {base : Nat} {x : Option Nat} {a : Option Addr} {n : Nat} {L : List Tx} (h : TxIn W a n L) (hn : ∀ g o, a = some ⟨g, o, none⟩ → base ≤ g ∧ x ≠ some g) : TxF W base x a n L :=
  ⟨h.1, h.2.imp id fun ⟨b, o, e, r⟩ => ⟨b, o, e, r, (hn b o e).1, (hn b o e).2⟩⟩

/-- A mark as it lies: its slice, and what it is. -/
structure Dk where
  a : Option Addr
  n : Nat
  c : Nat
  m : Mk
def cellsM (d : Dk) : List Value := [.slice d.a d.n d.c, .int .u64 (d.m.mask : Int)]
def rowM (D : List Dk) : List Value := D.flatMap cellsM
theorem rowM_len (D : List Dk) : (rowM D).length = D.length * 2 := by
  unfold rowM
  induction D with
  | nil => rfl
  | cons d r ih => rw [List.flatMap_cons, List.length_append, ih, List.length_cons]; simp [cellsM]; omega
theorem rowM_snoc (D : List Dk) (d : Dk) : rowM (D ++ [d]) = rowM D ++ cellsM d := by unfold rowM; simp
theorem rowM_at : ∀ (D : List Dk) (i r : Nat) (hr : r < 2) (hi : i < D.length), (rowM D)[i * 2 + r]? = (cellsM (D[i]'hi))[r]?
  | d :: D, 0, r, hr, hi => by
    unfold rowM
    rw [List.flatMap_cons, List.getElem?_append_left (by simp [cellsM]; omega)]
    simp
  | d :: D, i + 1, r, hr, hi => by
    have := rowM_at D i r hr (by simpa using hi)
    unfold rowM at this ⊢
    rw [List.flatMap_cons, List.getElem?_append_right (by simp [cellsM]; omega)]
    rw [show (i + 1) * 2 + r - (cellsM d).length = i * 2 + r by simp [cellsM]; omega, this]
    simp
/-- A row of marks, as a slice has it. -/
def MarksIn (w : World) (a : Option Addr) (n : Nat) (ms : List Mk) : Prop := ms.length = n ∧ (n = 0 ∨ ∃ g o, a = some ⟨g, o, none⟩ ∧ g < w.heap.size ∧ ∀ i, ∀ hi : i < ms.length, (ms[i]'hi).mask < 18446744073709551616 ∧
  ∃ b k c, w.cell? ⟨g, o + i * 2, none⟩ = some (.slice b k c) ∧ w.cell? ⟨g, o + i * 2 + 1, none⟩ = some (.int .u64 ((ms[i]'hi).mask : Int)) ∧ Np.StepsIn w b k (ms[i]'hi).path)
theorem MarksIn.step {w w' : World} {a : Option Addr} {n : Nat} {ms : List Mk} (h : MarksIn w a n ms) (hb : Below w.heap.size w w') : MarksIn w' a n ms := by
  refine ⟨h.1, h.2.imp id ?_⟩
  rintro ⟨g, o, e, hg, r⟩
  refine ⟨g, o, e, Nat.lt_of_lt_of_le hg hb.size, fun i hi => ?_⟩
  obtain ⟨hm, b, k, c, r1, r2, r3⟩ := r i hi
  exact ⟨hm, b, k, c, (hb.cell (p := ⟨g, _, none⟩) hg).trans r1, (hb.cell (p := ⟨g, _, none⟩) hg).trans r2, r3.step hb⟩
/-- A policy, as a value has it. -/
def PolIn (w : World) (v : Value) (p : Po) : Prop := ∃ a n c b m d, ∃ tok : ByteArray, v = .agg #[.slice a n c, .slice b m d, .string tok, .int .i64 p.fuel, .int .i64 p.quota] ∧ tok.data.toList = p.token ∧ TxIn w a n p.cats ∧ MarksIn w b m p.marks
theorem PolIn.step {w w' : World} {v : Value} {p : Po} (h : PolIn w v p) (hb : Below w.heap.size w w') : PolIn w' v p := by
  obtain ⟨a, n, c, b, m, d, tok, h1, h2, h3, h4⟩ := h
  exact ⟨a, n, c, b, m, d, tok, h1, h2, h3.step hb, h4.step hb⟩

theorem ownM_block {w w' : World} {base k : Nat} {v : Value} {xs : List Value} (h : w.ownsRow base 59 2 v k xs) (hB : ∀ g, v.ownBlock = some g → w'.heap[g]? = w.heap[g]?) : w'.ownsRow base 59 2 v k xs := by
  obtain ⟨h0, h⟩ := h
  refine ⟨h0, ?_⟩
  rcases h with ⟨e, e2⟩ | ⟨g', cap', cur, hv, hg, hh, r⟩
  · exact .inl ⟨e, e2⟩
  · refine .inr ⟨g', cap', cur, hv, hg, ?_, r⟩
    rw [hB g' (by rw [hv]; rfl)]
    exact hh
theorem addM (b o j : Nat) : (⟨b, o, none⟩ : Addr).add j = ⟨b, o + j, none⟩ := by unfold Addr.add; split <;> simp_all
theorem infoM : (Tryz.prog.info? 59).map (fun i => (i.zero, i.size, i.bytes)) = some (some (.agg #[.slice none 0 0, .int .u64 0]), 2, 32) := by kernel_rfl
theorem newM (w : World) (d : Dk) (ty : TypeId) : ∀ j u, (cellsM d)[j]? = some u → (w.alloc (.cells #[.slice d.a d.n d.c, .int .u64 (d.m.mask : Int)] ty)).cell? ((⟨w.heap.size, 0, none⟩ : Addr).add j) = some u := by
  intro j u h
  rw [addM, World.cell?_alloc_at _ _ _ _ (by omega)]
  simpa [cellsM] using h
/-- A mark that may be told whether it may be. -/
def GoodMk (m : Mk) : Prop := m.mask < 18446744073709551616 ∧ m.path.length ≤ 8
/-- A row of marks that lies apart. -/
def MarksF (w : World) (base : Nat) (a : Option Addr) (n : Nat) (ms : List Mk) : Prop := ms.length = n ∧ (n = 0 ∨ ∃ g o, a = some ⟨g, o, none⟩ ∧ base ≤ g ∧ g < w.heap.size ∧ ∀ i, ∀ hi : i < ms.length, (ms[i]'hi).mask < 18446744073709551616 ∧
  ∃ b k c, w.cell? ⟨g, o + i * 2, none⟩ = some (.slice b k c) ∧ w.cell? ⟨g, o + i * 2 + 1, none⟩ = some (.int .u64 ((ms[i]'hi).mask : Int)) ∧ StF w base none b k (ms[i]'hi).path)
theorem MarksF.keep {w w' : World} {base : Nat} {a : Option Addr} {n : Nat} {ms : List Mk} (h : MarksF w base a n ms) (hk : Kp base none w w') : MarksF w' base a n ms := by
  refine ⟨h.1, h.2.imp id ?_⟩
  rintro ⟨g, o, e, hb, hg, r⟩
  have eb := hk.2 g hb hg (by simp)
  refine ⟨g, o, e, hb, Nat.lt_of_lt_of_le hg hk.1, fun i hi => ?_⟩
  obtain ⟨hm, b, k, c, r1, r2, r3⟩ := r i hi
  exact ⟨hm, b, k, c, (cell_of_blk eb).trans r1, (cell_of_blk eb).trans r2, r3.keep hk⟩
theorem MarksF.is {w : World} {base : Nat} {a : Option Addr} {n : Nat} {ms : List Mk} (h : MarksF w base a n ms) : MarksIn w a n ms := by
  refine ⟨h.1, h.2.imp id ?_⟩
  rintro ⟨g, o, e, hb, hg, r⟩
  refine ⟨g, o, e, hg, fun i hi => ?_⟩
  obtain ⟨hm, b, k, c, r1, r2, r3⟩ := r i hi
  exact ⟨hm, b, k, c, r1, r2, r3.is⟩
/-- A policy that lies apart, as a value has it. -/
def PolF (w : World) (base : Nat) (v : Value) (p : Po) : Prop := ∃ a n c b m d, ∃ tok : ByteArray, v = .agg #[.slice a n c, .slice b m d, .string tok, .int .i64 p.fuel, .int .i64 p.quota] ∧ tok.data.toList = p.token ∧ TxF w base none a n p.cats ∧ MarksF w base b m p.marks
theorem PolF.keep {w w' : World} {base : Nat} {v : Value} {p : Po} (h : PolF w base v p) (hk : Kp base none w w') : PolF w' base v p := by
  obtain ⟨a, n, c, b, m, d, tok, h1, h2, h3, h4⟩ := h
  exact ⟨a, n, c, b, m, d, tok, h1, h2, h3.keep hk, h4.keep hk⟩
theorem PolF.is {w : World} {base : Nat} {v : Value} {p : Po} (h : PolF w base v p) : PolIn w v p := by
  obtain ⟨a, n, c, b, m, d, tok, h1, h2, h3, h4⟩ := h
  exact ⟨a, n, c, b, m, d, tok, h1, h2, h3.is, h4.is⟩
theorem MarksF.low {w : World} {base base' : Nat} {a : Option Addr} {n : Nat} {ms : List Mk} (h : MarksF w base a n ms) (hb : base' ≤ base) : MarksF w base' a n ms := by
  refine ⟨h.1, h.2.imp id ?_⟩
  rintro ⟨g, o, e, h1, hg, r⟩
  refine ⟨g, o, e, Nat.le_trans hb h1, hg, fun i hi => ?_⟩
  obtain ⟨hm, b, k, c, r1, r2, r3⟩ := r i hi
  exact ⟨hm, b, k, c, r1, r2, r3.1, r3.2.imp id fun ⟨b, o, e, r, h1, h2⟩ => ⟨b, o, e, r, Nat.le_trans hb h1, by simp⟩⟩
theorem StF.low {W : World} {base base' : Nat} {x : Option Nat} {a : Option Addr} {n : Nat} {L : List Pm.St} (h : StF W base x a n L) (hb : base' ≤ base) : StF W base' none a n L :=
  ⟨h.1, h.2.imp id fun ⟨b, o, e, r, h1, h2⟩ => ⟨b, o, e, r, Nat.le_trans hb h1, by simp⟩⟩
theorem TxF.low {W : World} {base base' : Nat} {x : Option Nat} {a : Option Addr} {n : Nat} {L : List Tx} (h : TxF W base x a n L) (hb : base' ≤ base) : TxF W base' none a n L :=
  ⟨h.1, h.2.imp id fun ⟨b, o, e, r, h1, h2⟩ => ⟨b, o, e, r, Nat.le_trans hb h1, by simp⟩⟩
/-- The marks that are read lie as a row. -/
theorem marks_of {W : World} {base k : Nat} {v : Value} {D : List Dk} (h : W.ownsRow base 59 2 v k (rowM D)) (hk : D.length = k) (hd : ∀ d ∈ D, GoodMk d.m ∧ StF W base v.ownBlock d.a d.n d.m.path) :
    ∃ a c, v = .slice a k c ∧ MarksF W base a k (D.map (·.m)) := by
  by_cases h0 : k = 0
  · rcases h.2 with ⟨e, _⟩ | ⟨g, cap, cur, hv, _⟩
    · exact ⟨none, 0, by rw [e, h0], by simp [hk], .inl h0⟩
    · exact ⟨_, cap, hv, by simp [hk], .inl h0⟩
  · obtain ⟨g, cap, rfl, hb, hg⟩ := h.form (by omega)
    refine ⟨_, cap, rfl, by simp [hk], .inr ⟨g, 0, rfl, hb, hg, fun i hi => ?_⟩⟩
    have hi2 : i < D.length := by simpa using hi
    have e0 := h.cells (g := g) rfl (i * 2) (.slice (D[i]'hi2).a (D[i]'hi2).n (D[i]'hi2).c) (by have := rowM_at D i 0 (by omega) hi2; rw [Nat.add_zero] at this; rw [this]; rfl)
    have e1 := h.cells (g := g) rfl (i * 2 + 1) (.int .u64 ((D[i]'hi2).m.mask : Int)) (by rw [rowM_at D i 1 (by omega) hi2]; rfl)
    rw [addM] at e0 e1
    rw [Nat.zero_add] at e0 e1
    obtain ⟨d1, d2⟩ := hd _ (List.getElem_mem hi2)
    simp only [List.getElem_map, Nat.zero_add]
    exact ⟨d1.1, _, _, _, e0, e1, d2.low (Nat.le_refl _)⟩
end Go.Proofs.YtnagecbepidfiaaGreatDoor.Pol
