/- What is proved here: plain facts on a filter's tokens: what stands at the beginning of a text, and the tokens of a text; conditions: as each theorem states. It imports nothing of any program. -/
import Derived.Test.YtppkknmgdahniabDoorAb
import Derived.Test.YtppkknmgdahniabDoorAa
namespace Go.Proofs.YtppkknmgdahniabDoor.Lx
set_option maxRecDepth 100000
set_option maxRecDepth 100000
set_option linter.unusedVariables false
set_option linter.unusedSimpArgs false

abbrev Tx := List UInt8
def digs : Tx := [48, 49, 50, 51, 52, 53, 54, 55, 56, 57]
def inNames : Tx := [97, 98, 99, 100, 101, 102, 103, 104, 105, 106, 107, 108, 109, 110, 111, 112, 113, 114, 115, 116, 117, 118, 119, 120, 121, 122, 95, 48, 49, 50, 51, 52, 53, 54, 55, 56, 57]
def blanks : Tx := [32, 9, 10, 13]
/-- A text without the bytes of a set that it begins with. -/
def trimC (l cs : Tx) : Tx := l.dropWhile (fun c => cs.contains c)
/-- How many bytes of a set a text begins with. -/
def runN (cs l : Tx) : Nat := l.length - (trimC l cs).length
theorem trim_le (l cs : Tx) : (trimC l cs).length ≤ l.length := by
  unfold trimC
  exact (List.dropWhile_sublist _).length_le
theorem run_len (cs l : Tx) : (l.takeWhile (fun c => cs.contains c)).length = runN cs l := by
  have h := congrArg List.length (List.takeWhile_append_dropWhile (p := fun c => cs.contains c) (l := l))
  rw [List.length_append] at h
  unfold runN trimC
  omega
theorem trim_drop (l cs : Tx) : trimC l cs = l.drop (runN cs l) := by
  have h := List.takeWhile_append_dropWhile (p := fun c => cs.contains c) (l := l)
  have h2 := congrArg (List.drop (l.takeWhile (fun c => cs.contains c)).length) h
  rw [List.drop_left] at h2
  rw [← run_len]
  exact h2
theorem run_take (cs l : Tx) : l.take (runN cs l) = l.takeWhile (fun c => cs.contains c) := by
  have h := List.takeWhile_append_dropWhile (p := fun c => cs.contains c) (l := l)
  have h2 := congrArg (List.take (l.takeWhile (fun c => cs.contains c)).length) h
  rw [List.take_left] at h2
  rw [← run_len]
  exact h2.symm
theorem run_le (cs l : Tx) : runN cs l ≤ l.length := Nat.sub_le _ _
/-- A token, but for its place. -/
structure Tk where
  k : Nat
  tx : Tx
  ng : Bool
  dg : Tx
  sc : Nat

def namedO (k : Nat) (pre l : Tx) : Option (Tk × Nat) :=
  if Lib.hasPrefix l pre = true ∧ Cm.nameB ((l.drop pre.length).take (runN inNames (l.drop pre.length))) = true then
    some (⟨k, (l.drop pre.length).take (runN inNames (l.drop pre.length)), false, [], 0⟩, pre.length + runN inNames (l.drop pre.length)) else none
def quotedO (k : Nat) (pre l : Tx) : Option (Tk × Nat) :=
  if Lib.hasPrefix l pre = true ∧ (Qm.unquoteL (l.drop pre.length)).2.2 = 0 then
    some (⟨k, (Qm.unquoteL (l.drop pre.length)).1, false, [], 0⟩, pre.length + (Qm.unquoteL (l.drop pre.length)).2.1) else none
/-- How many bytes one of some beginnings and the digits behind it have. -/
def partN (l : Tx) : List Tx → Nat
  | [] => 0
  | b :: bs => if Lib.hasPrefix l b = true ∧ 0 < runN digs (l.drop b.length) then b.length + runN digs (l.drop b.length) else partN l bs
def exps : List Tx := [[101], [101, 43], [101, 45], [69], [69, 43], [69, 45]]
def num1 (l : Tx) : Nat := partN l [[]]
def num2 (l : Tx) : Nat := num1 l + partN (l.drop (num1 l)) [[46]]
def num3 (l : Tx) : Nat := num2 l + partN (l.drop (num2 l)) exps
def numO (l : Tx) : Option (Tk × Nat) :=
  match Dm.parseL (l.take (num3 l)) with
  | some (some d) => some (⟨4, [], d.ng, d.ds, d.sc⟩, num3 l)
  | _ => none
def signs : List Tx := [[61, 61], [33, 61], [60, 61], [62, 61], [46], [40], [41], [91], [93], [123], [125], [124], [44], [58], [59], [43], [45], [42], [47], [37], [60], [62]]
def signO (l : Tx) : Option (Tk × Nat) :=
  match signs.find? (fun g => Lib.hasPrefix l g) with
  | some g => some (⟨6, g, false, [], 0⟩, g.length)
  | none => none
def keyO (l : Tx) : Option (Tk × Nat) :=
  match namedO 3 [46] l with
  | some x => some x
  | none => quotedO 3 [46] l
/-- The readers, in their order. -/
def rdr : Nat → Tx → Option (Tk × Nat)
  | 0, l => namedO 1 [] l
  | 1, l => namedO 2 [36] l
  | 2, l => keyO l
  | 3, l => numO l
  | 4, l => quotedO 5 [] l
  | _, l => signO l
def orO (a b : Option (Tk × Nat)) : Option (Tk × Nat) := match a with | some x => some x | none => b
def readO (l : Tx) : Option (Tk × Nat) := orO (rdr 0 l) (orO (rdr 1 l) (orO (rdr 2 l) (orO (rdr 3 l) (orO (rdr 4 l) (rdr 5 l)))))
theorem orO_none (b : Option (Tk × Nat)) : orO none b = b := rfl
theorem orO_some (x : Tk × Nat) (b : Option (Tk × Nat)) : orO (some x) b = some x := rfl
theorem read_at {l : Tx} {k : Nat} (hk : k < 6) (h : ∀ j, j < k → rdr j l = none) {x : Tk × Nat} (hx : rdr k l = some x) : readO l = some x := by
  unfold readO
  match k, hk with
  | 0, _ => rw [hx, orO_some]
  | 1, _ => rw [h 0 (by decide), orO_none, hx, orO_some]
  | 2, _ => rw [h 0 (by decide), orO_none, h 1 (by decide), orO_none, hx, orO_some]
  | 3, _ => rw [h 0 (by decide), orO_none, h 1 (by decide), orO_none, h 2 (by decide), orO_none, hx, orO_some]
  | 4, _ => rw [h 0 (by decide), orO_none, h 1 (by decide), orO_none, h 2 (by decide), orO_none, h 3 (by decide), orO_none, hx, orO_some]
  | 5, _ => rw [h 0 (by decide), orO_none, h 1 (by decide), orO_none, h 2 (by decide), orO_none, h 3 (by decide), orO_none, h 4 (by decide), orO_none, hx]
theorem read_none {l : Tx} (h : ∀ j, j < 6 → rdr j l = none) : readO l = none := by
  unfold readO
  rw [h 0 (by decide), orO_none, h 1 (by decide), orO_none, h 2 (by decide), orO_none, h 3 (by decide), orO_none, h 4 (by decide), orO_none, h 5 (by decide)]
theorem read_cases {l : Tx} {x : Tk × Nat} (h : readO l = some x) : ∃ k, k < 6 ∧ (∀ j, j < k → rdr j l = none) ∧ rdr k l = some x := by
  unfold readO at h
  cases h0 : rdr 0 l with
  | some y => rw [h0, orO_some] at h; exact ⟨0, by decide, fun j hj => by omega, by rw [h0]; exact h⟩
  | none =>
    rw [h0, orO_none] at h
    cases h1 : rdr 1 l with
    | some y => rw [h1, orO_some] at h; exact ⟨1, by decide, fun j hj => (match j, hj with | 0, _ => h0 | n + 1, h => absurd h (by omega)), by rw [h1]; exact h⟩
    | none =>
      rw [h1, orO_none] at h
      cases h2 : rdr 2 l with
      | some y => rw [h2, orO_some] at h; exact ⟨2, by decide, fun j hj => (match j, hj with | 0, _ => h0 | 1, _ => h1 | n + 2, h => absurd h (by omega)), by rw [h2]; exact h⟩
      | none =>
        rw [h2, orO_none] at h
        cases h3 : rdr 3 l with
        | some y => rw [h3, orO_some] at h; exact ⟨3, by decide, fun j hj => (match j, hj with | 0, _ => h0 | 1, _ => h1 | 2, _ => h2 | n + 3, h => absurd h (by omega)), by rw [h3]; exact h⟩
        | none =>
          rw [h3, orO_none] at h
          cases h4 : rdr 4 l with
          | some y => rw [h4, orO_some] at h; exact ⟨4, by decide, fun j hj => (match j, hj with | 0, _ => h0 | 1, _ => h1 | 2, _ => h2 | 3, _ => h3 | n + 4, h => absurd h (by omega)), by rw [h4]; exact h⟩
          | none =>
            rw [h4, orO_none] at h
            exact ⟨5, by decide, fun j hj => (match j, hj with | 0, _ => h0 | 1, _ => h1 | 2, _ => h2 | 3, _ => h3 | 4, _ => h4 | n + 5, h => absurd h (by omega)), h⟩

/-! ### how many bytes -/
theorem pre_le {l p : Tx} (h : Lib.hasPrefix l p = true) : p.length ≤ l.length := by
  unfold Lib.hasPrefix at h
  exact (List.isPrefixOf_iff_prefix.1 h).length_le
theorem pre_split {l p : Tx} (h : Lib.hasPrefix l p = true) : l = p ++ l.drop p.length := by
  unfold Lib.hasPrefix at h
  obtain ⟨t, ht⟩ := List.isPrefixOf_iff_prefix.1 h
  rw [← ht, List.drop_left]
theorem named_some {k : Nat} {pre l : Tx} {x : Tk × Nat} (h : namedO k pre l = some x) : Lib.hasPrefix l pre = true ∧ Cm.nameB ((l.drop pre.length).take (runN inNames (l.drop pre.length))) = true ∧
    x = (⟨k, (l.drop pre.length).take (runN inNames (l.drop pre.length)), false, [], 0⟩, pre.length + runN inNames (l.drop pre.length)) := by
  unfold namedO at h
  split at h
  · rename_i hc; exact ⟨hc.1, hc.2, (Option.some.inj h).symm⟩
  · cases h
theorem quoted_some {k : Nat} {pre l : Tx} {x : Tk × Nat} (h : quotedO k pre l = some x) : Lib.hasPrefix l pre = true ∧ (Qm.unquoteL (l.drop pre.length)).2.2 = 0 ∧
    x = (⟨k, (Qm.unquoteL (l.drop pre.length)).1, false, [], 0⟩, pre.length + (Qm.unquoteL (l.drop pre.length)).2.1) := by
  unfold quotedO at h
  split at h
  · rename_i hc; exact ⟨hc.1, hc.2, (Option.some.inj h).symm⟩
  · cases h
theorem name_len {l : Tx} (h : Cm.nameB l = true) : 1 ≤ l.length ∧ l.length ≤ 24 := by
  unfold Cm.nameB at h
  simp only [Bool.and_eq_true, decide_eq_true_eq] at h
  exact ⟨h.1.1.1, h.1.1.2⟩
theorem named_size {k : Nat} {pre l : Tx} {x : Tk × Nat} (h : namedO k pre l = some x) : 1 ≤ x.2 ∧ x.2 ≤ l.length := by
  obtain ⟨h1, h2, rfl⟩ := named_some h
  have h3 := name_len h2
  have h4 := pre_le h1
  have h5 := run_le inNames (l.drop pre.length)
  rw [List.length_take] at h3
  rw [List.length_drop] at h5
  constructor
  · show 1 ≤ pre.length + runN inNames (l.drop pre.length); omega
  · show pre.length + runN inNames (l.drop pre.length) ≤ l.length; omega
theorem quoted_size {k : Nat} {pre l : Tx} {x : Tk × Nat} (h : quotedO k pre l = some x) : 1 ≤ x.2 ∧ x.2 ≤ l.length := by
  obtain ⟨h1, h2, rfl⟩ := quoted_some h
  have h4 := pre_le h1
  rcases Qm.unquote_shape (l.drop pre.length) with ⟨t, n, e, -, h6, h7, -⟩ | e | e
  · rw [e]
    rw [List.length_drop] at h7
    constructor
    · show 1 ≤ pre.length + n; omega
    · show pre.length + n ≤ l.length; omega
  · rw [e] at h2; cases h2
  · rw [e] at h2; cases h2
theorem part_le (l : Tx) : ∀ bs, partN l bs ≤ l.length
  | [] => Nat.zero_le _
  | b :: bs => by
    unfold partN
    split
    · rename_i h
      have h4 := pre_le h.1
      have h5 := run_le digs (l.drop b.length)
      rw [List.length_drop] at h5
      omega
    · exact part_le l bs
theorem num1_le (l : Tx) : num1 l ≤ l.length := part_le _ _
theorem num2_le (l : Tx) : num2 l ≤ l.length := by
  have h1 := num1_le l
  have h2 := part_le (l.drop (num1 l)) [[46]]
  rw [List.length_drop] at h2
  unfold num2
  omega
theorem num3_le (l : Tx) : num3 l ≤ l.length := by
  have h1 := num2_le l
  have h2 := part_le (l.drop (num2 l)) exps
  rw [List.length_drop] at h2
  unfold num3
  omega
theorem num_some {l : Tx} {x : Tk × Nat} (h : numO l = some x) : ∃ d, Dm.parseL (l.take (num3 l)) = some (some d) ∧ x = (⟨4, [], d.ng, d.ds, d.sc⟩, num3 l) := by
  unfold numO at h
  split at h
  · rename_i d hd; exact ⟨d, hd, (Option.some.inj h).symm⟩
  · cases h
theorem num_size {l : Tx} {x : Tk × Nat} (h : numO l = some x) : 1 ≤ x.2 ∧ x.2 ≤ l.length := by
  obtain ⟨d, hd, rfl⟩ := num_some h
  refine ⟨?_, num3_le l⟩
  show 1 ≤ num3 l
  rcases Nat.eq_zero_or_pos (num3 l) with e | e
  · rw [e, List.take_zero] at hd
    have : Dm.parseL [] = none := by decide +kernel
    rw [this] at hd; cases hd
  · exact e
theorem sign_some {l : Tx} {x : Tk × Nat} (h : signO l = some x) : ∃ g, g ∈ signs ∧ Lib.hasPrefix l g = true ∧ x = (⟨6, g, false, [], 0⟩, g.length) := by
  unfold signO at h
  split at h
  · rename_i g hg
    exact ⟨g, List.mem_of_find?_eq_some hg, List.find?_some hg, (Option.some.inj h).symm⟩
  · cases h
theorem signs_len : ∀ g ∈ signs, 1 ≤ g.length ∧ g.length ≤ 2 := by decide
theorem sign_size {l : Tx} {x : Tk × Nat} (h : signO l = some x) : 1 ≤ x.2 ∧ x.2 ≤ l.length := by
  obtain ⟨g, h1, h2, rfl⟩ := sign_some h
  exact ⟨(signs_len g h1).1, pre_le h2⟩
theorem key_size {l : Tx} {x : Tk × Nat} (h : keyO l = some x) : 1 ≤ x.2 ∧ x.2 ≤ l.length := by
  unfold keyO at h
  split at h
  · rename_i y hy; exact named_size (by rw [hy]; exact h)
  · exact quoted_size h
theorem rdr_size {l : Tx} {x : Tk × Nat} : ∀ {k : Nat}, rdr k l = some x → 1 ≤ x.2 ∧ x.2 ≤ l.length
  | 0, h => named_size h
  | 1, h => named_size h
  | 2, h => key_size h
  | 3, h => num_size h
  | 4, h => quoted_size h
  | _ + 5, h => sign_size h
theorem read_size {l : Tx} {x : Tk × Nat} (h : readO l = some x) : 1 ≤ x.2 ∧ x.2 ≤ l.length := by
  obtain ⟨k, -, -, hk⟩ := read_cases h
  exact rdr_size hk

/-! ### all tokens -/
def trimB (l : Tx) : Tx := trimC l blanks
/-- The tokens of a text, each with how many bytes were left; none: there is a wrong one. -/
def toks : Nat → Tx → Option (List (Tk × Nat))
  | 0, _ => none
  | f + 1, l => if trimB l = [] then some [] else
    match readO (trimB l) with
    | none => none
    | some x => (toks f ((trimB l).drop x.2)).map (fun r => (x.1, (trimB l).length) :: r)
theorem toks_end {f : Nat} {l : Tx} (h : trimB l = []) : toks (f + 1) l = some [] := by unfold toks; rw [if_pos h]
theorem toks_wrong {f : Nat} {l : Tx} (h : ¬ trimB l = []) (hr : readO (trimB l) = none) : toks (f + 1) l = none := by unfold toks; rw [if_neg h, hr]
theorem toks_next {f : Nat} {l : Tx} (h : ¬ trimB l = []) {x : Tk × Nat} (hr : readO (trimB l) = some x) : toks (f + 1) l = (toks f ((trimB l).drop x.2)).map (fun r => (x.1, (trimB l).length) :: r) := by
  conv => lhs; unfold toks
  rw [if_neg h, hr]
theorem toks_fuel : ∀ (f g : Nat) (l : Tx), l.length < f → l.length < g → toks f l = toks g l
  | 0, _, _, h, _ => absurd h (Nat.not_lt_zero _)
  | _ + 1, 0, _, _, h => absurd h (Nat.not_lt_zero _)
  | f + 1, g + 1, l, h1, h2 => by
    by_cases ht : trimB l = []
    · rw [toks_end ht, toks_end ht]
    · cases hr : readO (trimB l) with
      | none => rw [toks_wrong ht hr, toks_wrong ht hr]
      | some x =>
        have hs := read_size hr
        have hl : (trimB l).length ≤ l.length := trim_le l blanks
        have hd : ((trimB l).drop x.2).length < l.length := by rw [List.length_drop]; omega
        rw [toks_next ht hr, toks_next ht hr, toks_fuel f g _ (by omega) (by omega)]
def lexO (l : Tx) : Option (List (Tk × Nat)) := toks (l.length + 1) l
theorem lex_end {l : Tx} (h : trimB l = []) : lexO l = some [] := toks_end h
theorem lex_wrong {l : Tx} (h : ¬ trimB l = []) (hr : readO (trimB l) = none) : lexO l = none := toks_wrong h hr
theorem lex_next {l : Tx} (h : ¬ trimB l = []) {x : Tk × Nat} (hr : readO (trimB l) = some x) : lexO l = (lexO ((trimB l).drop x.2)).map (fun r => (x.1, (trimB l).length) :: r) := by
  have hs := read_size hr
  have hl : (trimB l).length ≤ l.length := trim_le l blanks
  unfold lexO
  rw [toks_next h hr]
  congr 1
  exact toks_fuel _ _ _ (by rw [List.length_drop]; omega) (by omega)
/-- The error that All tells. -/
def errL (l : Tx) : Nat := if 2000 < l.length then 3 else match lexO l with | none => 30 | some T => if 600 < T.length then 3 else 0
/-- The tokens that All tells. -/
def allL (l : Tx) : List (Tk × Nat) := if 2000 < l.length then [] else match lexO l with | none => [] | some T => if 600 < T.length then [] else T
end Go.Proofs.YtppkknmgdahniabDoor.Lx
