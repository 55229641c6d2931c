/- What is proved here: plain facts on names, rows of names, and masks; conditions: none. It imports nothing of any program. -/
import Derived.PlainAid
namespace Go.Proofs.YtomhgafpjpnmdaaGreatDoor.Cm
set_option linter.unusedVariables false

abbrev Tx := List UInt8
def letB (c : UInt8) : Bool := decide (97 ≤ c.toNat) && decide (c.toNat ≤ 122)
def inB (c : UInt8) : Bool := letB c || (decide (48 ≤ c.toNat) && decide (c.toNat ≤ 57)) || decide (c.toNat = 95)
/-- Whether a text may be a name. -/
def nameB (l : Tx) : Bool := decide (1 ≤ l.length) && decide (l.length ≤ 24) && letB (l.getD 0 0) && l.all inB
/-- The bit of the category at a place; none behind the 64th. -/
def bitN (i : Nat) : Nat := if i < 64 then 2 ^ i else 0
/-- Whether a row of categories may be. -/
def mayE (L : List Tx) : Nat := if 64 < L.length then 3 else if L.all nameB && decide L.Nodup then 0 else 20
/-- The place of a name. -/
def idx (L : List Tx) (x : Tx) : Option Nat := L.findIdx? (fun y => y == x)
/-- The texts between blanks: what is read so far, what is left. -/
def spl : Tx → Tx → List Tx
  | cur, [] => if cur = [] then [] else [cur]
  | cur, c :: r => if c = 32 then (if cur = [] then spl [] r else cur :: spl [] r) else spl (cur ++ [c]) r
def words (l : Tx) : List Tx := spl [] l
/-- The mask of a row of names, and the error. -/
def maskF (L : List Tx) : Nat → List Tx → Nat × Nat
  | m, [] => (m, 0)
  | m, x :: r => match idx L x with
    | none => (0, 20)
    | some k => maskF L (m ||| 2 ^ k) r
/-- The names of a mask, of the first k categories. -/
def selK (L : List Tx) (m k : Nat) : List Tx := ((List.range k).filter fun i => m.testBit i).map fun i => L.getD i []
/-- Texts, a blank ahead of each. -/
def flatB (ws : List Tx) : Tx := (ws.map fun x => 32 :: x).flatten
/-- Texts, a blank between two. -/
def joinB (ws : List Tx) : Tx := (flatB ws).drop 1
/-- Whether each bit of a is one of b. -/
def subB (a b : Nat) : Bool := (a &&& b) == a
theorem subB_iff {a b : Nat} (ha : a < 18446744073709551616) (hb : b < 18446744073709551616) : subB a b = true ↔ a &&& (18446744073709551615 - b) = 0 := by
  unfold subB
  rw [beq_iff_eq]
  have h2 : ∀ i, (18446744073709551615 - b).testBit i = (decide (i < 64) && !b.testBit i) := by
    intro i
    have := Nat.testBit_two_pow_sub_succ (n := 64) (x := b) hb i
    rw [← this]
    congr 1
    omega
  have h3 : ∀ i, a.testBit i = true → i < 64 := by
    intro i hi
    rcases Nat.lt_or_ge i 64 with g | g
    · exact g
    · rw [Nat.testBit_lt_two_pow (Nat.lt_of_lt_of_le (show a < 2 ^ 64 from ha) (Nat.pow_le_pow_right (n := 2) (by omega) g))] at hi
      cases hi
  constructor
  · intro h
    apply Nat.eq_of_testBit_eq
    intro i
    have := congrArg (fun x => x.testBit i) h
    simp only [Nat.testBit_and, h2, Nat.zero_testBit] at this ⊢
    cases ha : a.testBit i <;> cases hb : b.testBit i <;> simp_all
  · intro h
    apply Nat.eq_of_testBit_eq
    intro i
    have := congrArg (fun x => x.testBit i) h
    simp only [Nat.testBit_and, h2, Nat.zero_testBit] at this ⊢
    cases ha : a.testBit i
    · simp
    · have := h3 i ha
      cases hb : b.testBit i <;> simp_all
end Go.Proofs.YtomhgafpjpnmdaaGreatDoor.Cm
