/- What is proved here: what fit of package dec does with digits that lie in memory, walked; conditions: as each theorem states. What is proved here: what append of a text's bytes to a text's converted bytes leaves in memory; conditions: both are short. What is proved here: what Parse of package dec does, walked; conditions: the text has at most 100000 bytes. -/
import Derived.Test.YtigpfbfkdccdaaaDoorWd
import Derived.Test.YtigpfbfkdccdaaaDoorRt
import Derived.Test.YtigpfbfkdccdaaaDoorRb
import Derived.Laws.BytesArg
import Derived.RegionTactic
import Derived.Deep.RegionWith
import Derived.Deep.CutRange
import Derived.Deep.AppendSrc
import Derived.Lib.ConvBytes
import Derived.Laws.IdiomCopy
namespace Go.Proofs.YtigpfbfkdccdaaaDoor
open Go.RowKit
set_option linter.unusedVariables false
set_option linter.unusedSimpArgs false

theorem repeatL_48 (n : Nat) : Lib.repeatL [48] n = List.replicate n 48 := by
  induction n with
  | zero => rfl
  | succ n ih => rw [List.replicate_succ, Lib.repeatL, ih]; rfl
theorem str_join (l : List UInt8) (n : Nat) : (⟨l.toArray⟩ ++ ⟨Array.replicate n 48⟩ : ByteArray) = ⟨(l ++ List.replicate n 48).toArray⟩ := by
  rw [← ByteArray.mk_append_mk]; simp
/-- A decimal as a value. -/
def dV (d : Dm.D) : Value := .agg #[.bool d.ng, .string ⟨d.ds.toArray⟩, .int .i64 (d.sc : Int)]
def zV : Value := .agg #[.bool false, .string ⟨#[]⟩, .int .i64 0]
/-- What a call hands back: a decimal and OK; or none and ErrBig. -/
def rV (r : Option Dm.D) : Value := match r with
  | some d => .tuple #[dV d, .int .i64 0]
  | none => .tuple #[zV, .int .i64 3]

end Go.Proofs.YtigpfbfkdccdaaaDoor

namespace Go.Proofs.YtigpfbfkdccdaaaDoor
open Go.RowKit
set_option linter.unusedVariables false
set_option linter.unusedSimpArgs false

theorem below_setCells {B : Nat} {a : World} (b : Nat) (hb : B ≤ b) : ∀ (vs : List Value) (o : Nat) (w : World), Below B a w → Below B a (w.setCells b o vs) := by
  intro vs
  induction vs with
  | nil => intro o w h; exact h
  | cons v vs ih => intro o w h; exact ih _ _ (h.setCell hb v)
theorem bytesWorld_below (W : World) (e : TypeId) (s : ByteArray) : Below W.heap.size W (Lib.bytesWorld W e s) :=
  ⟨rfl, rfl, rfl, by rw [Lib.bytesWorld_size]; omega, fun k hk => Lib.bytesWorld_at_old W e s k hk⟩
theorem appended (l m : List UInt8) (i : Nat) : (l ++ m).getD i 0 = if i < l.length then l.getD i 0 else m.getD (i - l.length) 0 := by
  by_cases h : i < l.length
  · rw [if_pos h]; simp [List.getD, List.getElem?_append_left h]
  · rw [if_neg h]; simp [List.getD, List.getElem?_append_right (Nat.le_of_not_lt h)]

/-- An append whose run is known. -/
theorem wpList_append_runT {ops : Array Oper} {rest : List Oper} {o : Oper} {a : Act} {Q : Exit → Act → World → Prop} (w : World) (hgd : o.guard = none) (s x : Operand) (t u : TypeId)
    (ho : o.op = .call { callee := .builtin .append, args := #[s, x], argTypes := #[t, u] }) (v y : Value) (hs : a.eval s = v) (hx : a.eval x = y) {v' : Value} {w' : World}
    (hr : (Builtin.append_ #[t, u] o.type #[v, y]).run Tryd.prog w = .ok v' w') (h : wpList Tryd.prog ops Q rest (a.put o.dst v') w') : wpList Tryd.prog ops Q (o :: rest) a w := by
  refine wpList_plain hgd fun K hK => ?_
  unfold Oper.wp execOp
  simp only [ho, resolve, invoke, builtin, Sem.run_bind, Sem.run_pure, Result.andThen_ok, List.map_toArray, List.map_cons, List.map_nil, hs, hx, hr]
  exact hK _ _ h
end Go.Proofs.YtigpfbfkdccdaaaDoor

namespace Go.Proofs.YtigpfbfkdccdaaaDoor
open Go.RowKit
set_option linter.unusedVariables false
set_option linter.unusedSimpArgs false

/-- What Parse hands back. -/
def pV (r : Option (Option Dm.D)) : Value := match r with
  | none => .tuple #[zV, .int .i64 4]
  | some r => rV r

def Zb : Obj := .cells #[.bool false, .string ⟨#[]⟩, .int .i64 0] 24
theorem Own.row {w0 w w' : World} (h : Own w0 w) (hb : Below w.heap.size w w') : Own w0 w' := h.step hb

end Go.Proofs.YtigpfbfkdccdaaaDoor
