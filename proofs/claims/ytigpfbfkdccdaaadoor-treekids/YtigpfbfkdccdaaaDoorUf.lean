/- What is proved here: what Add, Turn and Sub of the document's own answers do, walked; conditions: both decimals may be. -/
import Derived.Test.YtigpfbfkdccdaaaDoorUb
import Derived.Test.YtigpfbfkdccdaaaDoorUd
import Derived.Test.YtigpfbfkdccdaaaDoorUe
import Derived.Deep.RegionHeld3
namespace Go.Proofs.YtigpfbfkdccdaaaDoor
open Go.RowKit
set_option linter.unusedVariables false
set_option linter.unusedSimpArgs false

theorem bl_eq : ∀ (x y : List UInt8), Op.bytesLess x y = decide (x < y)
  | [], [] => by simp [Op.bytesLess]
  | [], _ :: _ => by simp [Op.bytesLess]
  | _ :: _, [] => by simp [Op.bytesLess]
  | a :: x, b :: y => by
    rw [Op.bytesLess, bl_eq x y, Bool.eq_iff_iff]
    simp [List.cons_lt_cons_iff]
theorem less_num (x y : List UInt8) (hx : Dm.allD x) (hy : Dm.allD y) (h : x.length = y.length) : Op.bytesLess (⟨x.toArray⟩ : ByteArray).toList (⟨y.toArray⟩ : ByteArray).toList = decide (Dm.num x < Dm.num y) := by
  rw [bl_eq, toList_eq, toList_eq, mk_list, mk_list]
  exact decide_eq_decide.2 (Dm.num_lex x y hx hy h).symm
theorem norm_r (ng : Bool) (L : List UInt8) (S : Nat) (q : Int) (w : World) (hL : L.length ≤ 1000) (hS : S ≤ 1000) (hd : Dm.allD L) (hq : Dm.sgn ng (Dm.num L) = q) :
    Calls Tryd.prog 69 #[.bool ng, .string ⟨L.toArray⟩, .int .i64 (S : Int)] w fun e w' => ∃ r, e = .returned (.tuple #[.agg #[.bool (rx r), .string (ry r), .int .i64 (rz r)], .int .i64 (re r)]) ∧ Dm.Rep q S r ∧ Below w.heap.size w w' := by
  subst hq
  exact norm_any ng ⟨L.toArray⟩ S L w rfl (by rw [mk_size]; omega) (by omega) hd
theorem sgn_sub {na nb : Bool} {L X Y A B : Nat} (hne : (na == nb) = false) (hX : X = A) (hY : Y = B) (h : L + Y = X) : Dm.sgn na L = Dm.sgn na A + Dm.sgn nb B := by
  subst hX hY h
  cases na <;> cases nb <;> simp at hne <;> simp [Dm.sgn] <;> omega
theorem sgn_sub' {na nb : Bool} {L X Y A B : Nat} (hne : (na == nb) = false) (hX : X = A) (hY : Y = B) (h : L + X = Y) : Dm.sgn nb L = Dm.sgn na A + Dm.sgn nb B := by
  subst hX hY h
  cases na <;> cases nb <;> simp at hne <;> simp [Dm.sgn] <;> omega
end Go.Proofs.YtigpfbfkdccdaaaDoor
