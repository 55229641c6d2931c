/- What is proved here: the listed table of powers of ten lies in the world, and stays; what Int of package dec does, walked; conditions: the table lies in the world. -/
import Derived.Test.YtmlmplmghlbdmaaGreatDoorWf
import Derived.Test.YtmlmplmghlbdmaaGreatDoorMg
import Derived.Lib.LaidU8
import Derived.Lib.SmallJoins
import Derived.Lib.AppendIntMem
namespace Go.Proofs.YtmlmplmghlbdmaaGreatDoor
open Go.RowKit
set_option linter.unusedVariables false
set_option linter.unusedSimpArgs false

/-- The table of powers of ten lies as it is listed. -/
def Pow (w : World) : Prop := Lib.TabIs Tryz.prog w "internal/strconv.uint64pow10" .u64 Lib.pow10Tab
theorem pow_name : Tryz.prog.globalNamed "internal/strconv.uint64pow10" = some 3 := by kernel_rfl
theorem tab_pow {W : World} {l : List (String × DataW Unit)} (h : laidMet Tryz.prog l W) (hm : ("internal/strconv.uint64pow10", (Rows.laid_internal_strconv_uint64pow10 : DataW Unit)) ∈ l) : Pow W := by
  obtain ⟨g', t', cs, fuel, p, hg', ht', hvar, hd⟩ := Lib.laidMet.reads h hm
  obtain rfl := Option.some.inj (pow_name.symm.trans hg')
  have hty : (Tryz.prog.globals[3]?).map (·.type) = some 137 := by kernel_rfl
  obtain rfl := Option.some.inj (hty.symm.trans ht')
  have e : (Rows.laid_internal_strconv_uint64pow10 : DataW Unit) = Lib.tabData .u64 Lib.pow10Tab := by kernel_rfl
  rw [e] at hd
  unfold Pow Lib.TabIs
  rw [hvar, ← Lib.cells_of_tab (n := 20) (e := 61) (by kernel_rfl) (by kernel_rfl) (by kernel_rfl) (by kernel_rfl) hd]
theorem Pow.next {w w' : World} (h : Pow w) (hb : Below w.heap.size w w') : Pow w' := Go.Joins.tab_stays pow_name h hb (Nat.le_refl _)
theorem Pow.step {w w' : World} {B : Nat} (h : Pow w) (hb : Below B w w') (hB : w.heap.size ≤ B) : Pow w' := Go.Joins.tab_stays pow_name h hb hB
theorem Pow.drew {w : World} (h : Pow w) : Pow w.drew := h.next (Below.refl _ _).drew
theorem Pow.alloc {w : World} (h : Pow w) (o : Obj) : Pow (w.alloc o) := h.next ((Below.refl _ _).alloc (Nat.le_refl _) o)

theorem itoa_b (n : Int) (s : ByteArray) (h0 : -9223372036854775808 ≤ n) (h1 : n ≤ 9223372036854775807) (w : World) (htab : Pow w) (hs : (⟨(Lib.itoa n).toArray⟩ : ByteArray) = s) :
    Calls Tryz.prog 73 #[.int .i64 n] w fun e w' => e = .returned (.string s) ∧ Below w.heap.size w w' := by
  refine (Tryz.strconv_Itoa n h0 h1 w htab).mono ?_
  rintro e w' ⟨rfl, k, os, rfl⟩
  exact ⟨by rw [hs], Lib.below_grow _ _ (Nat.le_refl _) _ _⟩

set_option maxRecDepth 100000 in
set_option maxHeartbeats 1000000 in
theorem int_any (n : Int) (w : World) (h0 : -9223372036854775808 ≤ n) (h1 : n ≤ 9223372036854775807) (htab : Pow w) :
    Calls Tryz.prog 51 #[.int .i64 n] w fun e w' => e = .returned (.agg #[.bool (Dm.ofInt n).ng, .string ⟨(Dm.ofInt n).ds.toArray⟩, .int .i64 0]) ∧ Below w.heap.size w w' := by
  have hO := Own.start w
  obtain ⟨i1, i2⟩ := Dm.itoa_cut n
  obtain ⟨s, hs⟩ : ∃ s : ByteArray, (⟨(Lib.itoa n).toArray⟩ : ByteArray) = s := ⟨_, rfl⟩
  have e1 : Lib.trimPrefix s.data.toList (⟨#[45]⟩ : ByteArray).data.toList = (⟨(Dm.ofInt n).ds.toArray⟩ : ByteArray).data.toList := by rw [← hs]; exact i1
  have e2 : Lib.hasPrefix s.data.toList (⟨#[45]⟩ : ByteArray).data.toList = (Dm.ofInt n).ng := by rw [← hs]; exact i2
  clear i1 i2
  have HS := hide hs
  clear hs
  have E1 := hide e1
  have E2 := hide e2
  clear e1 e2
  have hT := htab.alloc (.cells #[.bool false, .string ⟨#[]⟩, .int .i64 0] 23)
  go_enter Tryz.func51, Tryz.ntmps51
  go_wp2_with fail
  refine (itoa_b n s h0 h1 _ hT (unhide HS)).mono ?_
  rintro e w1 ⟨rfl, hb1⟩
  have hO1 := hO.step hb1
  clear hb1 hT
  obtain ⟨o1, o2, o3, o4, o5, o6⟩ := hO1.facts
  go_wp2_with fail
  refine (cut_b s ⟨#[45]⟩ ⟨(Dm.ofInt n).ds.toArray⟩ (Dm.ofInt n).ng _ (unhide E1) (unhide E2)).mono ?_
  rintro e w2 ⟨rfl, rfl⟩
  go_wp2
  refine bodyPost_ret (v := .agg #[.bool (Dm.ofInt n).ng, .string ⟨(Dm.ofInt n).ds.toArray⟩, .int .i64 0]) (by simp [results, Tryz.results51, go_sem, o1, o2, o3]) rfl ⟨rfl, hO1.end _ _ _⟩
end Go.Proofs.YtmlmplmghlbdmaaGreatDoor
