/- What is proved here: the two errors of strconv lie in a world that the rows ask for; conditions: none. -/
import Derived.Test.YtnagecbepidfiaaGreatDoorRp
import Derived.Test.YtnagecbepidfiaaGreatDoorAc
import Derived.Stop.LaidErr
namespace Go.Proofs.YtnagecbepidfiaaGreatDoor.Np
set_option maxRecDepth 100000
open Go.RowKit
set_option linter.unusedVariables false

theorem laidMet_tail {P : Program} {x : String × DataW Unit} {l : List (String × DataW Unit)} {W : World} (h : laidMet P (x :: l) W) : laidMet P l W := by
  obtain ⟨ps, h1, h2, h3⟩ := h
  simp only [DataW.LaidVars] at h1
  obtain ⟨g, t, cs, fuel, p, q, _, _, _, _, h5, rfl⟩ := h1
  exact ⟨q, h5, (List.nodup_append.1 h2).2.1, fun b off hm => h3 b off (by simp [hm])⟩
theorem laidMet_mem {P : Program} {x : String × DataW Unit} {W : World} : ∀ {l : List (String × DataW Unit)}, laidMet P l W → x ∈ l → ∃ r, laidMet P (x :: r) W
  | [], _, hm => by cases hm
  | y :: l, h, hm => by
    rcases List.mem_cons.1 hm with rfl | hm
    · exact ⟨l, h⟩
    · exact laidMet_mem (laidMet_tail h) hm
theorem err_ty (u : TypeId) (h : Tryz.prog.typeName? 3 u = some "*errors.errorString") : u = 183 :=
  typeName_ptr_named (nm := "errors.errorString") (by kernel_rfl) (by kernel_rfl) (by decide) u h
theorem cell_of_var {P : Program} {W : World} {n : String} {g : Nat} {v : Value} (hg : P.globalNamed n = some g) (h : World.var? P W n = some #[v]) : W.cell? ⟨g, 0, none⟩ = some v := by
  unfold World.var? at h
  rw [hg] at h
  simp only [Option.bind_some] at h
  split at h
  · rename_i cs t f e
    obtain rfl := Option.some.inj h
    simp [World.cell?, e]
  · cases h
theorem tab_errs {W : World} {l : List (String × DataW Unit)} (h : laidMet Tryz.prog l W) (h4 : ("strconv.ErrRange", (Rows.laid_strconv_ErrRange : DataW Unit)) ∈ l)
    (h5 : ("strconv.ErrSyntax", (Rows.laid_strconv_ErrSyntax : DataW Unit)) ∈ l) : Errs W := by
  obtain ⟨r4, q4⟩ := laidMet_mem h h4
  obtain ⟨r5, q5⟩ := laidMet_mem h h5
  obtain ⟨a4, s4, v4, _⟩ := laid_sentinel (g := 5) (ti := 83) (tp := 183) (te := 185) (ts := 9) q4 (by kernel_rfl) (by kernel_rfl) Tryz.underlying83 err_ty Tryz.underlying183 Tryz.underlying185 rfl rfl Tryz.underlying9 (by kernel_rfl) (by kernel_rfl)
  obtain ⟨a5, s5, v5, _⟩ := laid_sentinel (g := 4) (ti := 83) (tp := 183) (te := 185) (ts := 9) q5 (by kernel_rfl) (by kernel_rfl) Tryz.underlying83 err_ty Tryz.underlying183 Tryz.underlying185 rfl rfl Tryz.underlying9 (by kernel_rfl) (by kernel_rfl)
  exact ⟨⟨_, _, cell_of_var (by kernel_rfl) v5⟩, ⟨_, _, cell_of_var (by kernel_rfl) v4⟩⟩
end Go.Proofs.YtnagecbepidfiaaGreatDoor.Np
