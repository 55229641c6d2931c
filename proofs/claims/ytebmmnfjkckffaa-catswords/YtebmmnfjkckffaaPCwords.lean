/- What is proved here: the card of CatsWords: for every input the law returns true and leaves its arguments as they were; conditions: those that the card prints. -/
import Derived.Test.YtebmmnfjkckffaaRm
import Derived.Test.YtebmmnfjkckffaaCw
namespace Go.Proofs.Ytebmmnfjkckffaa.catsWords
open Go.ChangeShapes Go.WideShapes Go.ChangeAt Go.RowKit Go.Joins
open Go.ChangeMaps (open_string shut_string)
set_option linter.unusedVariables false
set_option linter.unusedSimpArgs false

set_option maxRecDepth 100000 in
theorem contract (H : Type) (enc : TypeId × Value → H) (W : World) (base : Nat) (args : Array Value) (ds gs : List (DataW H)) (before : List MemPlace)
    (hval0 : ∀ (j : Nat) t v, Try.f6.params[j]? = some t → args[j]? = some v → Value.okWide Try.prog W .any base t v)
    (hW : DataW.Whole enc Try.prog Try.f6.params.toList Rows.catsWordsSpec.vars false W args.toList ds gs before) (hwt : (DataW.weightsEach Try.prog (Try.f6.params.toList ++ (OpenSpec.ofChange Rows.catsWordsSpec).bare.plain.varTypes Try.prog) (ds ++ gs)).all (· ≤ reachBytes) = true) :
    Calls Try.prog 6 args W fun e W' => ∃ v, e = .returned v ∧ Rows.catsWordsSpec.post enc Try.prog Try.f6 false true false false W args v W' := by
  have hval : ∀ (j : Nat) t v, Try.f6.params[j]? = some t → args[j]? = some v → Value.okWide Try.prog W .any base t v := hval0
  have hW' := hW
  obtain ⟨p, q, hA0, hV, rfl, hfz, hnd⟩ := hW
  have hA : DataW.TrodAll enc Try.prog W 0 (fun _ => true) true Try.f6.params.toList args.toList ds p := hA0
  rw [Try.params6] at hA hval
  obtain ⟨v0, vs0, d0, ds0, p0, q0, hargs, rfl, rfl, h0, r0⟩ := trodAll_cons hA
  obtain ⟨v1, vs1, d1, ds1, p1, q1, rfl, rfl, rfl, h1, r1⟩ := trodAll_cons r0
  obtain ⟨v2, vs2, d2, ds2, p2, q2, rfl, rfl, rfl, h2, r2⟩ := trodAll_cons r1
  obtain ⟨rfl, rfl, rfl⟩ := trodAll_nil r2
  obtain rfl : args = #[v0, v1, v2] := by cases args; simp_all
  obtain ⟨rfl, rfl⟩ := trodVars_none hV
  have k0 := h0
  have k1 := h1
  have k2 := h2
  have lt0 : ∀ x ∈ p0, x.block < W.heap.size := by obtain ⟨m, hm⟩ := k0; exact DataW.trod_lt m _ _ _ hm
  have lt1 : ∀ x ∈ p1, x.block < W.heap.size := by obtain ⟨m, hm⟩ := k1; exact DataW.trod_lt m _ _ _ hm
  have lt2 : ∀ x ∈ p2, x.block < W.heap.size := by obtain ⟨m, hm⟩ := k2; exact DataW.trod_lt m _ _ _ hm
  obtain ⟨a0, n0, c0, ss0, rfl, hn0, hi0⟩ := open_strs (hval 0 22 v0 rfl rfl) h0
  obtain ⟨z1, rfl, e11, e21, hz1⟩ := Go.ChangeShapes.open_int Try.underlying23 (hval 1 23 v1 rfl rfl) h1
  obtain ⟨c1, rfl, hc1⟩ : ∃ c : Nat, z1 = (c : Int) ∧ c < 18446744073709551616 := by
    have hb := hz1
    simp [Lit.wf] at hb
    have m0 : IntKind.u64.min = 0 := by kernel_rfl
    have m1 : IntKind.u64.max = 18446744073709551615 := by kernel_rfl
    first | exact ⟨z1.toNat, by omega, by omega⟩ | (rw [m0, m1] at hb; exact ⟨z1.toNat, by omega, by omega⟩)
  obtain ⟨s2, rfl, e12, e22, hs2⟩ := open_string Try.underlying9 (hval 2 9 v2 rfl rfl) h2
  have hz2 : s2.size ≤ 140737488355328 := by
    have h := sized_string hwt (j := 2) (t := 9) (bytes := s2.data.toList) rfl (by rw [e12]; rfl)
    have h2 := reachBytes_lt
    rw [Array.length_toList] at h
    have h3 : s2.data.size = s2.size := rfl
    omega
  clear hA0 hval0
  refine (words_walk a0 n0 c0 ss0 c1 s2 W hn0 hc1 hz2 hi0).mono fun e W' ⟨he, bel⟩ => ?_
  subst he
  exact ⟨_, rfl, _, _, _, [], _, [], hW', trodAll_mk1 (shut_bool Try.underlying4 _), (trodAll_cons_mk (Below.trod laidOut (by kernel_rfl) (of_decide_eq_true (by kernel_rfl)) k0 bel lt0) (trodAll_cons_mk (Below.trod laidOut (by kernel_rfl) (of_decide_eq_true (by kernel_rfl)) k1 bel lt1) (trodAll_cons_mk (Below.trod laidOut (by kernel_rfl) (of_decide_eq_true (by kernel_rfl)) k2 bel lt2) trodAll_mk0))), rfl, bel.frame _, fun h => by cases h⟩

theorem laid_met (os : Os) : laidMet Try.prog Rows.catsWordsRow.laid ((tabWorld (World.holding Try.prog os ⟨#[], #[], []⟩)).forCall (fun _ _ => 0) ⟨#[], #[.slice none 0 0, .int .u64 0, .string ⟨#[]⟩], []⟩).memory :=
  laidMet_of_run' 8 (by kernel_rfl) (by kernel_rfl)
theorem reads (os : Os) {H : Type} (enc : TypeId × Value → H) : ∃ places, DataW.whole enc Try.prog ((tabWorld (World.holding Try.prog os ⟨#[], #[], []⟩)).forCall (fun _ _ => 0) ⟨#[], #[.slice none 0 0, .int .u64 0, .string ⟨#[]⟩], []⟩).memory Try.f6.params.toList Rows.catsWordsSpec.vars false #[Value.slice none 0 0, Value.int .u64 0, Value.string ⟨#[]⟩].toList 8 = some ([.nil, .lit (.int .u64 0), .lit (.string [])], [], places) :=
  by
  have hw : (DataW.whole enc Try.prog ((tabWorld (World.holding Try.prog os ⟨#[], #[], []⟩)).forCall (fun _ _ => 0) ⟨#[], #[.slice none 0 0, .int .u64 0, .string ⟨#[]⟩], []⟩).memory Try.f6.params.toList Rows.catsWordsSpec.vars false #[Value.slice none 0 0, Value.int .u64 0, Value.string ⟨#[]⟩].toList 8).map (fun x => (x.1, x.2.1)) = some ([.nil, .lit (.int .u64 0), .lit (.string [])], []) := by kernel_rfl
  obtain ⟨⟨x1, x2, x3⟩, hx, hx1⟩ := Option.map_eq_some_iff.1 hw
  simp only [Prod.mk.injEq] at hx1
  obtain ⟨rfl, rfl⟩ := hx1
  exact ⟨x3, hx⟩

set_option maxRecDepth 100000 in
theorem lifted (os : Os) (started : os.Started) (H : Type) (enc : TypeId × Value → H) (F : Stop.Interp) :
    ReturnsInHanded {} Try.checked os 6 .any ((OpenSpec.ofChange Rows.catsWordsSpec).preRow enc Try.prog Try.f6 Rows.catsWordsRow.domain false Rows.catsWordsRow.laid) (((OpenSpec.ofChange Rows.catsWordsSpec).at F).post enc Try.prog Try.f6 false true false false) := by
  obtain ⟨places, hx⟩ := reads os enc
  refine returnsInHanded_of_row (C := Try.checked) (s := OpenSpec.ofChange Rows.catsWordsSpec) own started (by kernel_rfl) Try.func6
    (witness_row_at (enc := enc) (C := Try.checked) false (tabWorld (World.holding Try.prog os ⟨#[], #[], []⟩)) #[.slice none 0 0, .int .u64 0, .string ⟨#[]⟩] rfl (by kernel_rfl) (by kernel_rfl) (by kernel_rfl)
      (OpenSpec.preRow_of_cond 8 hx (by kernel_rfl) (fun k hk => by cases hk) (by kernel_rfl) (laid_met os))) ?_
  intro W base args ds gs before hval hW _ _ hwt hL _ _
  exact contract H enc W base args ds gs before hval hW hwt

theorem said : Rows.CatsWordsSaid :=
  OpenClaim.holds_of_cond 6 Try.f6 rfl rfl rfl rfl rfl rfl rfl ⟨rfl, rfl, rfl, rfl, rfl⟩ rfl rfl rfl rfl rfl (by kernel_rfl) Try.func6 (by kernel_rfl)
    (of_decide_eq_true (by kernel_rfl)) (by unfold Func.isWrapper; first | (rw [if_pos (by decide +kernel)]; kernel_rfl) | (rw [if_neg (by decide +kernel)]; exact ⟨rfl, rfl⟩))
    (fun os started H enc _ F => by rw [OpenClaim.pre_eq_preRow]; exact lifted os started H enc F)

end Go.Proofs.Ytebmmnfjkckffaa.catsWords
namespace Go.Proofs.Ytebmmnfjkckffaa
/-- CatsWords's card. -/
theorem catsWords_holds : Rows.CatsWordsSaid := catsWords.said
#print axioms catsWords_holds
end Go.Proofs.Ytebmmnfjkckffaa
