/- What is proved here: rows of texts that lie in the world; what bitsOf, place do with such a row, walked; conditions: as each theorem states. -/
import Derived.Test.YtebmmnfjkckffaaCa
import Derived.Test.YtebmmnfjkckffaaCn
import Derived.Maps.OwnOps
import Derived.Maps.OwnSet
import Derived.Deep.RegionHeld3
import Derived.Deep.DrawnRows
namespace Go.Proofs.Ytebmmnfjkckffaa
open Go.RowKit Go.Maps
set_option linter.unusedVariables false
set_option linter.unusedSimpArgs false

/-- A row of texts that lies in block g. -/
def RowAt (w : World) (g : Nat) (L : List Cm.Tx) : Prop := g < w.heap.size ∧ ∀ i, ∀ h : i < L.length, w.cell? ⟨g, i, none⟩ = some (.string ⟨(L[i]'h).toArray⟩)
theorem RowAt.step {w w' : World} {g : Nat} {L : List Cm.Tx} (h : RowAt w g L) (hb : Below w.heap.size w w') : RowAt w' g L :=
  ⟨Nat.lt_of_lt_of_le h.1 hb.size, fun i hi => (hb.cell (p := ⟨g, i, none⟩) h.1).trans (h.2 i hi)⟩
theorem txt (l : Cm.Tx) : ∃ s : ByteArray, (⟨l.toArray⟩ : ByteArray) = s ∧ s.data.toList = l ∧ s.size = l.length := ⟨⟨l.toArray⟩, rfl, rfl, rfl⟩

theorem law : Keyed Try.prog 9 := string_keyed Try.underlying9
theorem zero_u64 (w : World) : (zeroValue 23).run Try.prog w = .ok (.int .u64 0) w := by kernel_rfl

/-- The place of a name as a number; -1: there is none. -/
def plc (L : List Cm.Tx) (x : Cm.Tx) : Int := match Cm.idx L x with | some k => (k : Int) | none => -1
theorem plc_hit {L : List Cm.Tx} {x : Cm.Tx} {k : Nat} (h : k < L.length) (hk : L[k]'h = x) (hno : ∀ j, ∀ hj : j < L.length, j < k → L[j]'hj ≠ x) : plc L x = (k : Int) := by
  have : Cm.idx L x = some k := by
    unfold Cm.idx
    rw [List.findIdx?_eq_some_iff_getElem]
    exact ⟨h, by rw [hk]; exact beq_self_eq_true x, fun j hj => by simpa using hno j (by omega) hj⟩
  unfold plc
  rw [this]
theorem plc_miss {L : List Cm.Tx} {x : Cm.Tx} (hno : ∀ j, ∀ hj : j < L.length, L[j]'hj ≠ x) : plc L x = -1 := by
  have : Cm.idx L x = none := by
    unfold Cm.idx
    rw [List.findIdx?_eq_none_iff]
    intro y hy
    obtain ⟨j, hj, rfl⟩ := List.getElem_of_mem hy
    simpa using hno j hj
  unfold plc
  rw [this]
theorem list_eq (x y : ByteArray) : (x.toList == y.toList) = decide (x.data.toList = y.data.toList) := by
  rw [ByteArray.toList_eq, ByteArray.toList_eq, Bool.eq_iff_iff]
  simp

set_option maxRecDepth 100000 in
theorem place_any (g n c : Nat) (L : List Cm.Tx) (hn : L.length = n) (hn2 : n ≤ 1000000) (s : ByteArray) (r : Int) (hr0 : plc L s.data.toList = r) (w : World) (hr : RowAt w g L) :
    Calls Try.prog 25 #[.slice (some ⟨g, 0, none⟩) n c, .string s] w fun e w' => e = .returned (.int .i64 r) ∧ w' = w := by
  have HR := hide hr0
  clear hr0
  go_enter Try.func25, Try.ntmps25
  go_wp2
  go_loop [5] (fun i => ∃ k : Nat, k ≤ n ∧ i = .int .i64 (k : Int) ∧ ∀ j, ∀ hj : j < L.length, j < k → L[j]'hj ≠ s.data.toList) (fun i => n - (intOf i).toNat)
  case atStart => exact ⟨0, by omega, rfl, fun j _ h => absurd h (by omega)⟩
  case round =>
    obtain ⟨k, hk, rfl, hno⟩ := hrel
    by_cases hlt : k < n
    · obtain ⟨x, hx, hx2, hx3⟩ := txt (L[k]'(by omega))
      have hc := hr.2 k (by omega)
      rw [hx] at hc
      have he := list_eq x s
      rw [hx2] at he
      by_cases hxs : L[k]'(by omega) = s.data.toList
      · have hp := plc_hit (by omega) hxs hno
        have HP := hide ((unhide HR).symm.trans hp)
        rw [decide_eq_true hxs] at he
        clear hxs hp hno hx2 hx3 hx
        go_wp2
        go_ret
        exact ⟨ret_i64 (unhide HP).symm, rfl⟩
      · have hno2 : ∀ j, ∀ hj : j < L.length, j < k + 1 → L[j]'hj ≠ s.data.toList := fun j hj h => by
          by_cases e : j = k
          · subst e; exact hxs
          · exact hno j hj (by omega)
        rw [decide_eq_false hxs] at he
        clear hxs hno hx2 hx3 hx
        go_wp2
        go_round
        case rel => exact ⟨k + 1, by omega, by go_num, hno2⟩
        case measure => simp [intOf]; omega
    · have hp := plc_miss (fun j hj => hno j hj (by omega))
      have HP := hide ((unhide HR).symm.trans hp)
      clear hp hno
      go_wp2
      go_ret
      exact ⟨ret_i64 (unhide HP).symm, rfl⟩

theorem run_makeMap_hint {P : Program} {t k e : TypeId} (ht : P.underlying t = some (.map k e)) (q : IntKind) (z : Int) (w : World) : (Instr.makeMap t (some (.int q z))).run P w = .ok (.map (some w.heap.size)) (w.alloc (.map #[] 0)) := by
  simp [Instr.makeMap, run_underlying ht, asInt, newObj, Result.andThen]
  try rfl
set_option maxRecDepth 100000 in
theorem bitsOf_any (g n c : Nat) (L : List Cm.Tx) (hn : L.length = n) (hn2 : n ≤ 1000) (hl : ∀ x ∈ L, x.length ≤ 1000) (w : World) (hr : RowAt w g L) :
    Calls Try.prog 24 #[.slice (some ⟨g, 0, none⟩) n c] w fun e w' => e = .returned (.map (some w.heap.size)) ∧ Below w.heap.size w w' ∧
      ∃ D, w'.ownsMap Try.prog 9 (plainElem (H := Unit) Try.prog 23) w.heap.size n D ∧ Cm.BitsAt D L n := by
  have hmm := fun q z w => run_makeMap_hint (P := Try.prog) Try.underlying43 q z w
  go_enter Try.func24, Try.ntmps24
  go_wp2
  go_loopw [11] (fun i wr => ∃ k : Nat, k ≤ n ∧ i = .int .i64 (k : Int) ∧ Below w.heap.size w wr ∧ ∃ D, wr.ownsMap Try.prog 9 (plainElem (H := Unit) Try.prog 23) w.heap.size k D ∧ Cm.BitsAt D L k) (fun i _ => n - (intOf i).toNat)
  case atStart => exact ⟨0, Nat.zero_le _, rfl, (Below.refl _ _).alloc (Nat.le_refl _) _, .map [], World.ownsMap_made _ _ _ _, Cm.BitsAt.start L⟩
  case round =>
    obtain ⟨k, hk, rfl, hB, D, hown, hD⟩ := hrel
    by_cases hlt : k < n
    · obtain ⟨x, hx, hx2, hx3⟩ := txt (L[k]'(by omega))
      have hc := (hr.step hB).2 k (by omega)
      rw [hx] at hc
      have hLk : L[k]? = some x.data.toList := by rw [hx2]; exact List.getElem?_eq_getElem (by omega)
      have hxl := hl _ (List.getElem_mem (show k < L.length by omega))
      have hkey : keyOf Try.prog 9 (.string x) = some (.string x.data.toList) := WideMaps.keyOf_string_mk Try.underlying9 (by unfold maxLen; omega)
      have hownd : wr.drew.ownsMap Try.prog 9 (plainElem (H := Unit) Try.prog 23) w.heap.size k D := hown
      obtain ⟨c0, hrun, hat, _⟩ := hownd.lookup_int law Try.underlying43 Try.underlying23 (zero_u64 _) hkey
      have hc0 : c0 = (Cm.valK L k x.data.toList : Int) := by
        have := hat.symm.trans (hD.2.1 x.data.toList)
        injection this with this
        injection this
      subst hc0
      obtain ⟨V, hV⟩ : ∃ V, Cm.valK L k x.data.toList ||| Cm.bitN k = V := ⟨_, rfl⟩
      have hor : bits BinOp.or IntKind.u64 (Cm.valK L k x.data.toList : Int) (Cm.bitN k : Int) = (V : Int) := by rw [← hV]; exact u64_or_nat _ _ (Cm.valK_lt _ _ _) (Cm.bitN_lt _)
      have hVl : V < 18446744073709551616 := by rw [← hV]; exact Nat.or_lt_two_pow (n := 64) (Cm.valK_lt _ _ _) (Cm.bitN_lt _)
      have hD2 := hD.next (hown.tidy law) hLk
      rw [hV] at hD2
      obtain ⟨w2, hup, hown2, hgr⟩ := hownd.update (val := .int .u64 (V : Int)) law Try.underlying43 (by unfold maxLen; omega) hkey (plainElem_int Try.underlying23 (WalkArith.wf_u64 (by omega)))
      have hB2 : Below w.heap.size w w2 := (hB.drew).grown hgr (Below.drew hB).size (fun j hj => by cases hj; exact Nat.le_refl _)
      clear hD hat hownd hown hV hVl hxl hx hx2 hx3 hLk hkey
      generalize Cm.valK L k x.data.toList = v0 at *
      go_wp2_with fail
      go_region_held3 (fun w' => True) (trivial) (first | (go_at_call 27; refine (bitAt_any k _).mono ?_; rintro e w ⟨rfl, rfl⟩))
      all_goals
        go_wp2
        go_roundw
        case rel => exact ⟨k + 1, hlt, by go_num, hB2, _, hown2, hD2⟩
        case measure => simp [intOf]; omega
    · have : k = n := by omega
      subst this
      go_wp2
      go_ret
      exact ⟨rfl, hB, D, hown, hD⟩
end Go.Proofs.Ytebmmnfjkckffaa
