/- What is proved here: what Unquote of package quote does, walked; condition: the two tables of unicode/utf8 lie in the world. -/
import Derived.Test.YtomhgafpjpnmdaaGreatDoorQf
import Derived.Test.YtomhgafpjpnmdaaGreatDoorQc
import Derived.Test.YtomhgafpjpnmdaaGreatDoorQt
import Derived.OwnWalk
namespace Go.Proofs.YtomhgafpjpnmdaaGreatDoor
open Go.RowKit
set_option linter.unusedVariables false
set_option linter.unusedSimpArgs false

theorem hide {p : Prop} (h : p) : Hid p := h
theorem unhide {p : Prop} (h : Hid p) : p := h
/-- A text, how many bytes, and an error, as they are handed back. -/
def uV (x : List UInt8 × Nat × Nat) : Value := .tuple #[.string ⟨x.1.toArray⟩, .int .i64 (x.2.1 : Int), .int .i64 (x.2.2 : Int)]

set_option maxHeartbeats 4000000 in
set_option maxRecDepth 1000000 in
theorem unquote_any (s : ByteArray) (w : World) (hs : s.size ≤ 1099511627776) (hT : Tabs w) :
    Calls Tryz.prog 59 #[.string s] w fun e w' => e = .returned (uV (Qm.unquoteL s.data.toList)) ∧ Below w.heap.size w w' := by
  by_cases hq : s.data.toList.getD 0 0 = 34
  · have hpt := prefix_is s ⟨#[34]⟩ true (by rw [show ((⟨#[34]⟩ : ByteArray)).data.toList = [34] from rfl, pre_one _ _ (by decide)]; exact decide_eq_true hq)
    have hs1 : 1 ≤ s.size := by
      rcases Nat.lt_or_ge 0 s.size with g | g
      · exact g
      · have : s.data.toList = [] := List.eq_nil_of_length_eq_zero (by rw [← Lib.size_eq]; omega)
        rw [this] at hq
        exact absurd hq (by decide)
    obtain ⟨U, hU⟩ : ∃ U, Qm.unquoteL s.data.toList = U := ⟨_, rfl⟩
    rw [hU]
    go_enter Tryz.func59, Tryz.ntmps59
    go_wp2_with (go_at_call 45; refine (hpt _).mono ?_; rintro e w ⟨rfl, rfl⟩)
    go_loopw [6, 7, 8] (fun a _ _ wr => ∃ (p : Nat) (acc bs : List UInt8), a = .int .i64 (p : Int) ∧ Lib.IsBuilderF 46 5 w.heap.size w.heap.size (Lib.byteCells bs) wr ∧ Below w.heap.size w wr ∧ Qm.UI s.data.toList p acc bs) (fun a _ _ _ => s.size - (intOf a).toNat)
    case atStart =>
      exact ⟨1, [], [], rfl, Lib.IsBuilderF.of (Lib.fresh_isBuilder 46 5 w), (Below.refl _ w).alloc (Nat.le_refl _) _, Qm.UI.start _ (by rw [← Lib.size_eq]; exact hs1)⟩
    case round =>
      obtain ⟨p, acc, bs, rfl, hI, hbw, hu⟩ := hrel
      have hp1 := hu.1
      have hp2 := hu.2.1
      have hb2 := hu.2.2.2.1
      rw [← Lib.size_eq] at hp2
      have hpz : (p : Int) ≤ (s.size : Int) := by omega
      have hTr : Tabs wr := Utf8Tabs_below hT hbw
      have hlw : w.heap.size < wr.heap.size := by rcases hI with h | h <;> exact h.lt
      have hlen : ∀ W, Lib.IsBuilderF 46 5 w.heap.size w.heap.size (Lib.byteCells bs) W → Calls Tryz.prog 69 #[.pointer (some ⟨w.heap.size, 0, none⟩)] W fun e w' => e = .returned (.int .i64 (bs.length : Int)) ∧ w' = W := fun W h => by
        have := Tryz.Builder_Len_f w.heap.size w.heap.size _ W h
        rwa [Lib.byteCells_length] at this
      by_cases h34 : (s.data.toList.drop p).getD 0 0 = 34
      · have hpe := prefix_is (s.extract p s.size) ⟨#[34]⟩ true (by rw [show ((⟨#[34]⟩ : ByteArray)).data.toList = [34] from rfl, pre_one _ _ (by decide), ext_drop]; exact decide_eq_true h34)
        obtain ⟨l1, l2, l3⟩ := hu.last hq h34
        rw [← Lib.size_eq] at l1
        by_cases hb : bs.length ≤ 4096
        · have d1 : decide ((4096 : Int) < (bs.length : Int)) = false := decide_eq_false (by omega)
          have w1 : IntKind.i64.wrap ((p : Int) + 1) = ((p + 1 : Nat) : Int) := by rw [IntKind.wrap_i64]; omega
          have hv := hU.symm.trans (l3 hb)
          subst hv
          clear hU hb l1 l2 l3 hb2 hp1 hp2 hpt hq h34 hs1
          go_wp2_with fail
          refine (hpe _).mono ?_
          rintro e W1 ⟨rfl, rfl⟩
          go_wp2_with fail
          refine (hlen _ hI).mono ?_
          rintro e W2 ⟨rfl, rfl⟩
          go_wp2_with fail
          refine (Tryz.Builder_String_any_k w.heap.size w.heap.size _ _ hI (Nat.le_of_lt hlw)).mono ?_
          rintro e W3 ⟨rfl, i3, b3, k3⟩
          go_wp2
          go_ret3
          exact ⟨rfl, hbw.trans b3⟩
        · have d1 : decide ((4096 : Int) < (bs.length : Int)) = true := decide_eq_true (by omega)
          have hv := hU.symm.trans (l2 (by omega))
          subst hv
          clear hU hb l1 l2 l3 hb2 hp1 hp2 hpt hq h34 hs1
          go_wp2_with fail
          refine (hpe _).mono ?_
          rintro e W1 ⟨rfl, rfl⟩
          go_wp2_with fail
          refine (hlen _ hI).mono ?_
          rintro e W2 ⟨rfl, rfl⟩
          go_wp2
          go_ret3
          exact ⟨rfl, hbw⟩
      · have hpe := prefix_is (s.extract p s.size) ⟨#[34]⟩ false (by rw [show ((⟨#[34]⟩ : ByteArray)).data.toList = [34] from rfl, pre_one _ _ (by decide), ext_drop]; exact decide_eq_false h34)
        have hxs : (s.extract p s.size).size ≤ 9223372036854775807 := by rw [ByteArray.size_extract]; omega
        obtain ⟨q, hx⟩ : ∃ q, Qm.nextL (s.data.toList.drop p) = q := ⟨_, rfl⟩
        have hnx : ∀ W, Tabs W → Calls Tryz.prog 68 #[.string (s.extract p s.size)] W fun e w' => e = .returned (nV q) ∧ Below W.heap.size W w' := fun W h => by
          have := next_any (s.extract p s.size) W hxs h
          rwa [ext_drop, hx] at this
        cases q with
        | none =>
          have hv := hU.symm.trans (hu.none hq h34 hx)
          subst hv
          unfold nV at hnx
          clear hU hb2 hp1 hp2 hpt hq h34 hs1 hlen hx hxs hu hs
          go_wp2_with fail
          refine (hpe _).mono ?_
          rintro e W1 ⟨rfl, rfl⟩
          go_wp2_with fail
          refine (hnx _ hTr).mono ?_
          rintro e W2 ⟨rfl, b2⟩
          go_wp2
          go_ret3
          exact ⟨rfl, hbw.trans (b2.mono (Nat.le_of_lt hlw))⟩
        | some q =>
          obtain ⟨r, k⟩ := q
          obtain ⟨k1, k2, k3⟩ := Qm.next_ok hx
          rw [List.length_drop, ← Lib.size_eq] at k2
          have hr1 : r ≤ 1114111 := k3.1
          have d0 : ((k : Int) == 0) = false := beq_eq_false_iff_ne.2 (by omega)
          have w1 : IntKind.i64.wrap ((p : Int) + (k : Int)) = ((p + k : Nat) : Int) := by rw [IntKind.wrap_i64]; omega
          have hm : s.size - (p + k) < s.size - p := by omega
          have hr2 : -2147483648 ≤ (r : Int) := by omega
          have hr3 : (r : Int) ≤ 2147483647 := by omega
          have H3 := hide hr2
          have H4 := hide hr3
          have HM := hide hm
          unfold nV at hnx
          by_cases hb : bs.length ≤ 4096
          · have d1 : decide ((bs.length : Int) ≤ 4096) = true := decide_eq_true (by omega)
            have HB := hide hb
            have hu2 := hu.more h34 hx (bs ++ Lib.encodeRune (r : Int)) (.inl ⟨hb, rfl⟩)
            clear hU hb hb2 hp1 hp2 hpt hq h34 hs1 hx hxs hu hs k1 k2 k3 hr1 hr2 hr3 hm
            go_wp2_with fail
            refine (hpe _).mono ?_
            rintro e W1 ⟨rfl, rfl⟩
            go_wp2_with fail
            refine (hnx _ hTr).mono ?_
            rintro e W2 ⟨rfl, b2⟩
            have hI2 := stays hI b2
            have hbw2 := hbw.trans (b2.mono (Nat.le_of_lt hlw))
            have hl2 := Nat.le_of_lt (Nat.lt_of_lt_of_le hlw b2.size)
            go_wp2_with fail
            refine (hlen _ hI2).mono ?_
            rintro e W3 ⟨rfl, rfl⟩
            go_wp2_with fail
            refine (Tryz.Builder_WriteRune_k w.heap.size w.heap.size _ (r : Int) (unhide H3) (unhide H4) _ hI2 (by rw [Lib.byteCells_length]; have := unhide HB; omega) hl2).mono ?_
            rintro e W4 ⟨rfl, i4, b4, k4⟩
            rw [← Lib.byteCells_encodeRune, ← Lib.byteCells_append] at i4
            go_wp2
            go_roundw
            case rel => exact ⟨p + k, _, _, rfl, Or.inr i4, hbw2.trans b4, hu2⟩
            case measure => have := unhide HM; simp [intOf]; omega
          · have d1 : decide ((bs.length : Int) ≤ 4096) = false := decide_eq_false (by omega)
            have hu2 := hu.more h34 hx bs (.inr ⟨by omega, rfl⟩)
            clear hU hb hb2 hp1 hp2 hpt hq h34 hs1 hx hxs hu hs k1 k2 k3 hr1 hr2 hr3 hm
            go_wp2_with fail
            refine (hpe _).mono ?_
            rintro e W1 ⟨rfl, rfl⟩
            go_wp2_with fail
            refine (hnx _ hTr).mono ?_
            rintro e W2 ⟨rfl, b2⟩
            have hI2 := stays hI b2
            have hbw2 := hbw.trans (b2.mono (Nat.le_of_lt hlw))
            go_wp2_with fail
            refine (hlen _ hI2).mono ?_
            rintro e W3 ⟨rfl, rfl⟩
            go_wp2
            go_roundw
            case rel => exact ⟨p + k, _, _, rfl, hI2, hbw2, hu2⟩
            case measure => have := unhide HM; simp [intOf]; omega
  · have hpt := prefix_is s ⟨#[34]⟩ false (by rw [show ((⟨#[34]⟩ : ByteArray)).data.toList = [34] from rfl, pre_one _ _ (by decide)]; exact decide_eq_false hq)
    have e : Qm.unquoteL s.data.toList = ([], 0, 6) := by unfold Qm.unquoteL; rw [if_neg hq]
    rw [e]
    go_enter Tryz.func59, Tryz.ntmps59
    go_wp2_with (go_at_call 45; refine (hpt _).mono ?_; rintro e w ⟨rfl, rfl⟩)
    go_ret3
    exact ⟨rfl, Below.refl _ _⟩
end Go.Proofs.YtomhgafpjpnmdaaGreatDoor
