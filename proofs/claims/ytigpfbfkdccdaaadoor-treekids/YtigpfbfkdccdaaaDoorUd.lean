/- What is proved here: what Align of the document's own answers does, walked; conditions: as each theorem states. -/
import Derived.Test.YtigpfbfkdccdaaaDoorUa
import Derived.Test.YtigpfbfkdccdaaaDoorRt
import Derived.Deep.QuietTactic
import Derived.BigQuiet
namespace Go.Proofs.YtigpfbfkdccdaaaDoor
open Go.RowKit
set_option linter.unusedVariables false
set_option linter.unusedSimpArgs false

def alignL (l : List UInt8) (m n : Nat) : List UInt8 := List.replicate (n - (l.length + m)) 48 ++ (l ++ List.replicate m 48)
theorem align_num (l : List UInt8) (m n : Nat) : Dm.num (alignL l m n) = Dm.num l * 10 ^ m := by
  unfold alignL; rw [Dm.num_zeros_append, Dm.num_append_zeros]
theorem align_len {l : List UInt8} {m n : Nat} (h : l.length + m ≤ n) : (alignL l m n).length = n := by
  unfold alignL; simp; omega
theorem align_allD {l : List UInt8} (m n : Nat) (h : Dm.allD l) : Dm.allD (alignL l m n) :=
  Dm.allD_append.2 ⟨Dm.allD_zeros _, Dm.allD_append.2 ⟨h, Dm.allD_zeros _⟩⟩
theorem rzeros_b (n : Int) (k : Nat) (w : World) (h1 : n ≤ 100000) (h : n.toNat = k) :
    Calls Tryd.prog 68 #[.int .i64 n] w fun e w' => e = .returned (.string ⟨(List.replicate k (48 : UInt8)).toArray⟩) ∧ w' = w := by
  have := rzeros_any n w h1
  rw [h] at this; exact this
theorem rzeros_w (k : Nat) (w : World) (h : k = 0) :
    Calls Tryd.prog 68 #[.int .i64 (IntKind.i64.wrap 0)] w fun e w' => e = .returned (.string ⟨(List.replicate k (48 : UInt8)).toArray⟩) ∧ w' = w :=
  rzeros_b _ k w (by decide) (by rw [h]; rfl)
theorem align_str (a : List UInt8) (p n : Nat) (z : Int) (hz : z.toNat = n - (a.length + p)) : (⟨(List.replicate z.toNat (48 : UInt8)).toArray⟩ ++ (⟨a.toArray⟩ ++ ⟨Array.replicate p 48⟩) : ByteArray) = ⟨(alignL a p n).toArray⟩ := by
  have e : (⟨Array.replicate p 48⟩ : ByteArray) = ⟨(List.replicate p (48 : UInt8)).toArray⟩ := by simp
  rw [e, mk_join, mk_join, hz]; rfl
theorem align_str' (a : List UInt8) (p n : Nat) (z : Nat) (hz : z = n - (a.length + p)) : (⟨Array.replicate z (48 : UInt8)⟩ ++ (⟨a.toArray⟩ ++ ⟨Array.replicate p 48⟩) : ByteArray) = ⟨(alignL a p n).toArray⟩ := by
  have := align_str a p n (z : Int) (by omega)
  rw [← this]; simp
theorem ret_three {a b c d e f : Value} (h : a = d) (g : b = e) (i : c = f) : Ending.returned (.tuple #[a, b, c]) = .returned (.tuple #[d, e, f]) := by rw [h, g, i]
set_option maxRecDepth 100000 in
set_option maxHeartbeats 2000000 in
theorem align_any (na nb : Bool) (a b : List UInt8) (ja jb S n p q : Nat) (w : World) (ha : a.length ≤ 60) (hb : b.length ≤ 60) (hp : ja + p = S) (hq : jb + q = S) (hS60 : S ≤ 60) (hS : p = 0 ∨ q = 0) (hn1 : a.length + p ≤ n) (hn2 : b.length + q ≤ n) (hn : n = a.length + p ∨ n = b.length + q) :
    Calls Tryd.prog 83 #[.agg #[.bool na, .string ⟨a.toArray⟩, .int .i64 (ja : Int)], .agg #[.bool nb, .string ⟨b.toArray⟩, .int .i64 (jb : Int)]] w fun e w' => e = .returned (.tuple #[.string ⟨(alignL a p n).toArray⟩, .string ⟨(alignL b q n).toArray⟩, .int .i64 (S : Int)]) ∧ Below w.heap.size w w' := by
  have hT := Two.start w (.bool na) (.string ⟨a.toArray⟩) (.int .i64 (ja : Int)) (.bool nb) (.string ⟨b.toArray⟩) (.int .i64 (jb : Int)) 24
  rcases Nat.lt_or_ge ja jb with hle | hle
  · have hle2 := Int.ofNat_le.2 hle
    go_enter Tryd.func83, Tryd.ntmps83
    go_wp2_with fail
    generalize (w.alloc (.cells #[.bool na, .string ⟨a.toArray⟩, .int .i64 (ja : Int)] 24)).alloc (.cells #[.bool nb, .string ⟨b.toArray⟩, .int .i64 (jb : Int)] 24) = W at hT ⊢
    obtain ⟨_, _, ⟨c0, c1, c2⟩, ⟨d0, d1, d2⟩⟩ := id hT
    go_quiet ((go_at_call 68; exact Calls.quiet_of_same (rzeros_b _ p _ (by omega) (by omega))))
    have hT1 := hT.drewN nq
    clear c0 c1 c2 d0 d1 d2 hT
    generalize W.drewN nq = W1 at hT1 ⊢
    obtain ⟨_, _, ⟨c0, c1, c2⟩, ⟨d0, d1, d2⟩⟩ := id hT1
    go_wp2_with fail
    go_quiet ((go_at_call 68; exact Calls.quiet_of_same (rzeros_w q _ (by omega))))
    have hT2 := hT1.drewN nq
    clear c0 c1 c2 d0 d1 d2 hT1
    generalize W1.drewN nq = W2 at hT2 ⊢
    go_wp2_with (go_at_call 68; refine (rzeros_any _ _ (by omega)).mono ?_; rintro e w' ⟨rfl, rfl⟩)
    all_goals
      go_ret3
      refine ⟨ret_three (congrArg Value.string ?_) (congrArg Value.string ?_) (congrArg (Value.int .i64) ?_), hT2.1⟩
      · first | exact align_str' a p n _ (by omega) | exact align_str' a p n 0 (by omega)
      · first | exact align_str' b q n _ (by omega) | exact align_str' b q n 0 (by omega)
      · omega
  · have hle2 := Int.ofNat_le.2 hle
    go_enter Tryd.func83, Tryd.ntmps83
    go_wp2_with fail
    generalize (w.alloc (.cells #[.bool na, .string ⟨a.toArray⟩, .int .i64 (ja : Int)] 24)).alloc (.cells #[.bool nb, .string ⟨b.toArray⟩, .int .i64 (jb : Int)] 24) = W at hT ⊢
    obtain ⟨_, _, ⟨c0, c1, c2⟩, ⟨d0, d1, d2⟩⟩ := id hT
    go_quiet ((go_at_call 68; exact Calls.quiet_of_same (rzeros_w p _ (by omega))))
    have hT1 := hT.drewN nq
    clear c0 c1 c2 d0 d1 d2 hT
    generalize W.drewN nq = W1 at hT1 ⊢
    obtain ⟨_, _, ⟨c0, c1, c2⟩, ⟨d0, d1, d2⟩⟩ := id hT1
    go_wp2_with fail
    go_quiet ((go_at_call 68; exact Calls.quiet_of_same (rzeros_b _ q _ (by omega) (by omega))))
    have hT2 := hT1.drewN nq
    clear c0 c1 c2 d0 d1 d2 hT1
    generalize W1.drewN nq = W2 at hT2 ⊢
    go_wp2_with (go_at_call 68; refine (rzeros_any _ _ (by omega)).mono ?_; rintro e w' ⟨rfl, rfl⟩)
    all_goals
      go_ret3
      refine ⟨ret_three (congrArg Value.string ?_) (congrArg Value.string ?_) (congrArg (Value.int .i64) ?_), hT2.1⟩
      · first | exact align_str' a p n _ (by omega) | exact align_str' a p n 0 (by omega)
      · first | exact align_str' b q n _ (by omega) | exact align_str' b q n 0 (by omega)
      · omega
end Go.Proofs.YtigpfbfkdccdaaaDoor
