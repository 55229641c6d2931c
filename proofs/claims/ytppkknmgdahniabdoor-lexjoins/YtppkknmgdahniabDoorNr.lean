/- What is proved here: what printToken and Print of package lex do with tokens that were read, walked; and All of a text that is too long; conditions: as each theorem states. -/
import Derived.Test.YtppkknmgdahniabDoorNo
import Derived.Test.YtppkknmgdahniabDoorNm
import Derived.Test.YtppkknmgdahniabDoorNn
namespace Go.Proofs.YtppkknmgdahniabDoor.Lex
set_option maxRecDepth 100000
open Go.RowKit Go.Joins Go.Proofs.YtppkknmgdahniabDoor.Nc Go.Proofs.YtppkknmgdahniabDoor.Nq
set_option maxRecDepth 100000
set_option linter.unusedVariables false
set_option linter.unusedSimpArgs false

theorem all_big (s : ByteArray) (h : 2000 < s.size) (hm : s.size ≤ 9223372036854775807) (w : World) :
    Calls Tryd.prog 8 #[.string s] w fun e w' => e = .returned (.tuple #[.slice none 0 0, .int .i64 3]) ∧ w' = w := by
  have hi : (2000 : Int) < (s.size : Int) := by omega
  go_enter Tryd.func8, Tryd.ntmps8
  go_wp2_with fail
  go_step3
  go_wp2_with fail
  try rw [Exit.noGoto_ret]
  go_ret2
  exact ⟨rfl, rfl⟩
theorem prT_len {t : Lx.Tk} (h : Lx.tkGood t) : (Lx.prT t).length ≤ 25000 := by
  obtain ⟨k, tx, ng, dg, sc⟩ := t
  rcases h with ⟨e1, h1, e2, e3, e4⟩ | ⟨e1, h1, e2, e3, e4⟩ | ⟨e1, h1, h2, e2, e3, e4⟩ | ⟨e1, e0, e2, h1⟩ | ⟨e1, h1, h2, e2, e3, e4⟩ | ⟨e1, h1, e2, e3, e4⟩
  · dsimp only at e1 h1; subst e1
    have := (Lx.name_len h1).2
    show tx.length ≤ 25000; omega
  · dsimp only at e1 h1; subst e1
    have := (Lx.name_len h1).2
    show tx.length + 1 ≤ 25000; omega
  · dsimp only at e1 h1 h2; subst e1
    have := (Qm.quote_len tx h1).2.1
    show (Qm.quoteL tx).length + 1 ≤ 25000; omega
  · dsimp only at e1 h1; subst e1
    obtain ⟨a, b, c, d⟩ := Lx.may_parts h1
    dsimp only at b c d
    show (Dm.printL ⟨ng, dg, sc⟩).length ≤ 25000
    unfold Dm.printL
    have a1 : (if ng then [45] else ([] : List UInt8)).length ≤ 1 := by split <;> decide
    have a2 : (if dg.length ≤ sc then [48, 46] ++ List.replicate (sc - dg.length) 48 ++ dg else dg.take (dg.length - sc) ++ (if 0 < sc then 46 :: dg.drop (dg.length - sc) else [])).length ≤ 300 := by
      split
      · simp only [List.length_append, List.length_cons, List.length_nil, List.length_replicate]; omega
      · split
        · simp only [List.length_append, List.length_cons, List.length_take, List.length_drop]; omega
        · simp only [List.length_append, List.length_nil, List.length_take]; omega
    rw [List.length_append]
    dsimp only
    omega
  · dsimp only at e1 h1 h2; subst e1
    have := (Qm.quote_len tx h1).2.1
    show (Qm.quoteL tx).length ≤ 25000; omega
  · dsimp only at e1 h1; subst e1
    have := (Lx.signs_len tx h1).2
    show tx.length ≤ 25000; omega
set_option maxHeartbeats 4000000 in
theorem printToken_any (t : Lx.Tk) (hg : Lx.tkGood t) (at_ : Int) (p : ByteArray) (hp : Lx.prT t = p.data.toList) (w : World) :
    Calls Tryd.prog 21 #[tkV t at_] w fun e w' => e = .returned (.string p) ∧ Below w.heap.size w w' := by
  have hpl := prT_len hg
  obtain ⟨k, tx, ng, dg, sc⟩ := t
  obtain ⟨x, hx⟩ := ex_txt tx
  subst hx
  have hB1 : Below w.heap.size w (w.alloc (.cells #[.int .i64 (k : Int), .int .i64 at_, .string x, .bool ng, .string ⟨dg.toArray⟩, .int .i64 (sc : Int)] 33)) := (Below.refl _ _).alloc (Nat.le_refl _) _
  have HB1 := lhide hB1
  rw [show tkV ⟨k, x.data.toList, ng, dg, sc⟩ at_ = .agg #[.int .i64 (k : Int), .int .i64 at_, .string x, .bool ng, .string ⟨dg.toArray⟩, .int .i64 (sc : Int)] by unfold tkV; rw [mk_of]]
  clear hB1
  rcases hg with ⟨e1, h1, e2, e3, e4⟩ | ⟨e1, h1, e2, e3, e4⟩ | ⟨e1, h1, h2, e2, e3, e4⟩ | ⟨e1, e0, e2, h1⟩ | ⟨e1, h1, h2, e2, e3, e4⟩ | ⟨e1, h1, e2, e3, e4⟩
  · dsimp only at e1; subst e1
    obtain rfl : x = p := bext hp
    clear h1 e2 e3 e4 hp hpl
    go_enter Tryd.func21, Tryd.ntmps21
    go_wp2_with fail
    go_ret
    exact ⟨rfl, lunhide HB1⟩
  · dsimp only at e1 h1; subst e1
    have hpe : (⟨#[36]⟩ ++ x : ByteArray) = p := bext (by rw [dapp]; exact hp)
    have n1 := (Lx.name_len h1).2
    rw [lsize] at n1
    have a1 : ∀ W, (Op.stringOp .add ⟨#[36]⟩ x).run Tryd.prog W = .ok (.string (⟨#[36]⟩ ++ x)) W := fun W => run_string_add_sum _ _ _ (by show 1 + x.size ≤ _; omega)
    subst hpe
    clear h1 e2 e3 e4 hp hpl n1
    go_enter Tryd.func21, Tryd.ntmps21
    go_wp2_with fail
    go_ret
    exact ⟨rfl, lunhide HB1⟩
  · dsimp only at e1 h1 h2; subst e1
    obtain ⟨u, hu⟩ := ex_txt (Qm.quoteL x.data.toList)
    have hql := (Qm.quote_len x.data.toList h1).2.1
    rw [hu, lsize] at hql
    rw [lsize] at h2 hql
    have CQ := lhide (fun W => quote_c x u W (by omega) hu)
    have hpe : (⟨#[46]⟩ ++ u : ByteArray) = p := bext (by rw [dapp, ← hu]; exact hp)
    have a1 : ∀ W, (Op.stringOp .add ⟨#[46]⟩ u).run Tryd.prog W = .ok (.string (⟨#[46]⟩ ++ u)) W := fun W => run_string_add_sum _ _ _ (by show 1 + u.size ≤ _; omega)
    subst hpe
    clear h1 h2 e2 e3 e4 hp hpl hu hql
    go_enter Tryd.func21, Tryd.ntmps21
    go_wp2_with fail
    refine (lunhide CQ _).mono ?_
    rintro e w2 ⟨rfl, b2⟩
    have HB2 := lhide ((lunhide HB1).trans (b2.mono (lunhide HB1).size))
    clear b2
    go_wp2_with fail
    go_ret
    exact ⟨rfl, lunhide HB2⟩
  · dsimp only at e1 h1; subst e1
    have CP : Hid (∀ W, Calls Tryd.prog 34 #[.agg #[.bool ng, .string ⟨dg.toArray⟩, .int .i64 (sc : Int)]] W fun e w' => e = .returned (.string p) ∧ Below W.heap.size W w') := lhide (fun W => by
      have := print_any ⟨ng, dg, sc⟩ W h1
      rw [show (⟨(Dm.printL ⟨ng, dg, sc⟩).toArray⟩ : ByteArray) = p from bext (by rw [← hp]; rfl)] at this
      exact this)
    clear h1 e0 e2 hp hpl
    go_enter Tryd.func21, Tryd.ntmps21
    go_wp2_with fail
    refine (lunhide CP _).mono ?_
    rintro e w2 ⟨rfl, b2⟩
    have HB2 := lhide ((lunhide HB1).trans (b2.mono (lunhide HB1).size))
    clear b2
    go_wp2_with fail
    go_ret
    exact ⟨rfl, lunhide HB2⟩
  · dsimp only at e1 h1 h2; subst e1
    rw [lsize] at h2
    have CQ := lhide (fun W => quote_c x p W (by omega) hp)
    clear h1 h2 e2 e3 e4 hp hpl
    go_enter Tryd.func21, Tryd.ntmps21
    go_wp2_with fail
    refine (lunhide CQ _).mono ?_
    rintro e w2 ⟨rfl, b2⟩
    have HB2 := lhide ((lunhide HB1).trans (b2.mono (lunhide HB1).size))
    clear b2
    go_wp2_with fail
    go_ret
    exact ⟨rfl, lunhide HB2⟩
  · dsimp only at e1; subst e1
    obtain rfl : x = p := bext hp
    clear h1 e2 e3 e4 hp hpl
    go_enter Tryd.func21, Tryd.ntmps21
    go_wp2_with fail
    go_ret
    exact ⟨rfl, lunhide HB1⟩
end Go.Proofs.YtppkknmgdahniabDoor.Lex
