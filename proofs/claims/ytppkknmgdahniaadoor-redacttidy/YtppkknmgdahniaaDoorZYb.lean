/- What is proved here: plain facts on what is shown of a tree, by a rule that tells which masks are hidden; conditions: as each theorem states. -/
import Derived.Test.YtppkknmgdahniaaDoorZDf
import Derived.Test.YtppkknmgdahniaaDoorZYj
import Derived.Test.YtppkknmgdahniaaDoorZAb
import Derived.Test.YtppkknmgdahniaaDoorZDd
import Derived.Test.YtppkknmgdahniaaDoorZBa
import Derived.Test.YtppkknmgdahniaaDoorZBb
import Derived.Test.YtppkknmgdahniaaDoorZBd
import Derived.Test.YtppkknmgdahniaaDoorZAc
import Derived.Test.YtppkknmgdahniaaDoorZBe
namespace Go.Proofs.YtppkknmgdahniaaDoor.Pol
set_option maxRecDepth 100000
open Go.RowKit
set_option maxRecDepth 100000
set_option linter.unusedVariables false
set_option linter.unusedSimpArgs false

/-- Texts with commas between. -/
def joinC : List (List UInt8) → List UInt8
  | [] => []
  | x :: r => x ++ r.flatMap (fun y => 44 :: y)
theorem joinC_snoc (l : List (List UInt8)) (x : List UInt8) : joinC (l ++ [x]) = joinC l ++ ((if l = [] then [] else [44]) ++ x) := by
  cases l with
  | nil => simp [joinC]
  | cons y r => simp [joinC, List.flatMap_append]
/-- A kid's text, behind its key. -/
def keyed (h : Hd) (i : Nat) (x : List UInt8) : List UInt8 := if h.k = 7 then (match h.ks[i]? with | some s => Qm.quoteL s.data.toList ++ 58 :: x | none => x) else x
/-- What a node without kids is printed as. -/
def scalL (h : Hd) : List UInt8 :=
  if h.k = 1 then [110, 117, 108, 108] else if h.k = 2 then [102, 97, 108, 115, 101] else if h.k = 3 then [116, 114, 117, 101] else
  if h.k = 4 then Dm.printL ⟨h.ng, h.dg.data.toList, h.sc.toNat⟩ else if h.k = 5 then Qm.quoteL h.tx.data.toList else [33, 52, 48]
def opens (h : Hd) : UInt8 := if h.k = 6 then 91 else 123
def closes (h : Hd) : UInt8 := if h.k = 6 then 93 else 125
/-- What is shown of a tree. -/
def showL (hid : Nat → Bool) (hole : List UInt8) : Nat → Tr → List UInt8
  | 0, _ => []
  | n + 1, t => if hid (Tr.hd t).m = true then hole else if (Tr.hd t).k = 6 ∨ (Tr.hd t).k = 7 then
      opens (Tr.hd t) :: (joinC (((Tr.kd t).map (showL hid hole n)).mapIdx (keyed (Tr.hd t))) ++ [closes (Tr.hd t)]) else scalL (Tr.hd t)
theorem show_hid {hid : Nat → Bool} {hole : List UInt8} {n : Nat} {t : Tr} (h : hid (Tr.hd t).m = true) : showL hid hole (n + 1) t = hole := if_pos h
theorem show_row {hid : Nat → Bool} {hole : List UInt8} {n : Nat} {t : Tr} (h : ¬ hid (Tr.hd t).m = true) (hk : (Tr.hd t).k = 6 ∨ (Tr.hd t).k = 7) :
    showL hid hole (n + 1) t = opens (Tr.hd t) :: (joinC (((Tr.kd t).map (showL hid hole n)).mapIdx (keyed (Tr.hd t))) ++ [closes (Tr.hd t)]) := by
  unfold showL; rw [if_neg h, if_pos hk]
theorem show_leaf {hid : Nat → Bool} {hole : List UInt8} {n : Nat} {t : Tr} (h : ¬ hid (Tr.hd t).m = true) (hk : ¬ ((Tr.hd t).k = 6 ∨ (Tr.hd t).k = 7)) : showL hid hole (n + 1) t = scalL (Tr.hd t) := by
  unfold showL; rw [if_neg h, if_neg hk]
/-- The kids' texts, as far as they are. -/
def partL (hid : Nat → Bool) (hole : List UInt8) (n : Nat) (h : Hd) (l : List Tr) (k : Nat) : List UInt8 := joinC ((((l.map (showL hid hole n)).mapIdx (keyed h))).take k)
theorem part_zero {hid : Nat → Bool} {hole : List UInt8} {n : Nat} {h : Hd} {l : List Tr} : partL hid hole n h l 0 = [] := rfl
theorem part_next {hid : Nat → Bool} {hole : List UInt8} {n : Nat} {h : Hd} {l : List Tr} {k : Nat} (hk : k < l.length) :
    partL hid hole n h l (k + 1) = partL hid hole n h l k ++ ((if k = 0 then [] else [44]) ++ keyed h k (showL hid hole n (l[k]'hk))) := by
  unfold partL
  rw [List.take_succ_eq_append_getElem (by simpa using hk), joinC_snoc]
  congr 2
  · by_cases e : k = 0
    · subst e; simp
    · rw [if_neg e, if_neg]
      intro e2
      have := congrArg List.length e2
      rw [List.length_take] at this
      simp only [List.length_mapIdx, List.length_map, List.length_nil] at this
      omega
  · simp
theorem part_all {hid : Nat → Bool} {hole : List UInt8} {n : Nat} {h : Hd} {l : List Tr} : partL hid hole n h l l.length = joinC ((l.map (showL hid hole n)).mapIdx (keyed h)) := by
  unfold partL
  rw [List.take_of_length_le (by simp)]

/-! ### lengths -/
theorem joinC_len : ∀ l : List (List UInt8), (joinC l).length ≤ (l.map (fun x => x.length + 1)).sum
  | [] => by simp [joinC]
  | x :: r => by
    have : (r.flatMap (fun y => (44 : UInt8) :: y)).length = (r.map (fun x => x.length + 1)).sum := by
      induction r with
      | nil => rfl
      | cons y r ih => simp [List.flatMap_cons, ih]; omega
    simp only [joinC, List.length_append, this, List.map_cons, List.sum_cons]
    omega
theorem scal_len {h : Hd} {m : Nat} (g : HdOk h m) : (scalL h).length ≤ 602 := by
  obtain ⟨g1, g2, -, -, g4, -, g5, -, -, -⟩ := g
  unfold scalL
  repeat' split
  · decide
  · decide
  · decide
  · rename_i e
    obtain ⟨d, hd, e1, e2, e3⟩ := g4 e
    have hl : ∀ d : Dm.D, Dm.May d → (Dm.printL d).length ≤ 602 := by
      intro d h
      obtain ⟨-, h1, h2, -⟩ := h
      have a1 : (if d.ng then [45] else ([] : List UInt8)).length ≤ 1 := by split <;> decide
      have a2 : (if d.ds.length ≤ d.sc then [48, 46] ++ List.replicate (d.sc - d.ds.length) 48 ++ d.ds else d.ds.take (d.ds.length - d.sc) ++ (if 0 < d.sc then 46 :: d.ds.drop (d.ds.length - d.sc) else [])).length ≤ 300 := by
        split
        · simp only [List.length_append, List.length_cons, List.length_nil, List.length_replicate]; omega
        · split
          · simp only [List.length_append, List.length_cons, List.length_take, List.length_drop]; omega
          · simp only [List.length_append, List.length_nil, List.length_take]; omega
      unfold Dm.printL
      rw [List.length_append]
      omega
    have : (⟨h.ng, h.dg.data.toList, h.sc.toNat⟩ : Dm.D) = d := by rw [e1, e2, e3]; cases d; simp
    rw [this]
    exact hl d hd
  · rename_i e
    have := Qm.quote_len h.tx.data.toList (g5 e).2
    have h2 := (g5 e).1
    have h3 : h.tx.data.toList.length = h.tx.size := Array.length_toList
    omega
  · decide
theorem keyed_len {h : Hd} {m : Nat} (g : goodH h m) (i : Nat) (x : List UInt8) : (keyed h i x).length ≤ x.length + 603 := by
  unfold keyed
  split
  · rename_i e
    split
    · rename_i s hs
      have hk := (g.2.1 e).2.2 s (List.mem_of_getElem? hs)
      have := Qm.quote_len s.data.toList hk.2
      have h2 := hk.1
      have h3 : s.data.toList.length = s.size := Array.length_toList
      simp only [List.length_append, List.length_cons]
      omega
    · omega
  · omega
theorem sum_le_of {α : Type} (f g : α → Nat) : ∀ l : List α, (∀ x ∈ l, f x ≤ g x) → (l.map f).sum ≤ (l.map g).sum
  | [], _ => Nat.le_refl _
  | x :: r, h => by
    have := sum_le_of f g r (fun y hy => h y (by simp [hy]))
    have := h x (by simp)
    simp only [List.map_cons, List.sum_cons]
    omega
theorem sum_mul (c : Nat) (f : Tr → Nat) : ∀ l : List Tr, (l.map (fun t => c * f t)).sum = c * (l.map f).sum
  | [] => rfl
  | x :: r => by simp only [List.map_cons, List.sum_cons, sum_mul c f r, Nat.mul_add]
theorem keyed_sum {h : Hd} {m : Nat} (g : goodH h m) : ∀ (l : List (List UInt8)) (i : Nat), ((l.mapIdx (fun j => keyed h (i + j))).map (fun x => x.length + 1)).sum ≤ (l.map (fun x => x.length + 604)).sum
  | [], _ => by simp
  | x :: r, i => by
    have h1 := keyed_sum g r (i + 1)
    have h2 := keyed_len g i x
    rw [List.mapIdx_cons]
    simp only [List.map_cons, List.sum_cons, Nat.add_zero]
    have e : (fun j => keyed h (i + (j + 1))) = fun j => keyed h (i + 1 + j) := by funext j; rw [show i + (j + 1) = i + 1 + j by omega]
    rw [e]
    omega
theorem show_len (hid : Nat → Bool) (hole : List UInt8) : ∀ (n : Nat) (t : Tr), goodT n t → (showL hid hole n t).length + 604 ≤ (1300 + hole.length) * sizeT n t
  | 0, t, _ => by simp only [showL, sizeT, List.length_nil, Nat.mul_one]; omega
  | n + 1, t, hg => by
    obtain ⟨hg1, hg2⟩ := hg
    have hs := scal_len hg1.1
    have hsz : sizeT (n + 1) t = 1 + ((Tr.kd t).map (sizeT n)).sum := rfl
    rw [hsz, Nat.mul_add, Nat.mul_one]
    by_cases h1 : hid (Tr.hd t).m = true
    · rw [show_hid h1]; omega
    · by_cases h2 : (Tr.hd t).k = 6 ∨ (Tr.hd t).k = 7
      · rw [show_row h1 h2]
        have hj := joinC_len (((Tr.kd t).map (showL hid hole n)).mapIdx (keyed (Tr.hd t)))
        have hk := keyed_sum hg1 ((Tr.kd t).map (showL hid hole n)) 0
        rw [show (fun j => keyed (Tr.hd t) (0 + j)) = keyed (Tr.hd t) by funext j; rw [Nat.zero_add]] at hk
        rw [List.map_map] at hk
        have hm := sum_le_of ((fun x => x.length + 604) ∘ showL hid hole n) (fun t => (1300 + hole.length) * sizeT n t) (Tr.kd t) (fun x hx => show_len hid hole n x (hg2 x hx))
        rw [sum_mul] at hm
        simp only [List.length_cons, List.length_append, List.length_nil]
        omega
      · rw [show_leaf h1 h2]; omega
theorem part_len (hid : Nat → Bool) (hole : List UInt8) (n : Nat) (h : Hd) (l : List Tr) (k : Nat) : (partL hid hole n h l k).length ≤ (joinC ((l.map (showL hid hole n)).mapIdx (keyed h))).length := by
  have : ∀ (a b : List (List UInt8)), (joinC a).length ≤ (joinC (a ++ b)).length := by
    intro a b
    cases a with
    | nil => simp [joinC]
    | cons x r => simp only [List.cons_append, joinC, List.flatMap_append, List.length_append]; omega
  unfold partL
  have h2 := this ((((l.map (showL hid hole n)).mapIdx (keyed h))).take k) ((((l.map (showL hid hole n)).mapIdx (keyed h))).drop k)
  rw [List.take_append_drop] at h2
  exact h2

/-! ### which masks are hidden -/
def hidU (cl m : Nat) : Bool := !Cm.subB m cl
def noneHid (_ : Nat) : Bool := false
/-- Masks that may be, and so many levels at most. -/
def smT : Nat → Tr → Prop
  | 0, _ => False
  | n + 1, t => (Tr.hd t).m < 18446744073709551616 ∧ ∀ k, k ∈ Tr.kd t → smT n k
theorem kid_mem {ok : Nat → Prop} {P : Value → Tr → Prop} {w : World} {dv : Value} {l : List Tr} (h : KidsIn ok P w dv l) {k : Tr} (hk : k ∈ l) : ∃ v, P v k := by
  obtain ⟨a, cap, h1, h0, h3⟩ := h
  obtain ⟨i, hi, rfl⟩ := List.getElem_of_mem hk
  obtain ⟨b, o, cs, e, ho, h2, r, p⟩ := h3 i hi
  exact ⟨_, p⟩
theorem Lies_sm {ok : Nat → Prop} {w : World} : ∀ {n : Nat} {v : Value} {t : Tr}, Lies ok w n v t → smT n t
  | 0, _, _, h => h.elim
  | n + 1, v, t, ⟨h, l, kv, dv, e1, e2, e0, e3, e4⟩ => by
    subst e1
    exact ⟨e0, fun k hk => by obtain ⟨v, hv⟩ := kid_mem e4 hk; exact Lies_sm hv⟩
end Go.Proofs.YtppkknmgdahniaaDoor.Pol
/- What is proved here: more plain facts on what is shown of a tree: lengths, what looks the same; conditions: as each theorem states. -/
namespace Go.Proofs.YtppkknmgdahniaaDoor.Pol
set_option maxRecDepth 100000
open Go.RowKit
set_option maxRecDepth 100000
set_option linter.unusedVariables false
set_option linter.unusedSimpArgs false

/-- What stands ahead of a kid's text. -/
def keyP (h : Hd) (i : Nat) : List UInt8 := if h.k = 7 then (match h.ks[i]? with | some s => Qm.quoteL s.data.toList ++ [58] | none => []) else []
theorem keyed_is (h : Hd) (i : Nat) (x : List UInt8) : keyed h i x = keyP h i ++ x := by
  unfold keyed keyP
  split
  · cases h.ks[i]? with
    | none => rfl
    | some s => simp
  · rfl
/-! ### clearances -/
theorem hid_nought (cl : Nat) : hidU cl 0 = false := by
  unfold hidU Cm.subB
  rw [Nat.zero_and]
  rfl
/-! ### of values without masks, and of one that has one at its top -/
/-! ### what looks the same -/
def hdB (a b : Hd) : Bool := decide (a.k = b.k) && decide (a.m = b.m) && (a.ng == b.ng) && decide (a.dg = b.dg) && decide (a.sc = b.sc) && decide (a.tx = b.tx) && decide (a.ks = b.ks) && decide (a.cd = b.cd)
theorem hdB_iff {a b : Hd} : hdB a b = true ↔ a = b := by
  obtain ⟨a1, a2, a3, a4, a5, a6, a7, a8⟩ := a
  obtain ⟨b1, b2, b3, b4, b5, b6, b7, b8⟩ := b
  unfold hdB
  simp only [Bool.and_eq_true, decide_eq_true_eq, beq_iff_eq, Hd.mk.injEq]
  constructor
  · rintro ⟨⟨⟨⟨⟨⟨⟨h1, h2⟩, h3⟩, h4⟩, h5⟩, h6⟩, h7⟩, h8⟩
    exact ⟨h1, h2, h3, h4, h5, h6, h7, h8⟩
  · rintro ⟨h1, h2, h3, h4, h5, h6, h7, h8⟩
    exact ⟨⟨⟨⟨⟨⟨⟨h1, h2⟩, h3⟩, h4⟩, h5⟩, h6⟩, h7⟩, h8⟩
/-- Two rows, one by one. -/
def rowsB (f : Tr → Tr → Bool) : List Tr → List Tr → Bool
  | [], [] => true
  | x :: r, y :: q => f x y && rowsB f r q
  | _, _ => false
def likeB (hid : Nat → Bool) : Nat → Tr → Tr → Bool
  | 0, _, _ => true
  | n + 1, a, b => if hid (Tr.hd a).m || hid (Tr.hd b).m then hid (Tr.hd a).m && hid (Tr.hd b).m else hdB (Tr.hd a) (Tr.hd b) && rowsB (likeB hid n) (Tr.kd a) (Tr.kd b)
theorem rowsB_len {f : Tr → Tr → Bool} : ∀ {l m : List Tr}, rowsB f l m = true → l.length = m.length
  | [], [], _ => rfl
  | x :: r, y :: q, h => by
    simp only [rowsB, Bool.and_eq_true] at h
    simp [rowsB_len h.2]
  | [], _ :: _, h => by cases h
  | _ :: _, [], h => by cases h
theorem rowsB_self {f : Tr → Tr → Bool} : ∀ (l : List Tr), (∀ x ∈ l, f x x = true) → rowsB f l l = true
  | [], _ => rfl
  | x :: r, h => by
    simp only [rowsB, Bool.and_eq_true]
    exact ⟨h x (by simp), rowsB_self r (fun y hy => h y (by simp [hy]))⟩
theorem rowsB_map {f g : Tr → Tr → Bool} (F : Tr → Tr) : ∀ (l m : List Tr), (∀ x ∈ l, ∀ y ∈ m, f x y = true → g (F x) (F y) = true) → rowsB f l m = true → rowsB g (l.map F) (m.map F) = true
  | [], [], _, _ => rfl
  | x :: r, y :: q, H, h => by
    simp only [rowsB, Bool.and_eq_true, List.map_cons] at *
    exact ⟨H x (by simp) y (by simp) h.1, rowsB_map F r q (fun x hx y hy => H x (by simp [hx]) y (by simp [hy])) h.2⟩
  | [], _ :: _, _, h => by cases h
  | _ :: _, [], _, h => by cases h
theorem rowsB_of {f : Tr → Tr → Bool} {α : Type} (F : Tr → α) : ∀ (l m : List Tr), (∀ x ∈ l, ∀ y ∈ m, f x y = true → F x = F y) → rowsB f l m = true → l.map F = m.map F
  | [], [], _, _ => rfl
  | x :: r, y :: q, H, h => by
    simp only [rowsB, Bool.and_eq_true, List.map_cons] at *
    rw [H x (by simp) y (by simp) h.1, rowsB_of F r q (fun x hx y hy => H x (by simp [hx]) y (by simp [hy])) h.2]
  | [], _ :: _, _, h => by cases h
  | _ :: _, [], _, h => by cases h
theorem rowsB_symm {f : Tr → Tr → Bool} : ∀ (l m : List Tr), (∀ x ∈ l, ∀ y ∈ m, f x y = f y x) → rowsB f l m = rowsB f m l
  | [], [], _ => rfl
  | x :: r, y :: q, H => by
    simp only [rowsB]
    rw [H x (by simp) y (by simp), rowsB_symm r q (fun x hx y hy => H x (by simp [hx]) y (by simp [hy]))]
  | [], _ :: _, _ => rfl
  | _ :: _, [], _ => rfl
theorem like_self (hid : Nat → Bool) : ∀ (n : Nat) (t : Tr), likeB hid n t t = true
  | 0, _ => rfl
  | n + 1, t => by
    unfold likeB
    cases h : hid (Tr.hd t).m
    · rw [if_neg (by simp), hdB_iff.2 rfl, rowsB_self _ (fun x _ => like_self hid n x)]; rfl
    · simp
theorem hdB_symm (a b : Hd) : hdB a b = hdB b a := by
  cases h : hdB b a
  · cases h2 : hdB a b
    · rfl
    · rw [hdB_iff.1 h2, hdB_iff.2 rfl] at h; cases h
  · rw [hdB_iff.1 h]; exact hdB_iff.2 rfl
theorem like_symm (hid : Nat → Bool) : ∀ (n : Nat) (a b : Tr), likeB hid n a b = likeB hid n b a
  | 0, _, _ => rfl
  | n + 1, a, b => by
    unfold likeB
    rw [hdB_symm, rowsB_symm _ _ (fun x _ y _ => like_symm hid n x y), Bool.or_comm, Bool.and_comm (hid (Tr.hd a).m)]
theorem like_show (hid : Nat → Bool) (hole : List UInt8) : ∀ (n : Nat) (a b : Tr), likeB hid n a b = true → showL hid hole n a = showL hid hole n b
  | 0, _, _, _ => rfl
  | n + 1, a, b, h => by
    unfold likeB at h
    cases h1 : hid (Tr.hd a).m
    · cases h2 : hid (Tr.hd b).m
      · rw [h1, h2, if_neg (by simp), Bool.and_eq_true] at h
        have e := hdB_iff.1 h.1
        have e2 := rowsB_of (showL hid hole n) _ _ (fun x _ y _ hxy => like_show hid hole n x y hxy) h.2
        unfold showL
        rw [h1, h2, e, e2]
      · rw [h1, h2] at h; cases h
    · cases h2 : hid (Tr.hd b).m
      · rw [h1, h2] at h; cases h
      · rw [show_hid h1, show_hid h2]
/-! ### and when it is tidy -/
theorem or_sub {a b c : Nat} (h : Cm.subB (a ||| b) c = true) : Cm.subB a c = true := by
  unfold Cm.subB at *
  rw [beq_iff_eq] at *
  apply Nat.eq_of_testBit_eq
  intro i
  have h2 := congrArg (fun x => Nat.testBit x i) h
  simp only [Nat.testBit_and, Nat.testBit_or] at h2 ⊢
  revert h2
  cases a.testBit i <;> cases b.testBit i <;> cases c.testBit i <;> simp
theorem hid_or {cl a b : Nat} (h : hidU cl a = true) : hidU cl (a ||| b) = true := by
  unfold hidU at *
  cases e : Cm.subB (a ||| b) cl
  · rfl
  · rw [or_sub e] at h; exact h
end Go.Proofs.YtppkknmgdahniaaDoor.Pol
/- What is proved here: whether a node is hidden, and how package text prints a node without kids, walked; conditions: the node lies, and is one of a row's. -/
namespace Go.Proofs.YtppkknmgdahniaaDoor.Pol
set_option maxRecDepth 100000
open Go.RowKit Go.Proofs.YtppkknmgdahniaaDoor.Nc Go.Proofs.YtppkknmgdahniaaDoor.Np Go.Proofs.YtppkknmgdahniaaDoor.Nq
set_option maxRecDepth 100000
set_option linter.unusedVariables false
set_option linter.unusedSimpArgs false

set_option maxHeartbeats 1000000 in
theorem hidden_any (ok : Nat → Prop) (n : Nat) (v : Value) (t : Tr) (cl : Nat) (hcl : cl < 18446744073709551616) (q : Bool) (hq : hidU cl (Tr.hd t).m = q) (w : World) (hl : Lies ok w n v t) :
    Calls Tryd.prog 16 #[v, .int .u64 (cl : Int)] w fun e w' => e = .returned (.bool q) ∧ Below w.heap.size w w' := by
  obtain ⟨m, h, l, kv, dv, rfl, rfl, rfl, hm, hs, hk⟩ := hl.open
  obtain ⟨ka, kc, rfl, hkc, hks⟩ := hs
  obtain ⟨da, dc, rfl, hdc, hkid⟩ := hk
  obtain ⟨q1, hq1⟩ : ∃ q1, Cm.subB h.m cl = q1 := ⟨_, rfl⟩
  have hq2 : q = !q1 := by rw [← hq, ← hq1]; rfl
  subst hq2
  have C := fun W => within_any h.m cl hm hcl W
  rw [hq1] at C
  unfold nine
  clear hl hks hkid hq hq1
  go_enter Tryd.func16, Tryd.ntmps16
  go_wp2_with fail
  refine (C _).mono ?_
  rintro e W ⟨rfl, rfl⟩
  go_wp2
  go_returns
  exact ⟨rfl, by go_grown⟩
set_option maxHeartbeats 1000000 in
theorem rhidden_any (ok : Nat → Prop) (n : Nat) (v : Value) (t : Tr) (cl : Nat) (hcl : cl < 18446744073709551616) (q : Bool) (hq : hidU cl (Tr.hd t).m = q) (w : World) (hl : Lies ok w n v t) :
    Calls Tryd.prog 17 #[v, .int .u64 (cl : Int)] w fun e w' => e = .returned (.bool q) ∧ Below w.heap.size w w' := by
  obtain ⟨m, h, l, kv, dv, rfl, rfl, rfl, hm, hs, hk⟩ := hl.open
  obtain ⟨ka, kc, rfl, hkc, hks⟩ := hs
  obtain ⟨da, dc, rfl, hdc, hkid⟩ := hk
  obtain ⟨q1, hq1⟩ : ∃ q1, Cm.subB h.m cl = q1 := ⟨_, rfl⟩
  have hq2 : q = !q1 := by rw [← hq, ← hq1]; rfl
  subst hq2
  have C := fun W => rwithin_any h.m cl hm hcl W
  rw [hq1] at C
  unfold nine
  clear hl hks hkid hq hq1
  go_enter Tryd.func17, Tryd.ntmps17
  go_wp2_with fail
  refine (C _).mono ?_
  rintro e W ⟨rfl, rfl⟩
  go_wp2
  go_returns
  exact ⟨rfl, by go_grown⟩

/-! ### a builder, and what stays beside it -/
abbrev IsW (B : Nat) (l : List UInt8) (W : World) : Prop := Lib.IsBuilderF 83 5 B B (Lib.byteCells l) W
theorem isW_lt {B : Nat} {l : List UInt8} {W : World} (h : IsW B l W) : B < W.heap.size := by rcases h with h | h <;> exact h.lt
theorem isW_stays {B : Nat} {l : List UInt8} {W W' : World} (h : IsW B l W) (hk : Below W.heap.size W W') : IsW B l W' := Nc.stays h hk
theorem wcells_of (s : ByteArray) : Lib.strCells s = Lib.byteCells s.data.toList := rfl
def Fr (B : Nat) (w w' : World) : Prop := Below B w w' ∧ Lib.OthersKept 5 (some B) w w'
theorem Fr.refl (B : Nat) (w : World) : Fr B w w := ⟨Below.refl _ _, Lib.OthersKept.refl _ _ _⟩
theorem Fr.trans {B : Nat} {a b c : World} (h : Fr B a b) (g : Fr B b c) : Fr B a c := ⟨h.1.trans g.1, h.2.trans g.2⟩
theorem Fr.of {B : Nat} {a b : World} (h : Below a.heap.size a b) (hB : B ≤ a.heap.size) : Fr B a b := ⟨h.mono hB, fun k o hk _ _ => (h.block k (by
  rcases Nat.lt_or_ge k a.heap.size with g | g
  · exact g
  · rw [Array.getElem?_eq_none g] at hk; cases hk)).trans hk⟩
/-- A block that holds these cells. -/
def Bx (W : World) (b : Nat) (cs : Array Value) (t : TypeId) : Prop := W.heap[b]? = some (.cells cs t)
theorem Bx.new (W : World) (cs : Array Value) (t : TypeId) : Bx (W.alloc (.cells cs t)) W.heap.size cs t := Go.heap_alloc_new W _
theorem Bx.lt {W : World} {b : Nat} {cs : Array Value} {t : TypeId} (h : Bx W b cs t) : b < W.heap.size := by
  rcases Nat.lt_or_ge b W.heap.size with g | g
  · exact g
  · unfold Bx at h; rw [Array.getElem?_eq_none g] at h; cases h
theorem Bx.below {W W' : World} {b : Nat} {cs : Array Value} {t : TypeId} (h : Bx W b cs t) (g : Below W.heap.size W W') : Bx W' b cs t := (g.block b h.lt).trans h
theorem Bx.fr {W W' : World} {B b : Nat} {cs : Array Value} {t : TypeId} (h : Bx W b cs t) (g : Fr B W W') (ht : t ≠ 5) (hb : b ≠ B) : Bx W' b cs t :=
  g.2 b _ h (fun e => hb (Option.some.inj e)) (fun c fz e => by cases e; exact ht rfl)
theorem Bx.cell {W : World} {b : Nat} {cs : Array Value} {t : TypeId} (h : Bx W b cs t) (i : Nat) : W.cell? ⟨b, i, none⟩ = cs[i]? := cell_of_row W b i _ _ _ h
theorem Bx.free {W : World} {b : Nat} {cs : Array Value} {t : TypeId} (h : Bx W b cs t) (i : Nat) : W.frozen? ⟨b, i, none⟩ = false := by
  unfold Bx at h
  simp [World.frozen?, h]
theorem alloc_facts (w : World) (cs : Array Value) (t : TypeId) : ∃ w1, w.alloc (.cells cs t) = w1 ∧ w1.heap.size = w.heap.size + 1 ∧ Below w.heap.size w w1 ∧ Bx w1 w.heap.size cs t := ⟨_, rfl, by simp, (Below.refl _ _).alloc (Nat.le_refl _) _, Bx.new _ _ _⟩
theorem str_w (B : Nat) (l : List UInt8) (s : ByteArray) (w : World) (hI : IsW B l w) (hl : l.length + s.size ≤ 140737488355328) :
    Calls Tryd.prog 49 #[.pointer (some ⟨B, 0, none⟩), .string s] w fun e w' => e = .returned (.tuple #[.int .i64 s.size, .nilIface]) ∧ IsW B (l ++ s.data.toList) w' ∧ Fr B w w' := by
  refine (Tryd.Builder_WriteString_k B B _ s w hI (by rw [Lib.byteCells_length]; exact hl) (Nat.le_of_lt (isW_lt hI))).mono ?_
  rintro e w' ⟨rfl, i1, b1, k1⟩
  refine ⟨rfl, ?_, b1, k1⟩
  rw [wcells_of, ← Lib.byteCells_append] at i1
  exact .inr i1
theorem byte_w (B : Nat) (l : List UInt8) (c : UInt8) (z : Int) (hz : z = (c.toNat : Int)) (w : World) (hI : IsW B l w) (hl : l.length + 1 ≤ 140737488355328) :
    Calls Tryd.prog 47 #[.pointer (some ⟨B, 0, none⟩), .int .u8 z] w fun e w' => e = .returned .nilIface ∧ IsW B (l ++ [c]) w' ∧ Fr B w w' := by
  subst hz
  refine (Tryd.Builder_WriteByte_k B B _ (c.toNat : Int) w hI (by rw [Lib.byteCells_length]; exact hl) (Nat.le_of_lt (isW_lt hI))).mono ?_
  rintro e w' ⟨rfl, i1, b1, k1⟩
  refine ⟨rfl, ?_, b1, k1⟩
  rw [show [Value.int .u8 (c.toNat : Int)] = Lib.byteCells [c] from rfl, ← Lib.byteCells_append] at i1
  exact .inr i1
theorem text_w (B : Nat) (l : List UInt8) (w : World) (hI : IsW B l w) :
    Calls Tryd.prog 53 #[.pointer (some ⟨B, 0, none⟩)] w fun e w' => e = .returned (.string ⟨l.toArray⟩) ∧ IsW B l w' ∧ Fr B w w' := by
  refine (Tryd.Builder_String_any_k B B l w hI (Nat.le_of_lt (isW_lt hI))).mono ?_
  rintro e w' ⟨rfl, i1, b1, k1⟩
  exact ⟨rfl, i1, b1, k1⟩

theorem hitoa (n : Int) (s : ByteArray) (h0 : -9223372036854775808 ≤ n) (h1 : n ≤ 9223372036854775807) (w : World) (htab : Pow w) (hs : (⟨(Lib.itoa n).toArray⟩ : ByteArray) = s) :
    Calls Tryd.prog 63 #[.int .i64 n] w fun e w' => e = .returned (.string s) ∧ Below w.heap.size w w' := by
  refine (Tryd.strconv_Itoa n h0 h1 w htab).mono ?_
  rintro e w' ⟨rfl, k, os, rfl⟩
  exact ⟨by rw [hs], Lib.below_grow _ _ (Nat.le_refl _) _ _⟩

/-! ### what text.write does with a node without kids -/
theorem leaf_num {h : Hd} {m : Nat} (g : HdOk h m) (e : h.k = 4) (s : ByteArray) (hs : (scalL h) = s.data.toList) (w : World) :
    Calls Tryd.prog 88 #[.agg #[.bool h.ng, .string h.dg, .int .i64 h.sc]] w fun e w' => e = .returned (.string s) ∧ Below w.heap.size w w' := by
  obtain ⟨d, hd, e1, e2, e3⟩ := g.2.2.2.2.1 e
  have hh : scalL h = Dm.printL d := by
    have : (⟨h.ng, h.dg.data.toList, h.sc.toNat⟩ : Dm.D) = d := by rw [e1, e2, e3]; cases d; simp
    unfold scalL
    rw [e, if_neg (by decide), if_neg (by decide), if_neg (by decide), if_pos rfl, this]
  have := print_any d w hd
  rw [← hh, hs, Array.toArray_toList] at this
  rw [e1, e2, e3]
  exact this
theorem scal_txt (h : Hd) : ∃ s : ByteArray, scalL h = s.data.toList := ⟨⟨(scalL h).toArray⟩, by simp⟩
set_option maxHeartbeats 4000000 in
theorem twrite_leaf (B : Nat) (L : List UInt8) (h : Hd) (m : Nat) (ka : Option Addr) (kn kc : Nat) (da : Option Addr) (dn dc : Nat) (hg : HdOk h m) (hk : ¬ (h.k = 6 ∨ h.k = 7)) (w : World) (hI : IsW B L w) (hL : L.length ≤ 1000000000) (hP : Pow w) :
    Calls Tryd.prog 74 #[.pointer (some ⟨B, 0, none⟩), .agg #[.int .i64 h.k, .int .u64 (h.m : Int), .bool h.ng, .string h.dg, .int .i64 h.sc, .string h.tx, .slice ka kn kc, .slice da dn dc, .int .i64 h.cd]] w
      fun e w' => e = .returned (.tuple #[]) ∧ IsW B (L ++ scalL h) w' ∧ Fr B w w' := by
  obtain ⟨s, hs⟩ := scal_txt h
  have hsl : s.size ≤ 602 := by have := scal_len hg; rw [hs, len_size] at this; exact this
  rw [hs]
  have hlt := isW_lt hI
  have hB1 : Below w.heap.size w (w.alloc (.cells #[.pointer (some ⟨B, 0, none⟩)] 80)) := (Below.refl _ _).alloc (Nat.le_refl _) _
  have hB2 := hB1.alloc hB1.size (.cells #[.int .i64 h.k, .int .u64 (h.m : Int), .bool h.ng, .string h.dg, .int .i64 h.sc, .string h.tx, .slice ka kn kc, .slice da dn dc, .int .i64 h.cd] 31)
  have x1 := (Bx.new w #[.pointer (some ⟨B, 0, none⟩)] 80).below ((Below.refl _ _).alloc (Nat.le_refl _) (.cells #[.int .i64 h.k, .int .u64 (h.m : Int), .bool h.ng, .string h.dg, .int .i64 h.sc, .string h.tx, .slice ka kn kc, .slice da dn dc, .int .i64 h.cd] 31))
  have x2 := Bx.new (w.alloc (.cells #[.pointer (some ⟨B, 0, none⟩)] 80)) #[.int .i64 h.k, .int .u64 (h.m : Int), .bool h.ng, .string h.dg, .int .i64 h.sc, .string h.tx, .slice ka kn kc, .slice da dn dc, .int .i64 h.cd] 31
  rw [show (w.alloc (.cells #[.pointer (some ⟨B, 0, none⟩)] 80)).heap.size = w.heap.size + 1 by simp] at x2
  have hI2 := isW_stays hI hB2
  have hP2 := hP.next hB2
  have hF2 := Fr.of hB2 (Nat.le_of_lt hlt)
  have HH : Hid (HdOk h m ∧ scalL h = s.data.toList) := phide ⟨hg, hs⟩
  have hkk : h.k = 1 ∨ h.k = 2 ∨ h.k = 3 ∨ h.k = 4 ∨ h.k = 5 ∨ h.k = 8 := by have := hg.1; have := hg.2.1; omega
  have hSL : Hid (h.k = 1 → s = ⟨#[110, 117, 108, 108]⟩) := phide (fun e => by
    have : scalL h = [110, 117, 108, 108] := if_pos e
    rw [this] at hs
    exact ByteArray.ext (Array.toList_inj.1 hs.symm))
  have hSL2 : Hid (h.k = 2 → s = ⟨#[102, 97, 108, 115, 101]⟩) := phide (fun e => by
    have : scalL h = [102, 97, 108, 115, 101] := by unfold scalL; rw [e, if_neg (by decide), if_pos rfl]
    rw [this] at hs
    exact ByteArray.ext (Array.toList_inj.1 hs.symm))
  have hSL3 : Hid (h.k = 3 → s = ⟨#[116, 114, 117, 101]⟩) := phide (fun e => by
    have : scalL h = [116, 114, 117, 101] := by unfold scalL; rw [e, if_neg (by decide), if_neg (by decide), if_pos rfl]
    rw [this] at hs
    exact ByteArray.ext (Array.toList_inj.1 hs.symm))
  have hSL8 : Hid (h.k = 8 → s = ⟨#[33, 52, 48]⟩ ∧ h.cd = 40) := phide (fun e => by
    have : scalL h = [33, 52, 48] := by unfold scalL; rw [e, if_neg (by decide), if_neg (by decide), if_neg (by decide), if_neg (by decide), if_neg (by decide)]
    rw [this] at hs
    exact ⟨ByteArray.ext (Array.toList_inj.1 hs.symm), hg.2.2.2.2.2.2.2.2.1 e⟩)
  clear hg hs hB1 hI hP
  go_enter Tryd.func74, Tryd.ntmps74
  go_upto_region 1 with fail
  generalize (w.alloc (.cells #[.pointer (some ⟨B, 0, none⟩)] 80)).alloc (.cells #[.int .i64 h.k, .int .u64 (h.m : Int), .bool h.ng, .string h.dg, .int .i64 h.sc, .string h.tx, .slice ka kn kc, .slice da dn dc, .int .i64 h.cd] 31) = W1 at *
  generalize w.heap.size = p at *
  have hpB : p ≠ B := by omega
  have hpB1 : p + 1 ≠ B := by omega
  have HSB : Hid (∀ W : World, Bx W p #[.pointer (some ⟨B, 0, none⟩)] 80 → Bx W (p + 1) #[.int .i64 h.k, .int .u64 (h.m : Int), .bool h.ng, .string h.dg, .int .i64 h.sc, .string h.tx, .slice ka kn kc, .slice da dn dc, .int .i64 h.cd] 31 →
      W.cell? ⟨p, 0, none⟩ = some (.pointer (some ⟨B, 0, none⟩)) ∧ W.cell? ⟨p + 1, 0, none⟩ = some (.int .i64 h.k) ∧ W.cell? ⟨p + 1, 2, none⟩ = some (.bool h.ng) ∧ W.cell? ⟨p + 1, 3, none⟩ = some (.string h.dg) ∧ W.cell? ⟨p + 1, 4, none⟩ = some (.int .i64 h.sc) ∧
        W.cell? ⟨p + 1, 5, none⟩ = some (.string h.tx) ∧ W.cell? ⟨p + 1, 8, none⟩ = some (.int .i64 h.cd)) := phide (fun W g1 g2 => ⟨g1.cell 0, g2.cell 0, g2.cell 2, g2.cell 3, g2.cell 4, g2.cell 5, g2.cell 8⟩)
  obtain ⟨c0, c1, c2, c3, c4, c5, c8⟩ := punhide HSB W1 x1 x2
  have HX := phide (And.intro x1 x2)
  have HF : Hid (∀ W, Fr B W1 W → Fr B w W) := phide (fun W h => hF2.trans h)
  have HSD : Hid (∀ W, Below W1.heap.size W1 W → W.cell? ⟨p, 0, none⟩ = some (.pointer (some ⟨B, 0, none⟩)) ∧ W.cell? ⟨p + 1, 0, none⟩ = some (.int .i64 h.k) ∧ W.cell? ⟨p + 1, 2, none⟩ = some (.bool h.ng) ∧ W.cell? ⟨p + 1, 3, none⟩ = some (.string h.dg) ∧ W.cell? ⟨p + 1, 4, none⟩ = some (.int .i64 h.sc) ∧
        W.cell? ⟨p + 1, 5, none⟩ = some (.string h.tx) ∧ W.cell? ⟨p + 1, 8, none⟩ = some (.int .i64 h.cd)) := phide (fun W hW => punhide HSB W ((punhide HX).1.below hW) ((punhide HX).2.below hW))
  have HSF : Hid (∀ W, Fr B W1 W → W.cell? ⟨p, 0, none⟩ = some (.pointer (some ⟨B, 0, none⟩)) ∧ W.cell? ⟨p + 1, 0, none⟩ = some (.int .i64 h.k) ∧ W.cell? ⟨p + 1, 2, none⟩ = some (.bool h.ng) ∧ W.cell? ⟨p + 1, 3, none⟩ = some (.string h.dg) ∧ W.cell? ⟨p + 1, 4, none⟩ = some (.int .i64 h.sc) ∧
        W.cell? ⟨p + 1, 5, none⟩ = some (.string h.tx) ∧ W.cell? ⟨p + 1, 8, none⟩ = some (.int .i64 h.cd)) := phide (fun W hW => punhide HSB W ((punhide HX).1.fr hW (by decide) hpB) ((punhide HX).2.fr hW (by decide) hpB1))
  have hlt1 := isW_lt hI2
  have hS : Below W1.heap.size W1 W1.drew := (Below.refl _ _).drew
  clear x1 x2 hF2 hB2
  rcases hkk with e | e | e | e | e | e
  · have es := punhide hSL e
    rw [e] at c1 ⊢
    clear hSL hSL2 hSL3 hSL8 e
    go_wp2_with fail
    refine (str_w B L _ W1 hI2 (by show _ + 4 ≤ _; omega)).mono ?_
    rintro e9 w2 ⟨rfl, i2, f2⟩
    go_wp2
    go_returns
    exact ⟨rfl, by rw [es]; exact i2, punhide HF _ f2⟩
  · have es := punhide hSL2 e
    rw [e] at c1 ⊢
    clear hSL hSL2 hSL3 hSL8 e
    go_wp2_with fail
    refine (str_w B L _ W1 hI2 (by show _ + 5 ≤ _; omega)).mono ?_
    rintro e9 w2 ⟨rfl, i2, f2⟩
    go_wp2
    go_returns
    exact ⟨rfl, by rw [es]; exact i2, punhide HF _ f2⟩
  · have es := punhide hSL3 e
    rw [e] at c1 ⊢
    clear hSL hSL2 hSL3 hSL8 e
    go_wp2_with fail
    refine (str_w B L _ W1 hI2 (by show _ + 4 ≤ _; omega)).mono ?_
    rintro e9 w2 ⟨rfl, i2, f2⟩
    go_wp2
    go_returns
    exact ⟨rfl, by rw [es]; exact i2, punhide HF _ f2⟩
  · have CN := fun W => leaf_num (punhide HH).1 e s (punhide HH).2 W
    rw [e] at c1
    clear hSL hSL2 hSL3 hSL8 e
    go_upto_region 9 with fail
    go_region_held3 (fun W => W.cell? ⟨p, 0, none⟩ = some (.pointer (some ⟨B, 0, none⟩)) ∧ W.cell? ⟨p + 1, 2, none⟩ = some (.bool h.ng) ∧ W.cell? ⟨p + 1, 3, none⟩ = some (.string h.dg) ∧ W.cell? ⟨p + 1, 4, none⟩ = some (.int .i64 h.sc))
      (first | exact ⟨(punhide HSD _ hS).1, (punhide HSD _ hS).2.2.1, (punhide HSD _ hS).2.2.2.1, (punhide HSD _ hS).2.2.2.2.1⟩ | exact hSE)
      (first
        | (go_at_call 88; refine (CN _).mono ?_; rintro e9 w9 ⟨rfl, b9⟩; replace hS := hS.trans (b9.mono hS.size); clear b9)
        | (go_at_call 49; refine (str_w B L s _ (isW_stays hI2 hS) (by omega)).mono ?_; rintro e9 w2 ⟨rfl, i2, f2⟩; replace f2 := (Fr.of hS (Nat.le_of_lt hlt1)).trans f2
           have hSE : w2.cell? ⟨p, 0, none⟩ = some (.pointer (some ⟨B, 0, none⟩)) ∧ w2.cell? ⟨p + 1, 2, none⟩ = some (.bool h.ng) ∧ w2.cell? ⟨p + 1, 3, none⟩ = some (.string h.dg) ∧ w2.cell? ⟨p + 1, 4, none⟩ = some (.int .i64 h.sc) := ⟨(punhide HSF _ f2).1, (punhide HSF _ f2).2.2.1, (punhide HSF _ f2).2.2.2.1, (punhide HSF _ f2).2.2.2.2.1⟩))
    all_goals
      go_wp2
      go_returns
      exact ⟨rfl, i2, punhide HF _ f2⟩
  · have CQ := fun W => quote_c h.tx s W (by have := (punhide HH).1.2.2.2.2.2.2.1 e; have := this.1; omega) (by rw [← (punhide HH).2]; unfold scalL; rw [e, if_neg (by decide), if_neg (by decide), if_neg (by decide), if_neg (by decide), if_pos rfl])
    rw [e] at c1
    clear hSL hSL2 hSL3 hSL8 e
    go_upto_region 11 with fail
    go_region_held3 (fun W => W.cell? ⟨p, 0, none⟩ = some (.pointer (some ⟨B, 0, none⟩)) ∧ W.cell? ⟨p + 1, 5, none⟩ = some (.string h.tx))
      (first | exact ⟨(punhide HSD _ hS).1, (punhide HSD _ hS).2.2.2.2.2.1⟩ | exact hSE)
      (first
        | (go_at_call 50; refine (CQ _).mono ?_; rintro e9 w9 ⟨rfl, b9⟩; replace hS := hS.trans (b9.mono hS.size); clear b9)
        | (go_at_call 49; refine (str_w B L s _ (isW_stays hI2 hS) (by omega)).mono ?_; rintro e9 w2 ⟨rfl, i2, f2⟩; replace f2 := (Fr.of hS (Nat.le_of_lt hlt1)).trans f2
           have hSE : w2.cell? ⟨p, 0, none⟩ = some (.pointer (some ⟨B, 0, none⟩)) ∧ w2.cell? ⟨p + 1, 5, none⟩ = some (.string h.tx) := ⟨(punhide HSF _ f2).1, (punhide HSF _ f2).2.2.2.2.2.1⟩))
    all_goals
      go_wp2
      go_returns
      exact ⟨rfl, i2, punhide HF _ f2⟩
  · obtain ⟨es, ecd⟩ := punhide hSL8 e
    rw [e] at c1
    rw [ecd] at c8
    have CI := fun W hP => hitoa 40 ⟨#[52, 48]⟩ (by decide) (by decide) W hP (by decide +kernel)
    have HSD2 : Hid (∀ W, Below W1.heap.size W1 W → W.cell? ⟨p, 0, none⟩ = some (.pointer (some ⟨B, 0, none⟩)) ∧ W.cell? ⟨p + 1, 8, none⟩ = some (.int .i64 40)) := phide (fun W hW => by have := punhide HSD W hW; rw [ecd] at this; exact ⟨this.1, this.2.2.2.2.2.2⟩)
    have HSF2 : Hid (∀ W, Fr B W1 W → W.cell? ⟨p, 0, none⟩ = some (.pointer (some ⟨B, 0, none⟩)) ∧ W.cell? ⟨p + 1, 8, none⟩ = some (.int .i64 40)) := phide (fun W hW => by have := punhide HSF W hW; rw [ecd] at this; exact ⟨this.1, this.2.2.2.2.2.2⟩)
    clear hSL hSL2 hSL3 hSL8 e ecd
    go_upto_region 17 with fail
    go_region_held3 (fun W => W.cell? ⟨p, 0, none⟩ = some (.pointer (some ⟨B, 0, none⟩)) ∧ W.cell? ⟨p + 1, 8, none⟩ = some (.int .i64 40))
      (first | exact punhide HSD2 _ hS | exact hSE)
      (first
        | (go_at_call 63; refine (CI _ (hP2.next hS)).mono ?_; rintro e9 w9 ⟨rfl, b9⟩; replace hS := hS.trans (b9.mono hS.size); clear b9)
        | (go_at_call 49; refine (str_w B L _ _ (isW_stays hI2 hS) (by show _ + 3 ≤ _; omega)).mono ?_; rintro e9 w2 ⟨rfl, i2, f2⟩; replace f2 := (Fr.of hS (Nat.le_of_lt hlt1)).trans f2
           have hSE := punhide HSF2 _ f2))
    all_goals
      go_wp2
      go_returns
      exact ⟨rfl, by rw [es]; exact i2, punhide HF _ f2⟩
set_option maxHeartbeats 1000000 in
theorem tprint_leaf (h : Hd) (m : Nat) (ka : Option Addr) (kn kc : Nat) (da : Option Addr) (dn dc : Nat) (hg : HdOk h m) (hk : ¬ (h.k = 6 ∨ h.k = 7)) (s : ByteArray) (hs : scalL h = s.data.toList) (w : World) (hP : Pow w) :
    Calls Tryd.prog 52 #[.agg #[.int .i64 h.k, .int .u64 (h.m : Int), .bool h.ng, .string h.dg, .int .i64 h.sc, .string h.tx, .slice ka kn kc, .slice da dn dc, .int .i64 h.cd]] w
      fun e w' => e = .returned (.string s) ∧ Below w.heap.size w w' := by
  have hB1 : Below w.heap.size w (w.alloc (.cells #[.int .i64 h.k, .int .u64 (h.m : Int), .bool h.ng, .string h.dg, .int .i64 h.sc, .string h.tx, .slice ka kn kc, .slice da dn dc, .int .i64 h.cd] 31)) := (Below.refl _ _).alloc (Nat.le_refl _) _
  have s0 : (w.alloc (.cells #[.int .i64 h.k, .int .u64 (h.m : Int), .bool h.ng, .string h.dg, .int .i64 h.sc, .string h.tx, .slice ka kn kc, .slice da dn dc, .int .i64 h.cd] 31)).heap.size = w.heap.size + 1 := by simp
  have hI0 := Lib.IsBuilderF.of (Lib.fresh_isBuilder 83 5 (w.alloc (.cells #[.int .i64 h.k, .int .u64 (h.m : Int), .bool h.ng, .string h.dg, .int .i64 h.sc, .string h.tx, .slice ka kn kc, .slice da dn dc, .int .i64 h.cd] 31)))
  rw [s0] at hI0
  have hI1 : IsW (w.heap.size + 1) [] _ := hI0
  have hB2 := hB1.alloc hB1.size (.cells #[.pointer none, .slice none 0 0] 83)
  have HP := phide (hP.next hB2)
  have C := fun W hI hP => twrite_leaf (w.heap.size + 1) [] h m ka kn kc da dn dc hg hk W hI (by simp) hP
  rw [hs, List.nil_append] at C
  have HB2 := phide hB2
  clear hI0 hB1 s0 hP hg hk hs hB2
  go_enter Tryd.func52, Tryd.ntmps52
  go_wp2_with fail
  refine (C _ hI1 (punhide HP)).mono ?_
  rintro e w2 ⟨rfl, i2, f2⟩
  clear hI1 C
  go_wp2_with fail
  refine (text_w _ _ _ i2).mono ?_
  rintro e w3 ⟨rfl, i3, f3⟩
  have hB3 := (punhide HB2).trans ((f2.trans f3).1.mono (Nat.le_succ _))
  clear f2 f3 i2 i3
  go_wp2
  go_returns
  exact ⟨rfl, hB3⟩
end Go.Proofs.YtppkknmgdahniaaDoor.Pol
