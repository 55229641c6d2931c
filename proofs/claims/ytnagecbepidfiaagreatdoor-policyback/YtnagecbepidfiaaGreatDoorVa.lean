/- What is proved here: plain facts on the text of a policy: how its lines stand one behind the other, and that none that is written begins another one; conditions: as each theorem states. It imports nothing of any program. -/
import Derived.Test.YtnagecbepidfiaaGreatDoorAb
import Derived.Lib.AtoiAll
import Derived.Lib.ItoaNum
import Derived.Lib.Split
namespace Go.Proofs.YtnagecbepidfiaaGreatDoor.Pol
set_option maxRecDepth 100000
set_option linter.unusedVariables false
set_option linter.unusedSimpArgs false

abbrev Tx := List UInt8
structure Mk where
  path : List Pm.St
  mask : Nat
structure Po where
  cats : List Tx
  marks : List Mk
  token : Tx
  fuel : Int
  quota : Int
def wCats : Tx := [99, 97, 116, 115]
def wMark : Tx := [109, 97, 114, 107]
def wToken : Tx := [116, 111, 107, 101, 110]
def wFuel : Tx := [102, 117, 101, 108]
def wQuota : Tx := [113, 117, 111, 116, 97]
/-- A line: a word, texts with a blank ahead of each, a newline. -/
def lineT (w : Tx) (ws : List Tx) : Tx := w ++ (Cm.flatB ws ++ [10])
def namesT (cats : List Tx) (m : Nat) : Tx := Cm.joinB (Cm.selK cats m cats.length)
def markT (pt : List Pm.St → Tx) (cats : List Tx) (m : Mk) : Tx := lineT wMark [namesT cats m.mask, pt m.path]
def marksT (pt : List Pm.St → Tx) (cats : List Tx) (ms : List Mk) : Tx := ms.flatMap (markT pt cats)
def tailT (p : Po) : Tx := lineT wToken [Qm.quoteL p.token] ++ (lineT wFuel [Lib.itoa p.fuel] ++ lineT wQuota [Lib.itoa p.quota])
/-- The text of a policy. -/
def printT (pt : List Pm.St → Tx) (p : Po) : Tx := lineT wCats p.cats ++ (marksT pt p.cats p.marks ++ tailT p)

/-- What stands behind a word in the next line, and what is left; nothing, and all, if it begins with another one. -/
def nextF (w T : Tx) : Tx × Tx :=
  if w.isPrefixOf (T.takeWhile (fun c => c != 10)) then ((T.takeWhile (fun c => c != 10)).drop w.length, T.drop ((T.takeWhile (fun c => c != 10)).length + 1)) else ([], T)
theorem take_line {x r : Tx} (h : (10 : UInt8) ∉ x) : (x ++ 10 :: r).takeWhile (fun c => c != 10) = x := by
  induction x with
  | nil => simp
  | cons c x ih =>
    have hc : c ≠ 10 := fun e => h (by simp [e])
    rw [List.cons_append, List.takeWhile_cons_of_pos (by simpa using hc), ih (fun g => h (by simp [g]))]
theorem next_yes {w x r : Tx} (hw : (10 : UInt8) ∉ w) (hx : (10 : UInt8) ∉ x) : nextF w (w ++ (x ++ 10 :: r)) = (x, r) := by
  have h : (10 : UInt8) ∉ w ++ x := by simp [hw, hx]
  have e : (w ++ (x ++ 10 :: r)).takeWhile (fun c => c != 10) = w ++ x := by rw [← List.append_assoc]; exact take_line h
  unfold nextF
  rw [e, if_pos (by simp), List.drop_left]
  have hd : List.drop ((w ++ x).length + 1) (w ++ (x ++ 10 :: r)) = r := by
    rw [← List.append_assoc, ← List.drop_drop, List.drop_left]; rfl
  rw [hd]
theorem next_no {c d : UInt8} {w T : Tx} (h : c ≠ d) : nextF (c :: w) (d :: T) = ([], d :: T) := by
  unfold nextF
  rw [if_neg]
  intro g
  rw [List.takeWhile_cons] at g
  split at g
  · simp [List.isPrefixOf] at g
    exact h g.1
  · simp at g
/-- Two lines are one. -/
theorem line_eq {x y a b : Tx} (hx : (10 : UInt8) ∉ x) (hy : (10 : UInt8) ∉ y) (h : x ++ 10 :: a = y ++ 10 :: b) : x = y ∧ a = b := by
  have e := congrArg (fun T => T.takeWhile (fun c => c != 10)) h
  simp only [take_line hx, take_line hy] at e
  subst e
  exact ⟨rfl, (List.cons.inj (List.append_cancel_left h)).2⟩

/-- What is asked of a policy so that its lines are told apart. -/
structure Good (pt : List Pm.St → Tx) (p : Po) : Prop where
  names : ∀ x ∈ p.cats, (10 : UInt8) ∉ x ∧ (32 : UInt8) ∉ x ∧ (36 : UInt8) ∉ x ∧ x ≠ []
  paths : ∀ m ∈ p.marks, (10 : UInt8) ∉ pt m.path
  token : (10 : UInt8) ∉ Qm.quoteL p.token
  fuel : (10 : UInt8) ∉ Lib.itoa p.fuel
  quota : (10 : UInt8) ∉ Lib.itoa p.quota
theorem flat_no {ws : List Tx} {c : UInt8} (h32 : c ≠ 32) (h : ∀ x ∈ ws, c ∉ x) : c ∉ Cm.flatB ws := by
  induction ws with
  | nil => simp [Cm.flatB]
  | cons x r ih =>
    rw [Cm.flatB_cons]
    simp only [List.mem_cons, List.mem_append, not_or]
    exact ⟨h32, h x (by simp), ih (fun y hy => h y (by simp [hy]))⟩
theorem names_no {cats : List Tx} {c : UInt8} (h32 : c ≠ 32) (h : ∀ x ∈ cats, c ∉ x) (m : Nat) : c ∉ namesT cats m := by
  intro g
  refine flat_no (ws := Cm.selK cats m cats.length) h32 (fun x hx => h x (Cm.selK_mem (Nat.le_refl _) hx)) ?_
  unfold namesT Cm.joinB at g
  exact List.mem_of_mem_drop g
theorem Good.mark {pt : List Pm.St → Tx} {p : Po} (h : Good pt p) {m : Mk} (hm : m ∈ p.marks) : (10 : UInt8) ∉ Cm.flatB [namesT p.cats m.mask, pt m.path] :=
  flat_no (by decide) (fun x hx => by
    simp only [List.mem_cons, List.not_mem_nil, or_false] at hx
    rcases hx with rfl | rfl
    · exact names_no (by decide) (fun x hx => (h.names x hx).1) _
    · exact h.paths m hm)
theorem flat_one {x : Tx} {c : UInt8} (h32 : c ≠ 32) (h : c ∉ x) : c ∉ Cm.flatB [x] := flat_no h32 (fun y hy => by simp only [List.mem_cons, List.not_mem_nil, or_false] at hy; rw [hy]; exact h)
theorem line_app (w : Tx) (ws : List Tx) (r : Tx) : lineT w ws ++ r = w ++ (Cm.flatB ws ++ 10 :: r) := by unfold lineT; simp
theorem marks_cons (pt : List Pm.St → Tx) (cats : List Tx) (m : Mk) (ms : List Mk) : marksT pt cats (m :: ms) = markT pt cats m ++ marksT pt cats ms := by unfold marksT; rw [List.flatMap_cons]
theorem tail_head (p : Po) : ∃ u, tailT p = 116 :: u := ⟨_, rfl⟩
theorem mark_head (pt : List Pm.St → Tx) (cats : List Tx) (m : Mk) : ∃ u, markT pt cats m = 109 :: u := ⟨_, rfl⟩
theorem lines_eq {w : Tx} {us vs : List Tx} {a b : Tx} (hu : (10 : UInt8) ∉ Cm.flatB us) (hv : (10 : UInt8) ∉ Cm.flatB vs) (h : lineT w us ++ a = lineT w vs ++ b) : Cm.flatB us = Cm.flatB vs ∧ a = b := by
  rw [line_app, line_app] at h
  exact line_eq hu hv (List.append_cancel_left h)
theorem marks_eq {pt : List Pm.St → Tx} {p q : Po} (hp : Good pt p) (hq : Good pt q) {R : Tx} : ∀ (l k : List Mk), (∀ m ∈ l, m ∈ q.marks) → (∀ m ∈ k, m ∈ p.marks) → marksT pt q.cats l ++ (tailT q ++ R) = marksT pt p.cats k ++ tailT p → tailT q ++ R = tailT p
  | [], [], _, _, h => h
  | [], m :: k, _, _, h => by
    obtain ⟨u, e⟩ := tail_head q
    obtain ⟨v, g⟩ := mark_head pt p.cats m
    rw [marks_cons, e, g] at h
    simp [marksT] at h
  | m :: l, [], _, _, h => by
    obtain ⟨u, e⟩ := tail_head p
    obtain ⟨v, g⟩ := mark_head pt q.cats m
    rw [marks_cons, e, g] at h
    simp [marksT] at h
  | m :: l, n :: k, hl, hk, h => by
    rw [marks_cons, marks_cons, List.append_assoc, List.append_assoc] at h
    obtain ⟨_, h2⟩ := lines_eq (hq.mark (hl m (by simp))) (hp.mark (hk n (by simp))) h
    exact marks_eq hp hq l k (fun x hx => hl x (by simp [hx])) (fun x hx => hk x (by simp [hx])) h2
/-- No text of a policy begins another one. -/
theorem uniq {pt : List Pm.St → Tx} {p q : Po} (hp : Good pt p) (hq : Good pt q) {R : Tx} (h : printT pt q ++ R = printT pt p) : R = [] := by
  unfold printT at h
  rw [List.append_assoc, List.append_assoc] at h
  obtain ⟨_, h1⟩ := lines_eq (flat_no (by decide) (fun x hx => (hq.names x hx).1)) (flat_no (by decide) (fun x hx => (hp.names x hx).1)) h
  have h2 := marks_eq hp hq q.marks p.marks (fun _ h => h) (fun _ h => h) h1
  unfold tailT at h2
  rw [List.append_assoc, List.append_assoc] at h2
  obtain ⟨_, h3⟩ := lines_eq (flat_one (by decide) hq.token) (flat_one (by decide) hp.token) h2
  obtain ⟨_, h4⟩ := lines_eq (flat_one (by decide) hq.fuel) (flat_one (by decide) hp.fuel) h3
  have h5 : lineT wQuota [Lib.itoa q.quota] ++ R = lineT wQuota [Lib.itoa p.quota] ++ [] := by rw [List.append_nil]; exact h4
  exact (lines_eq (flat_one (by decide) hq.quota) (flat_one (by decide) hp.quota) h5).2

/-! ### numbers -/
theorem digit_ok {d : Nat} (h : d < 10) : (UInt8.ofNat (48 + d)).toNat = 48 + d := by
  rw [UInt8.toNat_ofNat']
  omega
theorem digits_parse : ∀ (n u : Nat), u ≤ n → u < 1000000 → ∀ r, Lib.parseUint10 0 (Lib.decDigits u ++ r) = Lib.parseUint10 u r
  | n, u, hn, hu, r => by
    by_cases h : u < 10
    · rw [Lib.decDigits, dif_pos h, List.singleton_append, Lib.parseUint10, digit_ok h, if_pos (by omega), if_neg (by omega), if_neg (by omega)]
      congr 1; omega
    · rw [Lib.decDigits, dif_neg h, List.append_assoc, List.singleton_append]
      cases n with
      | zero => omega
      | succ n =>
        rw [digits_parse n (u / 10) (by omega) (by omega), Lib.parseUint10, digit_ok (Nat.mod_lt _ (by omega)), if_pos (by omega), if_neg (by omega), if_neg (by omega)]
        congr 1; omega
theorem dec_head (u : Nat) : ∃ c r, Lib.decDigits u = c :: r ∧ 48 ≤ c.toNat ∧ c.toNat ≤ 57 := by
  induction u using Nat.strongRecOn with
  | _ u ih =>
    by_cases h : u < 10
    · rw [Lib.decDigits, dif_pos h]
      exact ⟨_, _, rfl, by rw [digit_ok h]; omega, by rw [digit_ok h]; omega⟩
    · obtain ⟨c, r, e, h1, h2⟩ := ih (u / 10) (by omega)
      rw [Lib.decDigits, dif_neg h, e]
      exact ⟨c, _, rfl, h1, h2⟩
theorem dec_mem (u : Nat) : ∀ c ∈ Lib.decDigits u, 48 ≤ c.toNat ∧ c.toNat ≤ 57 := by
  induction u using Nat.strongRecOn with
  | _ u ih =>
    intro c hc
    by_cases h : u < 10
    · rw [Lib.decDigits, dif_pos h, List.mem_singleton] at hc
      rw [hc, digit_ok h]; omega
    · rw [Lib.decDigits, dif_neg h, List.mem_append, List.mem_singleton] at hc
      rcases hc with hc | hc
      · exact ih (u / 10) (by omega) c hc
      · rw [hc, digit_ok (Nat.mod_lt _ (by omega))]; omega
theorem atoi_itoa {n : Int} (h0 : 0 ≤ n) (h1 : n ≤ 100000) : Lib.atoiAll (Lib.itoa n) = .ok n := by
  obtain ⟨u, rfl⟩ := Int.eq_ofNat_of_zero_le h0
  have e : Lib.itoa (u : Int) = Lib.decDigits u := by unfold Lib.itoa; rw [if_neg (by omega)]; simp
  obtain ⟨c, r, g, c1, c2⟩ := dec_head u
  have hp := digits_parse u u (Nat.le_refl _) (by omega) []
  rw [List.append_nil, Lib.parseUint10] at hp
  rw [e, g] at *
  unfold Lib.atoiAll
  simp only []
  rw [if_neg (by omega)]
  unfold Lib.parseMag
  rw [if_neg (by simp), hp]
  simp only []
  rw [if_neg (by omega), if_neg (by omega), if_neg (by omega)]
theorem itoa_no {n : Int} (h0 : 0 ≤ n) {c : UInt8} (hc : c.toNat < 48) : c ∉ Lib.itoa n := by
  obtain ⟨u, rfl⟩ := Int.eq_ofNat_of_zero_le h0
  have e : Lib.itoa (u : Int) = Lib.decDigits u := by unfold Lib.itoa; rw [if_neg (by omega)]; simp
  rw [e]
  intro g
  have := dec_mem u c g
  omega

/-! ### quotes -/
theorem escB_all : (List.range 256).all (fun n => !(Qm.escB (UInt8.ofNat n)).contains 10) = true := by decide +kernel
theorem escB_no (c : UInt8) : (10 : UInt8) ∉ Qm.escB c := by
  have h := List.all_eq_true.1 escB_all c.toNat (List.mem_range.2 c.toNat_lt)
  rw [UInt8.ofNat_toNat] at h
  intro g
  have : (Qm.escB c).contains 10 = true := List.contains_iff_mem.2 g
  rw [this] at h
  cases h
theorem quote_no {l : Tx} (h : Lib.validD l = true) : (10 : UInt8) ∉ Qm.quoteL l := by
  unfold Qm.quoteL
  rw [Qm.quo_flat l h]
  simp only [List.mem_cons, List.mem_append, List.mem_flatMap, List.not_mem_nil, or_false, not_or, not_exists, not_and]
  exact ⟨by decide, fun c _ g => escB_no c g, by decide⟩

/-! ### what is read -/
theorem index_miss {c : UInt8} : ∀ {x : Tx}, c ∉ x → Lib.index x [c] = -1
  | [], _ => rfl
  | d :: x, h => by
    have hd : ¬ c = d := fun e => h (by simp [e])
    unfold Lib.index
    rw [index_miss (fun g => h (by simp [g]))]
    simp [List.isPrefixOf, hd]
theorem index_hit {c : UInt8} {r : Tx} : ∀ {x : Tx}, c ∉ x → Lib.index (x ++ c :: r) [c] = (x.length : Int)
  | [], _ => by
    rw [List.nil_append]
    unfold Lib.index
    simp [List.isPrefixOf]
  | d :: x, h => by
    have hd : ¬ c = d := fun e => h (by simp [e])
    rw [List.cons_append]
    unfold Lib.index
    rw [index_hit (fun g => h (by simp [g]))]
    have : ¬ ((x.length : Int) = -1) := by omega
    simp [List.isPrefixOf, hd, this]
/-- Texts between blanks, a blank ahead of the first one. -/
theorem split_flat : ∀ (ws : List Tx) (x : Tx) (k : Nat), (∀ y ∈ ws, (32 : UInt8) ∉ y) → (32 : UInt8) ∉ x → ws.length ≤ k → Lib.splitK [32] 0 k (x ++ Cm.flatB ws) = x :: ws
  | [], x, k, _, hx, _ => by
    rw [Cm.flatB_nil, List.append_nil]
    cases k with
    | zero => rfl
    | succ k => unfold Lib.splitK; rw [index_miss hx]; rfl
  | y :: ws, x, k, hw, hx, hk => by
    cases k with
    | zero => simp at hk
    | succ k =>
      have hi := index_hit (r := y ++ Cm.flatB ws) hx
      rw [Cm.flatB_cons]
      unfold Lib.splitK
      rw [hi, if_neg (by rw [beq_iff_eq]; omega), Int.toNat_natCast, Nat.add_zero, List.take_left]
      have hd : List.drop (x.length + ([32] : Tx).length) (x ++ 32 :: (y ++ Cm.flatB ws)) = y ++ Cm.flatB ws := by
        rw [← List.drop_drop, List.drop_left]; rfl
      rw [hd, split_flat ws y k (fun z hz => hw z (by simp [hz])) (hw y (by simp)) (by simpa using hk)]
/-- What of a mark's line is the names' part, and what the path's. -/
theorem mark_parts {cats : List Tx} {m : Nat} {u : Tx} (h : ∀ x ∈ cats, (36 : UInt8) ∉ x) : Lib.index (Cm.flatB [namesT cats m, 36 :: u]) [36] = ((32 :: (namesT cats m ++ [32]) : Tx).length : Int) ∧
    (Cm.flatB [namesT cats m, 36 :: u]).take (32 :: (namesT cats m ++ [32]) : Tx).length = 32 :: (namesT cats m ++ [32]) ∧ (Cm.flatB [namesT cats m, 36 :: u]).drop (32 :: (namesT cats m ++ [32]) : Tx).length = 36 :: u := by
  have e : Cm.flatB [namesT cats m, 36 :: u] = (32 :: (namesT cats m ++ [32])) ++ 36 :: u := by simp [Cm.flatB]
  have hn : (36 : UInt8) ∉ (32 :: (namesT cats m ++ [32]) : Tx) := by
    simp only [List.mem_cons, List.mem_append, List.not_mem_nil, or_false, not_or]
    exact ⟨by decide, names_no (by decide) h m, by decide⟩
  rw [e]
  exact ⟨index_hit hn, List.take_left, List.drop_left⟩
theorem mark_mask {cats : List Tx} {m : Nat} (hd : cats.Nodup) (hw : ∀ x ∈ cats, Cm.Word x) (hm : m < 2 ^ cats.length) : Cm.maskF cats 0 (Cm.words (32 :: (namesT cats m ++ [32]))) = (m, 0) := by
  have e : namesT cats m ++ [32] = namesT cats m ++ 32 :: [] := rfl
  rw [Cm.words_blank, e, Cm.words_part, Cm.words_nil, List.append_nil]
  unfold namesT
  rw [Cm.words_join (fun x hx => hw x (Cm.selK_mem (Nat.le_refl _) hx)), Cm.maskF_sel hd m _ (Nat.le_refl _), Nat.mod_eq_of_lt hm]
end Go.Proofs.YtnagecbepidfiaaGreatDoor.Pol
