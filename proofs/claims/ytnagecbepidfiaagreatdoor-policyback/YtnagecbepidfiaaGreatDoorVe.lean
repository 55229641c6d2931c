/- What is proved here: which policies may be; how the parts of a policy lie in memory, and what leaves them; conditions: as each theorem states. -/
import Derived.Test.YtnagecbepidfiaaGreatDoorVd
import Derived.Deep.AppendLies
namespace Go.Proofs.YtnagecbepidfiaaGreatDoor.Pol
set_option maxRecDepth 100000
open Go.RowKit Go.Proofs.YtnagecbepidfiaaGreatDoor.Nc Go.Proofs.YtnagecbepidfiaaGreatDoor.Np Go.Proofs.YtnagecbepidfiaaGreatDoor.Nq
set_option linter.unusedVariables false
set_option linter.unusedSimpArgs false

/-- The error of a row of marks; n: how many categories there are. -/
def marksE (n : Nat) : List Mk → Int
  | [] => 0
  | m :: r => if Np.mayE m.path ≠ 0 then Np.mayE m.path else if m.mask = 0 ∨ Cm.subB m.mask (2 ^ n - 1) = false then 22 else marksE n r
def fuelB (n : Int) : Bool := decide (1 ≤ n) && decide (n ≤ 100000)
/-- The error of a policy. -/
def mayP (p : Po) : Int := if Cm.mayE p.cats ≠ 0 then (Cm.mayE p.cats : Int) else if 16 < p.marks.length then 3 else if marksE p.cats.length p.marks ≠ 0 then marksE p.cats.length p.marks else
  if 24 < p.token.length ∨ Lib.validD p.token = false ∨ fuelB p.fuel = false ∨ fuelB p.quota = false then 22 else 0
/-- What is known of a policy that may be. -/
structure Ok (p : Po) : Prop where
  n64 : p.cats.length ≤ 64
  nodup : p.cats.Nodup
  names : ∀ x ∈ p.cats, Cm.nameB x = true
  m16 : p.marks.length ≤ 16
  marks : ∀ m ∈ p.marks, Np.mayE m.path = 0 ∧ m.mask ≠ 0 ∧ m.mask < 2 ^ p.cats.length
  t24 : p.token.length ≤ 24
  valid : Lib.validD p.token = true
  fuel : 1 ≤ p.fuel ∧ p.fuel ≤ 100000
  quota : 1 ≤ p.quota ∧ p.quota ≤ 100000
theorem may_zero {L : List Tx} (h : Cm.mayE L = 0) : L.length ≤ 64 ∧ L.Nodup ∧ ∀ x ∈ L, Cm.nameB x = true := by
  unfold Cm.mayE at h
  split at h
  · cases h
  · split at h
    · rename_i h1 h2
      rw [Bool.and_eq_true, decide_eq_true_eq, List.all_eq_true] at h2
      exact ⟨by omega, h2.2, h2.1⟩
    · cases h
theorem sub_lt {m n : Nat} (h : Cm.subB m (2 ^ n - 1) = true) : m < 2 ^ n := by
  unfold Cm.subB at h
  rw [beq_iff_eq, Nat.and_two_pow_sub_one_eq_mod] at h
  rw [← h]
  exact Nat.mod_lt _ (Nat.two_pow_pos n)
theorem marks_zero (n : Nat) : ∀ l, marksE n l = 0 → ∀ m ∈ l, Np.mayE m.path = 0 ∧ m.mask ≠ 0 ∧ m.mask < 2 ^ n
  | [], _, m, hm => by cases hm
  | x :: r, h, m, hm => by
    unfold marksE at h
    split at h
    · rename_i h1; exact absurd h h1
    · rename_i h1
      split at h
      · cases h
      · rename_i h2
        rcases List.mem_cons.1 hm with rfl | hm
        · refine ⟨Decidable.not_not.1 h1, fun e => h2 (.inl e), sub_lt ?_⟩
          cases e : Cm.subB m.mask (2 ^ n - 1)
          · exact absurd (.inr e) h2
          · rfl
        · exact marks_zero n r h m hm
theorem ok_of {p : Po} (h : mayP p = 0) : Ok p := by
  unfold mayP at h
  split at h
  · rename_i h1; exact absurd (by omega) h1
  · rename_i h1
    split at h
    · cases h
    · rename_i h2
      split at h
      · rename_i h3; exact absurd h h3
      · rename_i h3
        split at h
        · cases h
        · rename_i h4
          obtain ⟨a1, a2, a3⟩ := may_zero (Decidable.not_not.1 h1)
          have f1 : ∀ n, fuelB n ≠ false → 1 ≤ n ∧ n ≤ 100000 := by
            intro n hn
            have : fuelB n = true := by cases e : fuelB n; exact absurd e hn; rfl
            unfold fuelB at this
            rw [Bool.and_eq_true, decide_eq_true_eq, decide_eq_true_eq] at this
            exact this
          refine ⟨a1, a2, a3, by omega, marks_zero _ _ (Decidable.not_not.1 h3), by omega, ?_, f1 _ (fun e => h4 (.inr (.inr (.inl e)))), f1 _ (fun e => h4 (.inr (.inr (.inr e))))⟩
          cases e : Lib.validD p.token
          · exact absurd (.inr (.inl e)) h4
          · rfl
theorem name_no {x : Tx} (h : Cm.nameB x = true) : (10 : UInt8) ∉ x ∧ (32 : UInt8) ∉ x ∧ (36 : UInt8) ∉ x ∧ x ≠ [] := by
  have ha := List.all_eq_true.1 (Nc.name_in h)
  have hn : ∀ c : UInt8, Cm.inB c = false → c ∉ x := fun c hc hm => by rw [ha c hm] at hc; cases hc
  refine ⟨hn 10 (by decide), hn 32 (by decide), hn 36 (by decide), ?_⟩
  rintro rfl
  cases h
theorem name_len {x : Tx} (h : Cm.nameB x = true) : x.length ≤ 24 := by
  unfold Cm.nameB at h
  simp only [Bool.and_eq_true, decide_eq_true_eq] at h
  exact h.1.1.2
theorem pr_no {t : Pm.St} (h : mayB t = true) : (10 : UInt8) ∉ prL t := by
  unfold prL
  split
  · rename_i h1
    obtain ⟨_, _, hv⟩ := mayB_key h h1
    split
    · rename_i hnm
      simp only [List.mem_cons, not_or]
      exact ⟨by decide, (name_no hnm).1⟩
    · simp only [List.mem_cons, List.mem_append, List.not_mem_nil, or_false, not_or]
      exact ⟨by decide, quote_no hv, by decide⟩
  · split
    · rename_i h2
      obtain ⟨h0, _, _⟩ := mayB_at h h2
      simp only [List.mem_cons, List.mem_append, List.not_mem_nil, or_false, not_or]
      exact ⟨by decide, itoa_no h0 (by decide), by decide⟩
    · split
      · decide
      · split <;> decide
theorem pt_no {L : List Pm.St} (h : Np.mayE L = 0) : (10 : UInt8) ∉ ptL L := by
  unfold ptL
  simp only [List.mem_cons, List.mem_flatMap, not_or, not_exists, not_and]
  exact ⟨by decide, fun t ht => pr_no ((Np.mayE_len h).2 t ht)⟩
theorem Ok.good {p : Po} (h : Ok p) : Good ptL p :=
  ⟨fun x hx => name_no (h.names x hx), fun m hm => pt_no (h.marks m hm).1, quote_no h.valid, itoa_no (by have := h.fuel; omega) (by decide), itoa_no (by have := h.quota; omega) (by decide)⟩
theorem Ok.mark {p : Po} (h : Ok p) {m : Mk} (hm : m ∈ p.marks) : MarkOk p.cats m :=
  ⟨h.nodup, fun x hx => Cm.name_word (h.names x hx), fun x hx => (name_no (h.names x hx)).2.2.1, (h.marks m hm).2.2, (Np.mayE_len (h.marks m hm).1).1, (Np.mayE_len (h.marks m hm).1).2⟩

/-! ### how parts lie -/
/-- What lies from a number of a block on, and in no block x, is as it was. -/
def Kp (base : Nat) (x : Option Nat) (w w' : World) : Prop := w.heap.size ≤ w'.heap.size ∧ ∀ k, base ≤ k → k < w.heap.size → x ≠ some k → w'.heap[k]? = w.heap[k]?
theorem Kp.of_below {base : Nat} {x : Option Nat} {w w' : World} (h : Below w.heap.size w w') : Kp base x w w' := ⟨h.size, fun k _ hk _ => h.block k hk⟩
theorem Kp.of_off {base y : Nat} {x : Option Nat} {w w' : World} (h : Off y w w') (hy : y < base) : Kp base x w w' := ⟨h.size, fun k hb hk _ => h.block k hk (by omega)⟩
theorem Kp.of_set {base : Nat} {x : Option Nat} {w : World} (p : Addr) (u : Value) (hy : p.block < base) : Kp base x w (w.setCell p u) := ⟨by simp [World.setCell], fun k hb hk _ => Below.heap_setCell _ _ _ _ (by omega)⟩
theorem Kp.of_grown {base : Nat} {x : Option Nat} {w w' : World} (h : w.grownBy w' x) : Kp base x w w' := ⟨h.size, fun k hb hk hx => h.block k hk (fun e => hx e.symm)⟩
theorem Kp.trans {base : Nat} {x : Option Nat} {a b c : World} (h : Kp base x a b) (k : Kp base x b c) : Kp base x a c := ⟨Nat.le_trans h.1 k.1, fun i hb hi hx => (k.2 i hb (Nat.lt_of_lt_of_le hi h.1) hx).trans (h.2 i hb hi hx)⟩
/-- A row of steps that lies apart. -/
def StF (W : World) (base : Nat) (x : Option Nat) (a : Option Addr) (n : Nat) (L : List Pm.St) : Prop := L.length = n ∧ (n = 0 ∨ ∃ b o, a = some ⟨b, o, none⟩ ∧ Np.RowSt W b o L ∧ base ≤ b ∧ x ≠ some b)
def TxF (W : World) (base : Nat) (x : Option Nat) (a : Option Addr) (n : Nat) (L : List Tx) : Prop := L.length = n ∧ (L.length = 0 ∨ ∃ b o, a = some ⟨b, o, none⟩ ∧ RowO W b o L ∧ base ≤ b ∧ x ≠ some b)
theorem cell_of_blk {w w' : World} {b o : Nat} (e : w'.heap[b]? = w.heap[b]?) : w'.cell? ⟨b, o, none⟩ = w.cell? ⟨b, o, none⟩ := World.cell?_of_block (w := w) (a := ⟨b, o, none⟩) e
theorem StF.keep {W W' : World} {base : Nat} {x : Option Nat} {a : Option Addr} {n : Nat} {L : List Pm.St} (h : StF W base x a n L) (hk : Kp base x W W') : StF W' base x a n L := by
  refine ⟨h.1, h.2.imp id ?_⟩
  rintro ⟨b, o, e, r, h1, h2⟩
  have eb := hk.2 b h1 r.1 h2
  exact ⟨b, o, e, ⟨Nat.lt_of_lt_of_le r.1 hk.1, fun i hi => ⟨(cell_of_blk eb).trans (r.2 i hi).1, (cell_of_blk eb).trans (r.2 i hi).2.1, (cell_of_blk eb).trans (r.2 i hi).2.2⟩⟩, h1, h2⟩
theorem TxF.keep {W W' : World} {base : Nat} {x : Option Nat} {a : Option Addr} {n : Nat} {L : List Tx} (h : TxF W base x a n L) (hk : Kp base x W W') : TxF W' base x a n L := by
  refine ⟨h.1, h.2.imp id ?_⟩
  rintro ⟨b, o, e, r, h1, h2⟩
  have eb := hk.2 b h1 r.1 h2
  exact ⟨b, o, e, ⟨Nat.lt_of_lt_of_le r.1 hk.1, fun i hi => (cell_of_blk eb).trans (r.2 i hi)⟩, h1, h2⟩
theorem StF.turn {W : World} {base : Nat} {x y : Option Nat} {a : Option Addr} {n : Nat} {L : List Pm.St} (h : StF W base x a n L) (hy : ∀ b, b < W.heap.size → x ≠ some b → y ≠ some b) : StF W base y a n L :=
  ⟨h.1, h.2.imp id fun ⟨b, o, e, r, h1, h2⟩ => ⟨b, o, e, r, h1, hy b r.1 h2⟩⟩
theorem TxF.turn {W : World} {base : Nat} {x y : Option Nat} {a : Option Addr} {n : Nat} {L : List Tx} (h : TxF W base x a n L) (hy : ∀ b, b < W.heap.size → x ≠ some b → y ≠ some b) : TxF W base y a n L :=
  ⟨h.1, h.2.imp id fun ⟨b, o, e, r, h1, h2⟩ => ⟨b, o, e, r, h1, hy b r.1 h2⟩⟩
theorem StF.is {W : World} {base : Nat} {x : Option Nat} {a : Option Addr} {n : Nat} {L : List Pm.St} (h : StF W base x a n L) : Np.StepsIn W a n L := ⟨h.1, h.2.imp id fun ⟨b, o, e, r, _⟩ => ⟨b, o, e, r⟩⟩
theorem TxF.is {W : World} {base : Nat} {x : Option Nat} {a : Option Addr} {n : Nat} {L : List Tx} (h : TxF W base x a n L) : TxIn W a n L := ⟨h.1, h.2.imp id fun ⟨b, o, e, r, _⟩ => ⟨b, o, e, r⟩⟩
theorem StF.of {W : World} {base : Nat} {x : Option Nat} {a : Option Addr} {n : Nat} {L : List Pm.St} (h : Np.StepsIn W a n L) (hn : ∀ g o, a = some ⟨g, o, none⟩ → base ≤ g ∧ x ≠ some g) : StF W base x a n L :=
  ⟨h.1, h.2.imp id fun ⟨b, o, e, r⟩ => ⟨b, o, e, r, (hn b o e).1, (hn b o e).2⟩⟩
theorem TxF.of {W : World} {base : Nat} {x : Option Nat} {a : Option Addr} {n : Nat} {L : List Tx} (h : TxIn W a n L) (hn : ∀ g o, a = some ⟨g, o, none⟩ → base ≤ g ∧ x ≠ some g) : TxF W base x a n L :=
  ⟨h.1, h.2.imp id fun ⟨b, o, e, r⟩ => ⟨b, o, e, r, (hn b o e).1, (hn b o e).2⟩⟩

/-- A mark as it lies: its slice, and what it is. -/
structure Dk where
  a : Option Addr
  n : Nat
  c : Nat
  m : Mk
def cellsM (d : Dk) : List Value := [.slice d.a d.n d.c, .int .u64 (d.m.mask : Int)]
def rowM (D : List Dk) : List Value := D.flatMap cellsM
theorem rowM_len (D : List Dk) : (rowM D).length = D.length * 2 := by
  unfold rowM
  induction D with
  | nil => rfl
  | cons d r ih => rw [List.flatMap_cons, List.length_append, ih, List.length_cons]; simp [cellsM]; omega
theorem rowM_snoc (D : List Dk) (d : Dk) : rowM (D ++ [d]) = rowM D ++ cellsM d := by unfold rowM; simp
theorem rowM_at : ∀ (D : List Dk) (i r : Nat) (hr : r < 2) (hi : i < D.length), (rowM D)[i * 2 + r]? = (cellsM (D[i]'hi))[r]?
  | d :: D, 0, r, hr, hi => by
    unfold rowM
    rw [List.flatMap_cons, List.getElem?_append_left (by simp [cellsM]; omega)]
    simp
  | d :: D, i + 1, r, hr, hi => by
    have := rowM_at D i r hr (by simpa using hi)
    unfold rowM at this ⊢
    rw [List.flatMap_cons, List.getElem?_append_right (by simp [cellsM]; omega)]
    rw [show (i + 1) * 2 + r - (cellsM d).length = i * 2 + r by simp [cellsM]; omega, this]
    simp
/-- A row of marks, as a slice has it. -/
def MarksIn (w : World) (a : Option Addr) (n : Nat) (ms : List Mk) : Prop := ms.length = n ∧ (n = 0 ∨ ∃ g o, a = some ⟨g, o, none⟩ ∧ g < w.heap.size ∧ ∀ i, ∀ hi : i < ms.length, (ms[i]'hi).mask < 18446744073709551616 ∧
  ∃ b k c, w.cell? ⟨g, o + i * 2, none⟩ = some (.slice b k c) ∧ w.cell? ⟨g, o + i * 2 + 1, none⟩ = some (.int .u64 ((ms[i]'hi).mask : Int)) ∧ Np.StepsIn w b k (ms[i]'hi).path)
theorem MarksIn.step {w w' : World} {a : Option Addr} {n : Nat} {ms : List Mk} (h : MarksIn w a n ms) (hb : Below w.heap.size w w') : MarksIn w' a n ms := by
  refine ⟨h.1, h.2.imp id ?_⟩
  rintro ⟨g, o, e, hg, r⟩
  refine ⟨g, o, e, Nat.lt_of_lt_of_le hg hb.size, fun i hi => ?_⟩
  obtain ⟨hm, b, k, c, r1, r2, r3⟩ := r i hi
  exact ⟨hm, b, k, c, (hb.cell (p := ⟨g, _, none⟩) hg).trans r1, (hb.cell (p := ⟨g, _, none⟩) hg).trans r2, r3.step hb⟩
/-- A policy, as a value has it. -/
def PolIn (w : World) (v : Value) (p : Po) : Prop := ∃ a n c b m d, ∃ tok : ByteArray, v = .agg #[.slice a n c, .slice b m d, .string tok, .int .i64 p.fuel, .int .i64 p.quota] ∧ tok.data.toList = p.token ∧ TxIn w a n p.cats ∧ MarksIn w b m p.marks
theorem PolIn.step {w w' : World} {v : Value} {p : Po} (h : PolIn w v p) (hb : Below w.heap.size w w') : PolIn w' v p := by
  obtain ⟨a, n, c, b, m, d, tok, h1, h2, h3, h4⟩ := h
  exact ⟨a, n, c, b, m, d, tok, h1, h2, h3.step hb, h4.step hb⟩

theorem ownM_block {w w' : World} {base k : Nat} {v : Value} {xs : List Value} (h : w.ownsRow base 59 2 v k xs) (hB : ∀ g, v.ownBlock = some g → w'.heap[g]? = w.heap[g]?) : w'.ownsRow base 59 2 v k xs := by
  obtain ⟨h0, h⟩ := h
  refine ⟨h0, ?_⟩
  rcases h with ⟨e, e2⟩ | ⟨g', cap', cur, hv, hg, hh, r⟩
  · exact .inl ⟨e, e2⟩
  · refine .inr ⟨g', cap', cur, hv, hg, ?_, r⟩
    rw [hB g' (by rw [hv]; rfl)]
    exact hh
theorem addM (b o j : Nat) : (⟨b, o, none⟩ : Addr).add j = ⟨b, o + j, none⟩ := by unfold Addr.add; split <;> simp_all
theorem infoM : (Tryz.prog.info? 59).map (fun i => (i.zero, i.size, i.bytes)) = some (some (.agg #[.slice none 0 0, .int .u64 0]), 2, 32) := by kernel_rfl
theorem newM (w : World) (d : Dk) (ty : TypeId) : ∀ j u, (cellsM d)[j]? = some u → (w.alloc (.cells #[.slice d.a d.n d.c, .int .u64 (d.m.mask : Int)] ty)).cell? ((⟨w.heap.size, 0, none⟩ : Addr).add j) = some u := by
  intro j u h
  rw [addM, World.cell?_alloc_at _ _ _ _ (by omega)]
  simpa [cellsM] using h
/-- A mark that may be told whether it may be. -/
def GoodMk (m : Mk) : Prop := m.mask < 18446744073709551616 ∧ m.path.length ≤ 8
/-- A row of marks that lies apart. -/
def MarksF (w : World) (base : Nat) (a : Option Addr) (n : Nat) (ms : List Mk) : Prop := ms.length = n ∧ (n = 0 ∨ ∃ g o, a = some ⟨g, o, none⟩ ∧ base ≤ g ∧ g < w.heap.size ∧ ∀ i, ∀ hi : i < ms.length, (ms[i]'hi).mask < 18446744073709551616 ∧
  ∃ b k c, w.cell? ⟨g, o + i * 2, none⟩ = some (.slice b k c) ∧ w.cell? ⟨g, o + i * 2 + 1, none⟩ = some (.int .u64 ((ms[i]'hi).mask : Int)) ∧ StF w base none b k (ms[i]'hi).path)
theorem MarksF.keep {w w' : World} {base : Nat} {a : Option Addr} {n : Nat} {ms : List Mk} (h : MarksF w base a n ms) (hk : Kp base none w w') : MarksF w' base a n ms := by
  refine ⟨h.1, h.2.imp id ?_⟩
  rintro ⟨g, o, e, hb, hg, r⟩
  have eb := hk.2 g hb hg (by simp)
  refine ⟨g, o, e, hb, Nat.lt_of_lt_of_le hg hk.1, fun i hi => ?_⟩
  obtain ⟨hm, b, k, c, r1, r2, r3⟩ := r i hi
  exact ⟨hm, b, k, c, (cell_of_blk eb).trans r1, (cell_of_blk eb).trans r2, r3.keep hk⟩
theorem MarksF.is {w : World} {base : Nat} {a : Option Addr} {n : Nat} {ms : List Mk} (h : MarksF w base a n ms) : MarksIn w a n ms := by
  refine ⟨h.1, h.2.imp id ?_⟩
  rintro ⟨g, o, e, hb, hg, r⟩
  refine ⟨g, o, e, hg, fun i hi => ?_⟩
  obtain ⟨hm, b, k, c, r1, r2, r3⟩ := r i hi
  exact ⟨hm, b, k, c, r1, r2, r3.is⟩
/-- A policy that lies apart, as a value has it. -/
def PolF (w : World) (base : Nat) (v : Value) (p : Po) : Prop := ∃ a n c b m d, ∃ tok : ByteArray, v = .agg #[.slice a n c, .slice b m d, .string tok, .int .i64 p.fuel, .int .i64 p.quota] ∧ tok.data.toList = p.token ∧ TxF w base none a n p.cats ∧ MarksF w base b m p.marks
theorem PolF.keep {w w' : World} {base : Nat} {v : Value} {p : Po} (h : PolF w base v p) (hk : Kp base none w w') : PolF w' base v p := by
  obtain ⟨a, n, c, b, m, d, tok, h1, h2, h3, h4⟩ := h
  exact ⟨a, n, c, b, m, d, tok, h1, h2, h3.keep hk, h4.keep hk⟩
theorem PolF.is {w : World} {base : Nat} {v : Value} {p : Po} (h : PolF w base v p) : PolIn w v p := by
  obtain ⟨a, n, c, b, m, d, tok, h1, h2, h3, h4⟩ := h
  exact ⟨a, n, c, b, m, d, tok, h1, h2, h3.is, h4.is⟩
theorem MarksF.low {w : World} {base base' : Nat} {a : Option Addr} {n : Nat} {ms : List Mk} (h : MarksF w base a n ms) (hb : base' ≤ base) : MarksF w base' a n ms := by
  refine ⟨h.1, h.2.imp id ?_⟩
  rintro ⟨g, o, e, h1, hg, r⟩
  refine ⟨g, o, e, Nat.le_trans hb h1, hg, fun i hi => ?_⟩
  obtain ⟨hm, b, k, c, r1, r2, r3⟩ := r i hi
  exact ⟨hm, b, k, c, r1, r2, r3.1, r3.2.imp id fun ⟨b, o, e, r, h1, h2⟩ => ⟨b, o, e, r, Nat.le_trans hb h1, by simp⟩⟩
theorem StF.low {W : World} {base base' : Nat} {x : Option Nat} {a : Option Addr} {n : Nat} {L : List Pm.St} (h : StF W base x a n L) (hb : base' ≤ base) : StF W base' none a n L :=
  ⟨h.1, h.2.imp id fun ⟨b, o, e, r, h1, h2⟩ => ⟨b, o, e, r, Nat.le_trans hb h1, by simp⟩⟩
theorem TxF.low {W : World} {base base' : Nat} {x : Option Nat} {a : Option Addr} {n : Nat} {L : List Tx} (h : TxF W base x a n L) (hb : base' ≤ base) : TxF W base' none a n L :=
  ⟨h.1, h.2.imp id fun ⟨b, o, e, r, h1, h2⟩ => ⟨b, o, e, r, Nat.le_trans hb h1, by simp⟩⟩
/-- The marks that are read lie as a row. -/
theorem marks_of {W : World} {base k : Nat} {v : Value} {D : List Dk} (h : W.ownsRow base 59 2 v k (rowM D)) (hk : D.length = k) (hd : ∀ d ∈ D, GoodMk d.m ∧ StF W base v.ownBlock d.a d.n d.m.path) :
    ∃ a c, v = .slice a k c ∧ MarksF W base a k (D.map (·.m)) := by
  by_cases h0 : k = 0
  · rcases h.2 with ⟨e, _⟩ | ⟨g, cap, cur, hv, _⟩
    · exact ⟨none, 0, by rw [e, h0], by simp [hk], .inl h0⟩
    · exact ⟨_, cap, hv, by simp [hk], .inl h0⟩
  · obtain ⟨g, cap, rfl, hb, hg⟩ := h.form (by omega)
    refine ⟨_, cap, rfl, by simp [hk], .inr ⟨g, 0, rfl, hb, hg, fun i hi => ?_⟩⟩
    have hi2 : i < D.length := by simpa using hi
    have e0 := h.cells (g := g) rfl (i * 2) (.slice (D[i]'hi2).a (D[i]'hi2).n (D[i]'hi2).c) (by have := rowM_at D i 0 (by omega) hi2; rw [Nat.add_zero] at this; rw [this]; rfl)
    have e1 := h.cells (g := g) rfl (i * 2 + 1) (.int .u64 ((D[i]'hi2).m.mask : Int)) (by rw [rowM_at D i 1 (by omega) hi2]; rfl)
    rw [addM] at e0 e1
    rw [Nat.zero_add] at e0 e1
    obtain ⟨d1, d2⟩ := hd _ (List.getElem_mem hi2)
    simp only [List.getElem_map, Nat.zero_add]
    exact ⟨d1.1, _, _, _, e0, e1, d2.low (Nat.le_refl _)⟩
end Go.Proofs.YtnagecbepidfiaaGreatDoor.Pol
