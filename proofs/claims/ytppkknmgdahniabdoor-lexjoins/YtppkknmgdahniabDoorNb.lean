/- What is proved here: what startSize, readNamed of package lex do, walked; conditions: texts of at most 4000 bytes. Written by lexr_gen.py. -/
import Derived.Test.YtppkknmgdahniabDoorNa
import Derived.Test.YtppkknmgdahniabDoorNt
import Derived.Test.YtppkknmgdahniabDoorBa
import Derived.Test.YtppkknmgdahniabDoorBd
import Derived.Test.YtppkknmgdahniabDoorAc
import Derived.OwnWalk
namespace Go.Proofs.YtppkknmgdahniabDoor.Lex
set_option maxRecDepth 100000
open Go.RowKit Go.Proofs.YtppkknmgdahniabDoor.Nc Go.Proofs.YtppkknmgdahniabDoor.Nq
set_option maxRecDepth 100000
set_option linter.unusedVariables false
set_option linter.unusedSimpArgs false

theorem lhide {p : Prop} (h : p) : Hid p := h
theorem lunhide {p : Prop} (h : Hid p) : p := h
theorem lsize (s : ByteArray) : s.data.toList.length = s.size := Array.length_toList
theorem bext {a b : ByteArray} (h : a.data.toList = b.data.toList) : a = b := ByteArray.ext (Array.toList_inj.1 h)
theorem mk_of (s : ByteArray) : (⟨s.data.toList.toArray⟩ : ByteArray) = s := bext (by simp)
theorem ex_txt (l : List UInt8) : ∃ s : ByteArray, l = s.data.toList := ⟨⟨l.toArray⟩, by simp⟩
theorem ext_take (s : ByteArray) (k : Nat) : (s.extract 0 k).data.toList = s.data.toList.take k := by
  rw [Lib.extract_data, List.drop_zero, Nat.sub_zero]

/-- A token as it lies. -/
def tkV (t : Lx.Tk) (at_ : Int) : Value := .agg #[.int .i64 (t.k : Int), .int .i64 at_, .string ⟨t.tx.toArray⟩, .bool t.ng, .string ⟨t.dg.toArray⟩, .int .i64 (t.sc : Int)]
/-- What a reader answers. -/
def rdV : Option (Lx.Tk × Nat) → Value
  | none => .tuple #[.agg #[.int .i64 0, .int .i64 0, .string ⟨#[]⟩, .bool false, .string ⟨#[]⟩, .int .i64 0], .int .i64 0]
  | some (t, n) => .tuple #[tkV t 0, .int .i64 (n : Int)]

theorem tset_frame (G : Nat) : ∀ (vs : List Value) (o : Nat) (w : World), (w.setCells G o vs).heap.size = w.heap.size ∧ (w.setCells G o vs).os = w.os ∧ (w.setCells G o vs).tape = w.tape ∧ (w.setCells G o vs).output = w.output ∧ (∀ b, b ≠ G → (w.setCells G o vs).heap[b]? = w.heap[b]?)
  | [], _, _ => ⟨rfl, rfl, rfl, rfl, fun _ _ => rfl⟩
  | v :: r, o, w => by
    obtain ⟨a1, a2, a3, a4, a5⟩ := tset_frame G r (o + 1) (w.setCell ⟨G, o, none⟩ v)
    refine ⟨by show (World.setCells _ G (o + 1) r).heap.size = _; rw [a1]; simp [World.setCell], a2, a3, a4, fun b hb => ?_⟩
    show (World.setCells _ G (o + 1) r).heap[b]? = _
    rw [a5 b hb, Below.heap_setCell _ _ _ _ (by exact hb)]
theorem tset_below {B : Nat} {a w : World} (h : Below B a w) {G : Nat} (hG : B ≤ G) (o : Nat) (vs : List Value) : Below B a (w.setCells G o vs) := by
  obtain ⟨a1, a2, a3, a4, a5⟩ := tset_frame G vs o w
  exact h.trans ⟨a2, a3, a4, by rw [a1]; exact Nat.le_refl _, fun k hk => a5 k (by omega)⟩
theorem res6 (X : World) (R : Nat) (v0 v1 v2 v3 v4 v5 : Value) {u0 u1 u2 u3 u4 u5 : Value} (h0 : X.cell? ⟨R, 0, none⟩ = some u0) (h1 : X.cell? ⟨R, 1, none⟩ = some u1) (h2 : X.cell? ⟨R, 2, none⟩ = some u2) (h3 : X.cell? ⟨R, 3, none⟩ = some u3) (h4 : X.cell? ⟨R, 4, none⟩ = some u4) (h5 : X.cell? ⟨R, 5, none⟩ = some u5) :
    (X.setCells R 0 [v0, v1, v2, v3, v4, v5]).cell? ⟨R, 0, none⟩ = some v0 ∧ (X.setCells R 0 [v0, v1, v2, v3, v4, v5]).cell? ⟨R, 1, none⟩ = some v1 ∧ (X.setCells R 0 [v0, v1, v2, v3, v4, v5]).cell? ⟨R, 2, none⟩ = some v2 ∧
    (X.setCells R 0 [v0, v1, v2, v3, v4, v5]).cell? ⟨R, 3, none⟩ = some v3 ∧ (X.setCells R 0 [v0, v1, v2, v3, v4, v5]).cell? ⟨R, 4, none⟩ = some v4 ∧ (X.setCells R 0 [v0, v1, v2, v3, v4, v5]).cell? ⟨R, 5, none⟩ = some v5 := by
  have key := fun r hr => World.cell?_setCells_in R [v0, v1, v2, v3, v4, v5] 0 X (fun j hj => by
    rw [Nat.zero_add]
    match j, hj with
    | 0, _ => rw [h0]; rfl
    | 1, _ => rw [h1]; rfl
    | 2, _ => rw [h2]; rfl
    | 3, _ => rw [h3]; rfl
    | 4, _ => rw [h4]; rfl
    | 5, _ => rw [h5]; rfl) r hr
  simp only [Nat.zero_add] at key
  exact ⟨key 0 (by simp), key 1 (by simp), key 2 (by simp), key 3 (by simp), key 4 (by simp), key 5 (by simp)⟩
theorem box6 (w W : World) (x0 x1 x2 x3 x4 x5 : Value) (t : TypeId) (hB : Below (w.alloc (.cells #[x0, x1, x2, x3, x4, x5] t)).heap.size (w.alloc (.cells #[x0, x1, x2, x3, x4, x5] t)) W) :
    (W.cell? ⟨w.heap.size, 0, none⟩ = some x0 ∧ W.cell? ⟨w.heap.size, 1, none⟩ = some x1 ∧ W.cell? ⟨w.heap.size, 2, none⟩ = some x2 ∧ W.cell? ⟨w.heap.size, 3, none⟩ = some x3 ∧ W.cell? ⟨w.heap.size, 4, none⟩ = some x4 ∧ W.cell? ⟨w.heap.size, 5, none⟩ = some x5) ∧
    (W.frozen? ⟨w.heap.size, 0, none⟩ = false ∧ W.frozen? ⟨w.heap.size, 1, none⟩ = false ∧ W.frozen? ⟨w.heap.size, 2, none⟩ = false ∧ W.frozen? ⟨w.heap.size, 3, none⟩ = false ∧ W.frozen? ⟨w.heap.size, 4, none⟩ = false ∧ W.frozen? ⟨w.heap.size, 5, none⟩ = false) ∧
    Below w.heap.size w W ∧ w.heap.size < W.heap.size := by
  have hz := hB.size
  have hz2 : (w.alloc (.cells #[x0, x1, x2, x3, x4, x5] t)).heap.size = w.heap.size + 1 := by simp
  have hr : ∀ r, W.cell? ⟨w.heap.size, r, none⟩ = (#[x0, x1, x2, x3, x4, x5] : Array Value)[r]? := fun r => by
    rw [hB.cell (p := ⟨w.heap.size, r, none⟩) (by simp)]
    exact World.cell?_alloc_at _ _ _ _ rfl
  have hh : W.heap[w.heap.size]? = some (.cells #[x0, x1, x2, x3, x4, x5] t) := by
    rw [hB.block _ (by simp)]
    exact Go.heap_alloc_new w _
  have hf : ∀ r, W.frozen? ⟨w.heap.size, r, none⟩ = false := fun r => by simp [World.frozen?, hh]
  exact ⟨⟨hr 0, hr 1, hr 2, hr 3, hr 4, hr 5⟩, ⟨hf 0, hf 1, hf 2, hf 3, hf 4, hf 5⟩, ((Below.refl _ w).alloc (Nat.le_refl _) _).trans (hB.mono (by omega)), by omega⟩
set_option maxHeartbeats 1000000 in
theorem ssize_any (s cs : ByteArray) (n : Nat) (hn : Lx.runN cs.data.toList s.data.toList = n) (hs : s.size ≤ 100000) (hcs : cs.size < 4294967281) (hascii : ∀ (j : Nat) b, cs.data.toList[j]? = some b → b.toNat < 128) (w : World) :
    Calls Tryd.prog 36 #[.string s, .string cs] w fun e w' => e = .returned (.int .i64 (n : Int)) ∧ Below w.heap.size w w' := by
  obtain ⟨r, hr⟩ := ex_txt (Lx.trimC s.data.toList cs.data.toList)
  have C : Calls Tryd.prog 19 #[.string s, .string cs] w fun e w' => e = .returned (.string r) ∧ Below w.heap.size w w' := by
    refine (Tryd.strings_TrimLeft s cs w hcs hascii).mono ?_
    rintro e w' ⟨rfl, hb⟩
    refine ⟨?_, hb⟩
    rw [show s.data.toList.dropWhile (fun c => cs.data.toList.contains c) = r.data.toList from hr, mk_of]
  have hle : r.size ≤ s.size := by
    have := Lx.trim_le s.data.toList cs.data.toList
    rw [hr, lsize, lsize] at this; exact this
  have hq : n = s.size - r.size := by
    rw [← hn]; unfold Lx.runN; rw [hr, lsize, lsize]
  have hw : IntKind.i64.wrap ((s.size : Int) - (r.size : Int)) = (n : Int) := by
    rw [IntKind.wrap_i64]
    omega
  have HC := lhide C
  have HW := lhide hw
  clear C hn hascii hcs hr hq hw
  go_enter Tryd.func36, Tryd.ntmps36
  go_wp2_with fail
  refine (lunhide HC).mono ?_
  rintro e w2 ⟨rfl, b2⟩
  have hw := lunhide HW
  go_wp2_with fail
  go_ret
  exact ⟨rfl, b2⟩
theorem trimp_len (s p : List UInt8) : (Lib.trimPrefix s p).length ≤ s.length := by
  unfold Lib.trimPrefix
  split
  · rw [List.length_drop]; omega
  · exact Nat.le_refl _
theorem clone_l (s : ByteArray) (w : World) (hs : s.size ≤ 100000) : Calls Tryd.prog 38 #[.string s] w fun e w' => e = .returned (.string s) ∧ Below w.heap.size w w' := by
  go_enter Tryd.func38, Tryd.ntmps38
  go_wp2_with fail
  refine (Tryd.stringslite_Clone s _ (by omega)).mono ?_
  rintro e w2 ⟨rfl, b9⟩
  go_wp2
  go_ret
  exact ⟨rfl, b9⟩
set_option maxHeartbeats 2000000 in
theorem readNamed_any (k : Nat) (pre s : ByteArray) (o : Option (Lx.Tk × Nat)) (ho : Lx.namedO k pre.data.toList s.data.toList = o) (hs : s.size ≤ 4000) (hp : pre.size ≤ 1) (w : World) :
    Calls Tryd.prog 23 #[.int .i64 (k : Int), .string pre, .string s] w fun e w' => e = .returned (rdV o) ∧ Below w.heap.size w w' := by
  obtain ⟨pf, hpf⟩ : ∃ b, Lib.hasPrefix s.data.toList pre.data.toList = b := ⟨_, rfl⟩
  obtain ⟨r, hr⟩ := ex_txt (Lib.trimPrefix s.data.toList pre.data.toList)
  have CP : ∀ W, Calls Tryd.prog 35 #[.string s, .string pre] W fun e w' => e = .returned (.tuple #[.string r, .bool pf]) ∧ w' = W := fun W => by
    have := Tryd.strings_CutPrefix s pre W
    rw [hr, hpf, mk_of] at this
    exact this
  have hrs : r.size ≤ s.size := by
    have := trimp_len s.data.toList pre.data.toList
    rw [hr, lsize, lsize] at this; exact this
  obtain ⟨n, hn⟩ : ∃ n, Lx.runN Lx.inNames r.data.toList = n := ⟨_, rfl⟩
  have CS : ∀ W, Calls Tryd.prog 36 #[.string r, .string ⟨#[97, 98, 99, 100, 101, 102, 103, 104, 105, 106, 107, 108, 109, 110, 111, 112, 113, 114, 115, 116, 117, 118, 119, 120, 121, 122, 95, 48, 49, 50, 51, 52, 53, 54, 55, 56, 57]⟩] W fun e w' => e = .returned (.int .i64 (n : Int)) ∧ Below W.heap.size W w' := fun W =>
    ssize_any r ⟨#[97, 98, 99, 100, 101, 102, 103, 104, 105, 106, 107, 108, 109, 110, 111, 112, 113, 114, 115, 116, 117, 118, 119, 120, 121, 122, 95, 48, 49, 50, 51, 52, 53, 54, 55, 56, 57]⟩ n hn (by omega) (by decide) (ascii_of_all (by decide)) W
  have hnr : n ≤ r.size := by
    have := Lx.run_le Lx.inNames r.data.toList
    rw [hn, lsize] at this; exact this
  obtain ⟨q, hq⟩ : ∃ q, Cm.nameB (r.data.toList.take n) = q := ⟨_, rfl⟩
  have hxs : (r.extract 0 n).size = n := by rw [ByteArray.size_extract]; omega
  have CM : ∀ W, Calls Tryd.prog 37 #[.string (r.extract 0 n)] W fun e w' => e = .returned (.bool q) ∧ w' = W := fun W => by
    have := mayName_any (r.extract 0 n) W (by omega)
    rw [ext_take, hq] at this
    exact this
  have CC : ∀ W, Calls Tryd.prog 38 #[.string (r.extract 0 n)] W fun e w' => e = .returned (.string (r.extract 0 n)) ∧ Below W.heap.size W w' := fun W => clone_l _ W (by omega)
  have hO : o = if pf = true ∧ q = true then some (⟨k, (r.extract 0 n).data.toList, false, [], 0⟩, pre.size + n) else none := by
    rw [← ho]
    unfold Lx.namedO
    rw [hpf]
    cases pf with
    | false => rw [if_neg (by simp), if_neg (by simp)]
    | true =>
      have e : s.data.toList.drop pre.data.toList.length = r.data.toList := by
        rw [← hr]; unfold Lib.trimPrefix; rw [if_pos hpf]
      rw [e, hn, hq, ext_take, lsize]
  have hni : (n : Int) ≤ (r.size : Int) := by omega
  have hpz : IntKind.i64.wrap ((pre.size : Int) + (n : Int)) = ((pre.size + n : Nat) : Int) := by rw [IntKind.wrap_i64]; omega
  have HP := lhide CP
  have HS := lhide CS
  have HM := lhide CM
  have HC := lhide CC
  have HO := lhide hO
  have HW := lhide hpz
  obtain ⟨x, hx⟩ : ∃ x, r.extract 0 n = x := ⟨_, rfl⟩
  clear CP CS CM CC hO ho hpf hr hrs hn hq hxs hpz hs hp hnr hx
  have HA : Hid (∀ W W', Below (w.alloc (.cells #[.int .i64 0, .int .i64 0, .string ⟨#[]⟩, .bool false, .string ⟨#[]⟩, .int .i64 0] 33)).heap.size (w.alloc (.cells #[.int .i64 0, .int .i64 0, .string ⟨#[]⟩, .bool false, .string ⟨#[]⟩, .int .i64 0] 33)) W → Below W.heap.size W W' → Below (w.alloc (.cells #[.int .i64 0, .int .i64 0, .string ⟨#[]⟩, .bool false, .string ⟨#[]⟩, .int .i64 0] 33)).heap.size (w.alloc (.cells #[.int .i64 0, .int .i64 0, .string ⟨#[]⟩, .bool false, .string ⟨#[]⟩, .int .i64 0] 33)) W') := lhide (fun W W' h g => h.trans (g.mono h.size))
  have HA : Hid (∀ W W', Below (w.alloc (.cells #[.int .i64 0, .int .i64 0, .string ⟨#[]⟩, .bool false, .string ⟨#[]⟩, .int .i64 0] 33)).heap.size (w.alloc (.cells #[.int .i64 0, .int .i64 0, .string ⟨#[]⟩, .bool false, .string ⟨#[]⟩, .int .i64 0] 33)) W → Below W.heap.size W W' → Below (w.alloc (.cells #[.int .i64 0, .int .i64 0, .string ⟨#[]⟩, .bool false, .string ⟨#[]⟩, .int .i64 0] 33)).heap.size (w.alloc (.cells #[.int .i64 0, .int .i64 0, .string ⟨#[]⟩, .bool false, .string ⟨#[]⟩, .int .i64 0] 33)) W') := lhide (fun W W' h g => h.trans (g.mono h.size))
  have HA : Hid (∀ W W', Below (w.alloc (.cells #[.int .i64 0, .int .i64 0, .string ⟨#[]⟩, .bool false, .string ⟨#[]⟩, .int .i64 0] 33)).heap.size (w.alloc (.cells #[.int .i64 0, .int .i64 0, .string ⟨#[]⟩, .bool false, .string ⟨#[]⟩, .int .i64 0] 33)) W → Below W.heap.size W W' → Below (w.alloc (.cells #[.int .i64 0, .int .i64 0, .string ⟨#[]⟩, .bool false, .string ⟨#[]⟩, .int .i64 0] 33)).heap.size (w.alloc (.cells #[.int .i64 0, .int .i64 0, .string ⟨#[]⟩, .bool false, .string ⟨#[]⟩, .int .i64 0] 33)) W') := lhide (fun W W' h g => h.trans (g.mono h.size))
  have HA : Hid (∀ W W', Below (w.alloc (.cells #[.int .i64 0, .int .i64 0, .string ⟨#[]⟩, .bool false, .string ⟨#[]⟩, .int .i64 0] 33)).heap.size (w.alloc (.cells #[.int .i64 0, .int .i64 0, .string ⟨#[]⟩, .bool false, .string ⟨#[]⟩, .int .i64 0] 33)) W → Below W.heap.size W W' → Below (w.alloc (.cells #[.int .i64 0, .int .i64 0, .string ⟨#[]⟩, .bool false, .string ⟨#[]⟩, .int .i64 0] 33)).heap.size (w.alloc (.cells #[.int .i64 0, .int .i64 0, .string ⟨#[]⟩, .bool false, .string ⟨#[]⟩, .int .i64 0] 33)) W') := lhide (fun W W' h g => h.trans (g.mono h.size))
  go_enter Tryd.func23, Tryd.ntmps23
  go_wp2_with fail
  refine (lunhide HP _).mono ?_
  rintro e w1 ⟨rfl, rfl⟩
  go_wp2_with fail
  refine (lunhide HS _).mono ?_
  rintro e w2 ⟨rfl, b2⟩
  have HB6 := lhide b2
  clear b2
  cases pf with
  | false =>
    obtain rfl : o = none := by rw [lunhide HO]; rfl
    obtain ⟨⟨y0, y1, y2, y3, y4, y5⟩, ⟨f0, f1, f2, f3, f4, f5⟩, hbw, hltw⟩ := box6 _ _ _ _ _ _ _ _ _ (lunhide HB6)
    have HBW := lhide (And.intro hbw hltw)
    clear hbw hltw
    go_wp2_with fail
    change bodyPost _ _ _ _ _ (w2.setCells w.heap.size 0 [.int .i64 0, .int .i64 0, .string ⟨#[]⟩, .bool false, .string ⟨#[]⟩, .int .i64 0])
    obtain ⟨r0, r1, r2, r3, r4, r5⟩ := res6 w2 w.heap.size (.int .i64 0) (.int .i64 0) (.string ⟨#[]⟩) (.bool false) (.string ⟨#[]⟩) (.int .i64 0) y0 y1 y2 y3 y4 y5
    have hBV := tset_below (lunhide HBW).1 (G := w.heap.size) (Nat.le_refl _) 0 [.int .i64 0, .int .i64 0, .string ⟨#[]⟩, .bool false, .string ⟨#[]⟩, .int .i64 0]
    generalize w2.setCells w.heap.size 0 [.int .i64 0, .int .i64 0, .string ⟨#[]⟩, .bool false, .string ⟨#[]⟩, .int .i64 0] = V at hBV r0 r1 r2 r3 r4 r5 ⊢
    exact bodyPost_ret (v := .tuple #[.agg #[.int .i64 0, .int .i64 0, .string ⟨#[]⟩, .bool false, .string ⟨#[]⟩, .int .i64 0], .int .i64 0]) (by simp [results, Tryd.results23, go_sem, r0, r1, r2, r3, r4, r5]) rfl ⟨rfl, hBV⟩
  | true =>
    cases q with
    | false =>
      obtain rfl : o = none := by rw [lunhide HO]; rfl
      go_wp2_with fail
      refine (lunhide HM _).mono ?_
      rintro e w3 ⟨rfl, rfl⟩
      obtain ⟨⟨y0, y1, y2, y3, y4, y5⟩, ⟨f0, f1, f2, f3, f4, f5⟩, hbw, hltw⟩ := box6 _ _ _ _ _ _ _ _ _ (lunhide HB6)
      have HBW := lhide (And.intro hbw hltw)
      clear hbw hltw
      go_wp2_with fail
      change bodyPost _ _ _ _ _ (w3.setCells w.heap.size 0 [.int .i64 0, .int .i64 0, .string ⟨#[]⟩, .bool false, .string ⟨#[]⟩, .int .i64 0])
      obtain ⟨r0, r1, r2, r3, r4, r5⟩ := res6 w3 w.heap.size (.int .i64 0) (.int .i64 0) (.string ⟨#[]⟩) (.bool false) (.string ⟨#[]⟩) (.int .i64 0) y0 y1 y2 y3 y4 y5
      have hBV := tset_below (lunhide HBW).1 (G := w.heap.size) (Nat.le_refl _) 0 [.int .i64 0, .int .i64 0, .string ⟨#[]⟩, .bool false, .string ⟨#[]⟩, .int .i64 0]
      generalize w3.setCells w.heap.size 0 [.int .i64 0, .int .i64 0, .string ⟨#[]⟩, .bool false, .string ⟨#[]⟩, .int .i64 0] = V at hBV r0 r1 r2 r3 r4 r5 ⊢
      exact bodyPost_ret (v := .tuple #[.agg #[.int .i64 0, .int .i64 0, .string ⟨#[]⟩, .bool false, .string ⟨#[]⟩, .int .i64 0], .int .i64 0]) (by simp [results, Tryd.results23, go_sem, r0, r1, r2, r3, r4, r5]) rfl ⟨rfl, hBV⟩
    | true =>
      go_wp2_with fail
      refine (lunhide HM _).mono ?_
      rintro e w3 ⟨rfl, rfl⟩
      go_wp2_with fail
      refine (lunhide HC _).mono ?_
      rintro e w4 ⟨rfl, b4⟩
      have HB7 := lhide (lunhide HA _ _ (lunhide HB6) b4)
      have hpz := lunhide HW
      clear b4
      obtain ⟨⟨y0, y1, y2, y3, y4, y5⟩, ⟨f0, f1, f2, f3, f4, f5⟩, hbw, hltw⟩ := box6 _ _ _ _ _ _ _ _ _ (lunhide HB7)
      have HBW := lhide (And.intro hbw hltw)
      clear hbw hltw
      go_wp2_with fail
      change bodyPost _ _ _ _ _ (w4.setCells w.heap.size 0 [.int .i64 (k : Int), .int .i64 0, .string (r.extract 0 n), .bool false, .string ⟨#[]⟩, .int .i64 0])
      obtain ⟨r0, r1, r2, r3, r4, r5⟩ := res6 w4 w.heap.size (.int .i64 (k : Int)) (.int .i64 0) (.string (r.extract 0 n)) (.bool false) (.string ⟨#[]⟩) (.int .i64 0) y0 y1 y2 y3 y4 y5
      have hBV := tset_below (lunhide HBW).1 (G := w.heap.size) (Nat.le_refl _) 0 [.int .i64 (k : Int), .int .i64 0, .string (r.extract 0 n), .bool false, .string ⟨#[]⟩, .int .i64 0]
      generalize w4.setCells w.heap.size 0 [.int .i64 (k : Int), .int .i64 0, .string (r.extract 0 n), .bool false, .string ⟨#[]⟩, .int .i64 0] = V at hBV r0 r1 r2 r3 r4 r5 ⊢
      exact bodyPost_ret (v := .tuple #[.agg #[.int .i64 (k : Int), .int .i64 0, .string (r.extract 0 n), .bool false, .string ⟨#[]⟩, .int .i64 0], .int .i64 ((pre.size + n : Nat) : Int)]) (by simp [results, Tryd.results23, go_sem, r0, r1, r2, r3, r4, r5]) rfl ⟨by rw [lunhide HO, if_pos (by simp)]; show _ = Ending.returned (.tuple #[.agg #[_, _, .string ⟨(r.extract 0 n).data.toList.toArray⟩, _, _, _], _]); rw [mk_of]; rfl, hBV⟩
end Go.Proofs.YtppkknmgdahniabDoor.Lex
