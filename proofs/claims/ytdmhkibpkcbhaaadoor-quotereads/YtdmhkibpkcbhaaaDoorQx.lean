/- What is proved here: what the document's own Quote answers, walked; conditions: the text is UTF-8 and has at most 1000000 bytes. -/
import Derived.Test.YtdmhkibpkcbhaaaDoorQv
import Derived.Laws.IdiomStrings
import Derived.Deep.AppendLies
import Derived.Deep.RegionLaw
import Derived.Deep.RegionHeld3
namespace Go.Proofs.YtdmhkibpkcbhaaaDoor
open Go.RowKit
set_option linter.unusedVariables false
set_option linter.unusedSimpArgs false

/-- Bytes as values. -/
def bytesV (l : List UInt8) : List Value := l.map fun b => Value.int .u8 (b.toNat : Int)
theorem bytesV_app (l m : List UInt8) : bytesV (l ++ m) = bytesV l ++ bytesV m := by unfold bytesV; rw [List.map_append]
theorem bytesV_one (l : List UInt8) : ∀ u ∈ bytesV l, u.oneCell' = true := by
  intro u hu
  unfold bytesV at hu
  obtain ⟨b, _, rfl⟩ := List.mem_map.1 hu
  rfl
/-- What is quoted so far. -/
def quoted (l : List UInt8) (k : Nat) : List UInt8 := 34 :: (l.take k).flatMap Qm.escB
theorem quoted_step (l : List UInt8) (k : Nat) (h : k < l.length) : quoted l (k + 1) = quoted l k ++ Qm.escB l[k] := by
  unfold quoted
  rw [List.take_succ_eq_append_getElem h, List.flatMap_append, List.flatMap_cons, List.flatMap_nil, List.append_nil]
  rfl
theorem escB_len (c : UInt8) : 1 ≤ (Qm.escB c).length ∧ (Qm.escB c).length ≤ 6 := by
  unfold Qm.escB
  by_cases h : Qm.esc c.toNat = []
  · rw [if_pos h]; exact ⟨Nat.le_refl _, by simp⟩
  · rw [if_neg h]
    have := Qm.esc_length c.toNat h
    omega
theorem quoted_len (l : List UInt8) : ∀ k, (quoted l k).length ≤ 6 * k + 1
  | 0 => by simp [quoted]
  | k + 1 => by
    by_cases h : k < l.length
    · have h1 := quoted_len l k
      have h2 := escB_len l[k]
      rw [quoted_step l k h, List.length_append]
      omega
    · have h1 := quoted_len l k
      have : quoted l (k + 1) = quoted l k := by
        unfold quoted
        rw [List.take_of_length_le (by omega), List.take_of_length_le (by omega)]
      rw [this]; omega
theorem quoted_end (l : List UInt8) (h : Lib.validD l = true) (k : Nat) (hk : l.length ≤ k) : quoted l k ++ [34] = Qm.quoteL l := by
  unfold quoted Qm.quoteL
  rw [List.take_of_length_le hk, Qm.quo_flat l h]
  rfl
theorem many_cells (W : World) (vs : List Value) (t : TypeId) : ∀ j u, vs[j]? = some u → (W.alloc (.cells vs.toArray t)).cell? ((⟨W.heap.size, 0, none⟩ : Addr).add j) = some u := by
  intro j u hj
  have := World.news_of_block (w := W.alloc (.cells vs.toArray t)) (B := W.heap.size) (heap_alloc_new W _) j u (by simpa using hj)
  exact this
theorem own_more {w wr w1 : World} {v v' : Value} {l e : List UInt8} {m : Nat} {news : List Value} {o : Obj} (hown : wr.ownsRow w.heap.size 5 1 v l.length (bytesV l)) (hB : Below w.heap.size w wr)
    (hown' : w1.ownsRow w.heap.size 5 1 v' (l.length + m) (bytesV l ++ news)) (hm : m = e.length) (hnews : news = bytesV e) (hgrow : (wr.alloc o).grownBy w1 v.ownBlock) :
    w1.ownsRow w.heap.size 5 1 v' (l ++ e).length (bytesV (l ++ e)) ∧ Below w.heap.size w w1 := by
  refine ⟨?_, (hB.alloc hB.size _).grown hgrow (alloc_le hB _) (fun j hj => (hown.lt j hj).1)⟩
  rw [List.length_append, bytesV_app, ← hm, ← hnews]
  exact hown'
theorem own_more_d {w wr w1 : World} {v v' : Value} {l e : List UInt8} {m : Nat} {news : List Value} {o : Obj} (hown : wr.ownsRow w.heap.size 5 1 v l.length (bytesV l)) (hB : Below w.heap.size w wr)
    (hown' : w1.ownsRow w.heap.size 5 1 v' (l.length + m) (bytesV l ++ news)) (hm : m = e.length) (hnews : news = bytesV e) (hgrow : (wr.alloc o).drew.grownBy w1 v.ownBlock) :
    w1.ownsRow w.heap.size 5 1 v' (l ++ e).length (bytesV (l ++ e)) ∧ Below w.heap.size w w1 := by
  refine ⟨?_, (hB.alloc hB.size _).drew.grown hgrow (alloc_le hB _) (fun j hj => (hown.lt j hj).1)⟩
  rw [List.length_append, bytesV_app, ← hm, ← hnews]
  exact hown'
theorem info_u8 : (Tryd.prog.info? 5).map (fun i => (i.zero, i.size, i.bytes)) = some (some (.int .u8 0), 1, 1) := by kernel_rfl
theorem byte_is {c : UInt8} {n : Nat} (h : c.toNat = n) : c = UInt8.ofNat n := by rw [← h]; simp
theorem escB_plain (c : UInt8) (h1 : 32 ≤ c.toNat) (h2 : c.toNat ≠ 34) (h3 : c.toNat ≠ 92) (h4 : c.toNat ≠ 127) : Qm.escB c = [c] := by
  have he : Qm.esc c.toNat = [] := by
    unfold Qm.esc
    rw [if_neg h2, if_neg h3, if_neg (by omega), if_neg (by omega), if_neg (by omega), if_neg (by omega)]
  unfold Qm.escB
  rw [if_pos he]
/-- The text of the bytes that are held. -/
theorem conv_own {w1 : World} {B : Nat} {v : Value} {l : List UInt8} (hown : w1.ownsRow B 5 1 v l.length (bytesV l)) (hl : 0 < l.length) :
    (convert 35 9 v).run Tryd.prog w1 = .ok (.string ⟨l.toArray⟩) w1 := by
  obtain ⟨g, cap, rfl⟩ : ∃ g cap, v = .slice (some ⟨g, 0, none⟩) l.length cap := by
    rcases hown.2 with ⟨_, h0⟩ | ⟨g, cap, _, hv, _⟩
    · omega
    · exact ⟨g, cap, hv⟩
  have hc := fun j u h => hown.cells (g := g) rfl j u h
  refine run_convert_bytes_back w1 35 9 5 ⟨g, 0, none⟩ cap l Tryd.underlying35 Tryd.underlying5 Tryd.underlying9 ?_
  intro j hj
  exact hc j _ (by unfold bytesV; rw [List.getElem?_map, List.getElem?_eq_getElem hj]; rfl)

theorem escB_ctl (c : UInt8) (h1 : c.toNat ≠ 34) (h2 : c.toNat ≠ 92) (h3 : c.toNat ≠ 10) (h4 : c.toNat ≠ 13) (h5 : c.toNat ≠ 9) (h : c.toNat < 32 ∨ c.toNat = 127) :
    Qm.escB c = [92, 117, 48, 48, Qm.hexd (c.toNat / 16), Qm.hexd (c.toNat % 16)] := by
  have he : Qm.esc c.toNat = [92, 117, 48, 48, Qm.hexd (c.toNat / 16), Qm.hexd (c.toNat % 16)] := by
    unfold Qm.esc
    rw [if_neg h1, if_neg h2, if_neg h3, if_neg h4, if_neg h5, if_pos h]
  unfold Qm.escB
  rw [he, if_neg (by simp)]
theorem wrap_u8 (x : Int) : IntKind.u8.wrap x = x % 256 := by
  unfold IntKind.wrap
  simp [IntKind.signed, IntKind.bits]
theorem hex_at (p : Nat) (h : p < 16) : ∀ g, ((⟨#[48, 49, 50, 51, 52, 53, 54, 55, 56, 57, 97, 98, 99, 100, 101, 102]⟩ : ByteArray)[p]'g).toNat = (Qm.hexd p).toNat := by
  intro g
  have key : ∀ q : Fin 16, ((⟨#[48, 49, 50, 51, 52, 53, 54, 55, 56, 57, 97, 98, 99, 100, 101, 102]⟩ : ByteArray)[q.val]'q.isLt).toNat = (Qm.hexd q.val).toNat := by decide
  exact key ⟨p, h⟩
theorem _root_.Go.World.ownsRow.drew' {w : World} {base : Nat} {e : TypeId} {size : Nat} {v : Value} {n : Nat} {xs : List Value} (h : w.ownsRow base e size v n xs) : w.drew.ownsRow base e size v n xs := h
theorem many_cells_drew (W : World) (vs : List Value) (t : TypeId) : ∀ j u, vs[j]? = some u → (W.alloc (.cells vs.toArray t)).drew.cell? ((⟨W.heap.size, 0, none⟩ : Addr).add j) = some u := fun j u h => many_cells W vs t j u h
/-- append to a row of the call's own, as one step of a region that draws. -/
theorem step_append_own {P : Program} {ops : Array Oper} {o : Oper} {a : Act} {w : World} {K : Act → World → Prop} {Q : Exit → Act → World → Prop} {E : Prop}
    (hg : o.guard = none) (s x : Operand) (t : TypeId) (hop : o.op = Op.call { callee := Callee.builtin Builtin.append, args := #[s, x], argTypes := #[t, t] })
    (e : TypeId) (i : TypeInfo) (z : Value) (size bytes : Nat) (h1 : P.underlying t = some (.slice e)) (h2 : P.info? e = some i) (h3 : i.zero = some z) (h4 : i.size = size) (h5 : i.bytes = bytes) (h6 : z.cells.size = size) (h7 : 0 < size)
    (base : Nat) (v : Value) (n : Nat) (xs : List Value) (hown : w.ownsRow base e size v n xs) (hs : a.eval s = v)
    (ad : Addr) (m c : Nat) (news : List Value) (hx : a.eval x = .slice (some ad) m c) (hn : news.length = m * size) (hc : ∀ j u, news[j]? = some u → w.cell? (ad.add j) = some u) (h1c : ∀ u ∈ news, u.oneCell' = true)
    (b1 : n + m ≤ maxLen) (b2 : (n + m) * bytes ≤ 140737488355328) (hbase : base ≤ w.heap.size)
    (hK : ∀ v' w', w'.ownsRow base e size v' (n + m) (xs ++ news) → w.grownBy w' v.ownBlock → K (a.put o.dst v') w') :
    if Region.wanted o (yielded ops a.tmps) = true then Oper.wp P o a w K Q else E := by
  have hw : Region.wanted o (yielded ops a.tmps) = true := by simp [Region.wanted, hg]
  rw [if_pos hw]
  obtain ⟨v', w', hrun, r1, r2, _⟩ := run_append_own (P := P) w base t o.type e i z size bytes h1 h2 h3 h4 h5 h6 h7 v n xs hown ad m c news hn hc h1c b1 b2 hbase
  unfold Oper.wp
  simp [execOp, hop, resolve, invoke, builtin, hs, hx, hrun, Result.andThen]
  exact hK v' w' r1 r2

set_option maxHeartbeats 4000000 in
set_option maxRecDepth 1000000 in
theorem ref_quote (s u : ByteArray) (hs : s.size ≤ 1000000) (hv : Lib.validD s.data.toList = true) (hu : Qm.quoteL s.data.toList = u.data.toList) (w : World) :
    Calls Tryd.prog 16 #[.string s] w fun e w' => e = .returned (.string u) ∧ Below w.heap.size w w' := by
  have hql := quoted_len s.data.toList
  have hqe := quoted_end s.data.toList hv
  have hqs := quoted_step s.data.toList
  have hsl : s.data.toList.length = s.size := (Lib.size_eq _).symm
  rw [hsl] at hqe
  obtain ⟨Q, hQ⟩ : ∃ Q, quoted s.data.toList = Q := ⟨_, rfl⟩
  have hQ0 : Q 0 = [34] := by rw [← hQ]; rfl
  rw [hQ] at hql hqe hqs
  rw [hu] at hqe
  have hqs2 : ∀ k, ∀ h : k < s.size, Q (k + 1) = Q k ++ Qm.escB (s[k]'h) := by
    intro k h
    have h2 : k < s.data.toList.length := by omega
    have := hqs k h2
    have e : s.data.toList[k]'h2 = s[k]'h := by
      show _ = s.data[k]'h
      rw [Array.getElem_toList]
    rwa [e] at this
  have HS := rhide hs
  have HQL := rhide hql
  have HQE := rhide hqe
  have HQS := rhide hqs2
  obtain ⟨i0, hi, hz0, hz1, hz2⟩ := info_parts info_u8
  clear hs hql hqe hqs hqs2 hQ hsl hv hu
  go_enter Tryd.func16, Tryd.ntmps16
  go_wp2
  go_loopw [3, 4] (fun v i wr => ∃ k : Nat, i = .int .i64 (k : Int) ∧ k ≤ s.size ∧ wr.ownsRow w.heap.size 5 1 v (Q k).length (bytesV (Q k)) ∧ Below w.heap.size w wr) (fun _ i _ => s.size - (intOf i).toNat)
  case atStart =>
    refine ⟨0, rfl, by omega, ?_, (Below.refl _ w).alloc (Nat.le_refl _) _⟩
    rw [hQ0]
    exact ⟨rfl, .inr ⟨w.heap.size, 1, _, rfl, Nat.le_refl _, heap_alloc_new w _, Nat.le_refl _, by decide, rfl, rfl⟩⟩
  case round =>
    obtain ⟨k, rfl, hk, hown, hB⟩ := hrel
    by_cases hlt : k < s.size
    · have hst := runhide HQS k hlt
      have hlen := runhide HQL k
      have hb1 : (Q k).length + 6 ≤ 7000000 := by have := runhide HS; omega
      have HB1 := rhide hb1
      have w1 : IntKind.i64.wrap ((k : Int) + 1) = ((k + 1 : Nat) : Int) := by have := runhide HS; rw [IntKind.wrap_i64]; omega
      obtain ⟨q, hq⟩ : ∃ q, Q k = q := ⟨_, rfl⟩
      rw [hq] at hst hown HB1
      clear hlen hb1 hk hQ0
      by_cases c34 : (s[k]'hlt).toNat = 34
      · have hes : Qm.escB (s[k]'hlt) = [92, 34] := by rw [byte_is c34]; decide
        have e1 : ((s[k]'hlt).toNat : Int) = 34 := by omega
        clear c34 
        go_wp2_with (at_builtin; refine wpList_append_own _ rfl _ _ 35 rfl w.heap.size 5 i0 (.int .u8 0) 1 1 Tryd.underlying35 hi hz0 hz1 hz2 rfl (by decide) _ _ _ rfl (hown.alloc _) ⟨wr.heap.size, 0, none⟩ 2 2 [.int .u8 92, .int .u8 34] rfl rfl (many_cells wr _ _) (bytesV_one [92, 34]) (by have := runhide HB1; unfold maxLen; omega) (by have := runhide HB1; omega) (alloc_le hB _) ?_)
        intro v' w1 hown' hgrow _
        obtain ⟨hown2, hB1⟩ := own_more (e := [92, 34]) hown hB hown' rfl rfl hgrow
        clear hown' hgrow hown hB
        rw [hes] at hst
        rw [← hst] at hown2
        go_wp2
        go_roundw
        case rel => exact ⟨k + 1, rfl, hlt, hown2, hB1⟩
        case measure => simp [intOf]; omega
      have d34 : (((s[k]'hlt).toNat : Int) == 34) = false := beq_eq_false_iff_ne.2 (by omega)
      by_cases c92 : (s[k]'hlt).toNat = 92
      · have hes : Qm.escB (s[k]'hlt) = [92, 92] := by rw [byte_is c92]; decide
        have e1 : ((s[k]'hlt).toNat : Int) = 92 := by omega
        clear c92
        go_wp2_with (at_builtin; refine wpList_append_own _ rfl _ _ 35 rfl w.heap.size 5 i0 (.int .u8 0) 1 1 Tryd.underlying35 hi hz0 hz1 hz2 rfl (by decide) _ _ _ rfl (hown.alloc _) ⟨wr.heap.size, 0, none⟩ 2 2 [.int .u8 92, .int .u8 92] rfl rfl (many_cells wr _ _) (bytesV_one [92, 92]) (by have := runhide HB1; unfold maxLen; omega) (by have := runhide HB1; omega) (alloc_le hB _) ?_)
        intro v' w1 hown' hgrow _
        obtain ⟨hown2, hB1⟩ := own_more (e := [92, 92]) hown hB hown' rfl rfl hgrow
        clear hown' hgrow hown hB
        rw [hes] at hst
        rw [← hst] at hown2
        go_wp2
        go_roundw
        case rel => exact ⟨k + 1, rfl, hlt, hown2, hB1⟩
        case measure => simp [intOf]; omega
      have d92 : (((s[k]'hlt).toNat : Int) == 92) = false := beq_eq_false_iff_ne.2 (by omega)
      by_cases c10 : (s[k]'hlt).toNat = 10
      · have hes : Qm.escB (s[k]'hlt) = [92, 110] := by rw [byte_is c10]; decide
        have e1 : ((s[k]'hlt).toNat : Int) = 10 := by omega
        clear c10
        go_wp2_with (at_builtin; refine wpList_append_own _ rfl _ _ 35 rfl w.heap.size 5 i0 (.int .u8 0) 1 1 Tryd.underlying35 hi hz0 hz1 hz2 rfl (by decide) _ _ _ rfl (hown.alloc _) ⟨wr.heap.size, 0, none⟩ 2 2 [.int .u8 92, .int .u8 110] rfl rfl (many_cells wr _ _) (bytesV_one [92, 110]) (by have := runhide HB1; unfold maxLen; omega) (by have := runhide HB1; omega) (alloc_le hB _) ?_)
        intro v' w1 hown' hgrow _
        obtain ⟨hown2, hB1⟩ := own_more (e := [92, 110]) hown hB hown' rfl rfl hgrow
        clear hown' hgrow hown hB
        rw [hes] at hst
        rw [← hst] at hown2
        go_wp2
        go_roundw
        case rel => exact ⟨k + 1, rfl, hlt, hown2, hB1⟩
        case measure => simp [intOf]; omega
      have d10 : (((s[k]'hlt).toNat : Int) == 10) = false := beq_eq_false_iff_ne.2 (by omega)
      by_cases c13 : (s[k]'hlt).toNat = 13
      · have hes : Qm.escB (s[k]'hlt) = [92, 114] := by rw [byte_is c13]; decide
        have e1 : ((s[k]'hlt).toNat : Int) = 13 := by omega
        clear c13
        go_wp2_with (at_builtin; refine wpList_append_own _ rfl _ _ 35 rfl w.heap.size 5 i0 (.int .u8 0) 1 1 Tryd.underlying35 hi hz0 hz1 hz2 rfl (by decide) _ _ _ rfl (hown.alloc _) ⟨wr.heap.size, 0, none⟩ 2 2 [.int .u8 92, .int .u8 114] rfl rfl (many_cells wr _ _) (bytesV_one [92, 114]) (by have := runhide HB1; unfold maxLen; omega) (by have := runhide HB1; omega) (alloc_le hB _) ?_)
        intro v' w1 hown' hgrow _
        obtain ⟨hown2, hB1⟩ := own_more (e := [92, 114]) hown hB hown' rfl rfl hgrow
        clear hown' hgrow hown hB
        rw [hes] at hst
        rw [← hst] at hown2
        go_wp2
        go_roundw
        case rel => exact ⟨k + 1, rfl, hlt, hown2, hB1⟩
        case measure => simp [intOf]; omega
      have d13 : (((s[k]'hlt).toNat : Int) == 13) = false := beq_eq_false_iff_ne.2 (by omega)
      by_cases c9 : (s[k]'hlt).toNat = 9
      · have hes : Qm.escB (s[k]'hlt) = [92, 116] := by rw [byte_is c9]; decide
        have e1 : ((s[k]'hlt).toNat : Int) = 9 := by omega
        clear c9
        go_wp2_with (at_builtin; refine wpList_append_own _ rfl _ _ 35 rfl w.heap.size 5 i0 (.int .u8 0) 1 1 Tryd.underlying35 hi hz0 hz1 hz2 rfl (by decide) _ _ _ rfl (hown.alloc _) ⟨wr.heap.size, 0, none⟩ 2 2 [.int .u8 92, .int .u8 116] rfl rfl (many_cells wr _ _) (bytesV_one [92, 116]) (by have := runhide HB1; unfold maxLen; omega) (by have := runhide HB1; omega) (alloc_le hB _) ?_)
        intro v' w1 hown' hgrow _
        obtain ⟨hown2, hB1⟩ := own_more (e := [92, 116]) hown hB hown' rfl rfl hgrow
        clear hown' hgrow hown hB
        rw [hes] at hst
        rw [← hst] at hown2
        go_wp2
        go_roundw
        case rel => exact ⟨k + 1, rfl, hlt, hown2, hB1⟩
        case measure => simp [intOf]; omega
      have d9 : (((s[k]'hlt).toNat : Int) == 9) = false := beq_eq_false_iff_ne.2 (by omega)
      by_cases hx : (s[k]'hlt).toNat < 32 ∨ (s[k]'hlt).toNat = 127
      · obtain ⟨c, hc⟩ : ∃ c, (s[k]'hlt).toNat = c := ⟨_, rfl⟩
        have hes : Qm.escB (s[k]'hlt) = [92, 117, 48, 48, Qm.hexd (c / 16), Qm.hexd (c % 16)] := by rw [← hc]; exact escB_ctl _ c34 c92 c10 c13 c9 hx
        rw [hc] at d34 d92 d10 d13 d9 hx
        clear c34 c92 c10 c13 c9
        obtain ⟨p, hp⟩ : ∃ p, c / 16 = p := ⟨_, rfl⟩
        obtain ⟨r, hr⟩ : ∃ r, c % 16 = r := ⟨_, rfl⟩
        rw [hp, hr] at hes
        have hd1 : (p : Int) < 16 := by omega
        have hd2 : (r : Int) < 16 := by omega
        have k1 : IntKind.u8.wrap ((c : Int) / 16) = (p : Int) := by rw [wrap_u8]; omega
        have k2 : (c : Int).tmod 16 = (r : Int) := by rw [Int.tmod_eq_emod_of_nonneg (by omega)]; omega
        have v1 := hex_at p (by omega)
        have v2 := hex_at r (by omega)
        generalize Qm.hexd p = a at hes v1
        generalize Qm.hexd r = b at hes v2
        rw [hes] at hst
        have hq2 : Q (k + 1) = q ++ [92, 117, 48, 48, a, b] := hst
        have HQ2 := rhide hq2
        clear hp hr hes hst hq2
        rcases hx with hx | hx
        · have e1 : decide ((c : Int) < 32) = true := decide_eq_true (by omega)
          clear hx
          go_wp2_with fail
          go_region_law (refine step_append_own rfl (.tmp 56) (.tmp 63) 35 rfl 5 i0 (.int .u8 0) 1 1 Tryd.underlying35 hi hz0 hz1 hz2 rfl (by decide) w.heap.size _ _ _ (World.ownsRow.drew' (hown.alloc _)) (by simp [Act.eval, Act.put]) ⟨wr.heap.size, 0, none⟩ 6 6 [.int .u8 92, .int .u8 117, .int .u8 48, .int .u8 48, .int .u8 (a.toNat : Int), .int .u8 (b.toNat : Int)] (by simp [Act.eval, Act.put]) rfl (many_cells_drew wr _ _) (bytesV_one [92, 117, 48, 48, a, b]) (by have := runhide HB1; unfold maxLen; omega) (by have := runhide HB1; omega) (alloc_le hB _) ?_; intro v' w1 hown' hgrow)
          all_goals
            obtain ⟨hown2, hB1⟩ := own_more_d (e := [92, 117, 48, 48, a, b]) hown hB hown' rfl rfl hgrow
            clear hown' hgrow hown hB
            rw [← runhide HQ2] at hown2
            go_wp2
            go_roundw
            case rel => exact ⟨k + 1, rfl, hlt, hown2, hB1⟩
            case measure => simp [intOf]; omega
        · have e1 : decide ((c : Int) < 32) = false := decide_eq_false (by omega)
          have e2 : ((c : Int) == 127) = true := beq_iff_eq.2 (by omega)
          clear hx
          go_wp2_with fail
          go_region_law (refine step_append_own rfl (.tmp 56) (.tmp 63) 35 rfl 5 i0 (.int .u8 0) 1 1 Tryd.underlying35 hi hz0 hz1 hz2 rfl (by decide) w.heap.size _ _ _ (World.ownsRow.drew' (hown.alloc _)) (by simp [Act.eval, Act.put]) ⟨wr.heap.size, 0, none⟩ 6 6 [.int .u8 92, .int .u8 117, .int .u8 48, .int .u8 48, .int .u8 (a.toNat : Int), .int .u8 (b.toNat : Int)] (by simp [Act.eval, Act.put]) rfl (many_cells_drew wr _ _) (bytesV_one [92, 117, 48, 48, a, b]) (by have := runhide HB1; unfold maxLen; omega) (by have := runhide HB1; omega) (alloc_le hB _) ?_; intro v' w1 hown' hgrow)
          all_goals
            obtain ⟨hown2, hB1⟩ := own_more_d (e := [92, 117, 48, 48, a, b]) hown hB hown' rfl rfl hgrow
            clear hown' hgrow hown hB
            rw [← runhide HQ2] at hown2
            go_wp2
            go_roundw
            case rel => exact ⟨k + 1, rfl, hlt, hown2, hB1⟩
            case measure => simp [intOf]; omega
      · have hes : Qm.escB (s[k]'hlt) = [s[k]'hlt] := escB_plain _ (by omega) c34 c92 (by omega)
        have e1 : decide (((s[k]'hlt).toNat : Int) < 32) = false := decide_eq_false (by omega)
        have e2 : (((s[k]'hlt).toNat : Int) == 127) = false := beq_eq_false_iff_ne.2 (by omega)
        clear hx c34 c92 c10 c13 c9
        go_wp2_with (at_builtin; refine wpList_append_own _ rfl _ _ 35 rfl w.heap.size 5 i0 (.int .u8 0) 1 1 Tryd.underlying35 hi hz0 hz1 hz2 rfl (by decide) _ _ _ rfl (hown.alloc _) ⟨wr.heap.size, 0, none⟩ 1 1 [.int .u8 ((s[k]'hlt).toNat : Int)] rfl rfl (many_cells wr _ _) (bytesV_one [s[k]'hlt]) (by have := runhide HB1; unfold maxLen; omega) (by have := runhide HB1; omega) (alloc_le hB _) ?_)
        intro v' w1 hown' hgrow _
        obtain ⟨hown2, hB1⟩ := own_more (e := [s[k]'hlt]) hown hB hown' rfl rfl hgrow
        clear hown' hgrow hown hB
        rw [hes] at hst
        rw [← hst] at hown2
        go_wp2
        go_roundw
        case rel => exact ⟨k + 1, rfl, hlt, hown2, hB1⟩
        case measure => simp [intOf]; omega
    · have hfin := runhide HQE k (by omega)
      have hlen := runhide HQL k
      have hb1 : (Q k).length + 6 ≤ 7000000 := by have := runhide HS; omega
      have HB1 := rhide hb1
      obtain ⟨q, hq⟩ : ∃ q, Q k = q := ⟨_, rfl⟩
      rw [hq] at hfin hown HB1
      clear hlen hb1 hk hQ0
      go_wp2_with (at_builtin; refine wpList_append_own _ rfl _ _ 35 rfl w.heap.size 5 i0 (.int .u8 0) 1 1 Tryd.underlying35 hi hz0 hz1 hz2 rfl (by decide) _ _ _ rfl (hown.alloc _) ⟨wr.heap.size, 0, none⟩ 1 1 [.int .u8 34] rfl rfl (many_cells wr _ _) (bytesV_one [34]) (by have := runhide HB1; unfold maxLen; omega) (by have := runhide HB1; omega) (alloc_le hB _) ?_)
      intro v' w1 hown' hgrow _
      obtain ⟨hown2, hB1⟩ := own_more (e := [34]) hown hB hown' rfl rfl hgrow
      have hcv := conv_own hown2 (by simp)
      rw [hfin, Array.toArray_toList] at hcv
      clear hown' hgrow hown hB hown2
      go_wp2
      go_ret
      exact ⟨rfl, hB1⟩
end Go.Proofs.YtdmhkibpkcbhaaaDoor
