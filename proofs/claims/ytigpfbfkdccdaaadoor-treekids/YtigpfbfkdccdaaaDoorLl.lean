/- What is proved here: TreeKids's walk: it returns true for any row. -/
import Derived.Test.YtigpfbfkdccdaaaDoorLm
import Derived.Test.YtigpfbfkdccdaaaDoorLs
import Derived.Test.YtigpfbfkdccdaaaDoorLf
namespace Go.Proofs.YtigpfbfkdccdaaaDoor
open Go.RowKit
set_option linter.unusedVariables false
set_option linter.unusedSimpArgs false

/-- The masks of a row of kids that may be written to. -/
def MaskRow (lo B : Nat) (da : Option Addr) (m : Nat) (W : World) : Prop := ∀ j, j < m → ∃ b o, ∃ q : Int, da = some ⟨b, o, none⟩ ∧ lo ≤ b ∧ b < B ∧ W.cell? ⟨b, o + j * 9 + 1, none⟩ = some (.int .u64 q) ∧ ∀ r, W.frozen? ⟨b, r, none⟩ = false
theorem MaskRow.set {lo B m b o k : Nat} {W : World} (z : Int) (h : MaskRow lo B (some ⟨b, o, none⟩) m W) : MaskRow lo B (some ⟨b, o, none⟩) m (W.setCell ⟨b, o + k * 9 + 1, none⟩ (.int .u64 z)) := by
  intro j hj
  obtain ⟨b', o', q, e, g1, g2, g3, g4⟩ := h j hj
  obtain ⟨rfl, rfl, _⟩ := Addr.mk.inj (Option.some.inj e)
  by_cases e2 : j = k
  · subst e2
    exact ⟨b, o, z, rfl, g1, g2, World.cell?_setCell_same _ _ _ g3, fun r => by rw [World.frozen?_setCell]; exact g4 r⟩
  · exact ⟨b, o, q, rfl, g1, g2, by rw [World.cell?_setCell_other _ _ _ _ (fun e => by have := (Addr.mk.inj e).2.1; omega)]; exact g3, fun r => by rw [World.frozen?_setCell]; exact g4 r⟩
theorem MaskRow.alloc {lo B m : Nat} {da : Option Addr} {W : World} (h : MaskRow lo B da m W) (hB : B ≤ W.heap.size) (ob : Obj) : MaskRow lo B da m (W.alloc ob) := by
  intro j hj
  obtain ⟨b, o, q, e, g1, g2, g3, g4⟩ := h j hj
  have hbl := (Below.refl W.heap.size W).alloc (Nat.le_refl _) ob
  exact ⟨b, o, q, e, g1, g2, (hbl.cell (p := ⟨b, o + j * 9 + 1, none⟩) (show b < W.heap.size by omega)).trans g3, fun r => (World.frozen?_of_block (a := ⟨b, r, none⟩) (hbl.block b (by omega))).trans (g4 r)⟩
theorem mask_row {lo : Nat} {W : World} {n m : Nat} {h : Hd} {l : List Tr} {ka da : Option Addr} {kc dc : Nat} (hkid : ∀ i, ∀ h : i < l.length, ∃ b o cs, da = some ⟨b, o, none⟩ ∧ lo ≤ b ∧ b < W.heap.size ∧ Row9 W b (o + i * 9) cs ∧ Lies (fun b => lo ≤ b) W n (.agg cs) (l[i]'h))
    (hfr : FreeRow lo W (.agg #[.int .i64 h.k, .int .u64 (h.m : Int), .bool h.ng, .string h.dg, .int .i64 h.sc, .string h.tx, .slice ka h.ks.length kc, .slice da l.length dc, .int .i64 h.cd])) (hm : m ≤ lo) : MaskRow m W.heap.size da l.length W := by
  intro j hj
  obtain ⟨b, o, cs, e, g1, g2, g3, g4⟩ := hkid j hj
  obtain ⟨k2, hd, l2, kv, dv, _, _, e3, _⟩ := g4.open
  obtain rfl : cs = nine hd kv dv := Value.agg.inj e3
  exact ⟨b, o, _, e, by omega, g2, g3.cells.2.1, fun r => (hfr _ b o l.length dc rfl (by rw [e]; rfl)).2.2 r⟩

set_option maxHeartbeats 20000000 in
set_option maxRecDepth 1000000 in
theorem kids_walk (a : Option Addr) (n c : Nat) (w : World) (hn : n ≤ 140737488355328) (hit : ∀ i, i < n → i < 80 → ItemAt w a i) :
    Calls Tryd.prog 8 #[.slice a n c] w fun e w' => e = .returned (.bool true) ∧ Below w.heap.size w w' := by
  have HIT := khide hit
  clear hit
  go_enter Tryd.func8, Tryd.ntmps8
  go_wp2_with fail
  refine (tshown_any _).mono ?_
  rintro e W1 ⟨rfl, b1⟩
  go_wp2_with fail
  refine (built_any a n c W1 hn (fun i hi h8 => (kunhide HIT i hi h8).below b1)).mono ?_
  rintro e W2 ⟨v, t, rfl, hl, hg, hs, b2⟩
  have hB2 : Below w.heap.size w W2 := b1.trans (b2.mono b1.size)
  have hok : okT 100 t := good_ok 100 t hg
  have hlA := hl.any
  obtain ⟨h, l, ka, kc, da, dc, rfl, rfl, hm64, hkc, hdc, hks, hkid⟩ := hlA.node
  have h4 : Box (W2.alloc (.cells #[.int .i64 h.k, .int .u64 (h.m : Int), .bool h.ng, .string h.dg, .int .i64 h.sc, .string h.tx, .slice ka h.ks.length kc, .slice da l.length dc, .int .i64 h.cd] 33)) W2.heap.size #[.int .i64 h.k, .int .u64 (h.m : Int), .bool h.ng, .string h.dg, .int .i64 h.sc, .string h.tx, .slice ka h.ks.length kc, .slice da l.length dc, .int .i64 h.cd] := Box.new _ _ _
  have hal := (Below.refl _ W2).alloc (Nat.le_refl _) (.cells #[.int .i64 h.k, .int .u64 (h.m : Int), .bool h.ng, .string h.dg, .int .i64 h.sc, .string h.tx, .slice ka h.ks.length kc, .slice da l.length dc, .int .i64 h.cd] 33)
  have hl4 := hlA.below hal
  have HB2 := khide (And.intro hB2 (And.intro hok (And.intro hs (And.intro hl4 (And.intro h4 hg)))))
  have HKS := khide hks
  have HKID := khide hkid
  clear hl hlA hg hs b1 b2 hB2 hok h4 hl4 HIT hal hks hkid hkc hdc
  go_wp2_with fail
  refine (clone_any 100 _ _ _ (kunhide HB2).2.2.2.1 (kunhide HB2).2.1).mono ?_
  rintro e W3 ⟨v3, rfl, hl3, b3⟩
  obtain ⟨hd9, ka9, kn9, kc9, da9, dn9, dc9, rfl⟩ := hl3.shape
  obtain ⟨hB2, hok, hs, hl4, h4, hg⟩ := kunhide HB2
  have hal := (Below.refl _ W3).alloc (Nat.le_refl _) (.cells #[.int .i64 hd9.k, .int .u64 (hd9.m : Int), .bool hd9.ng, .string hd9.dg, .int .i64 hd9.sc, .string hd9.tx, .slice ka9 kn9 kc9, .slice da9 dn9 dc9, .int .i64 hd9.cd] 33)
  have h4 := (h4.kept (ok := anyB) (Kept.of_below b3) trivial).kept (ok := anyB) (Kept.of_below hal) trivial
  have h5 : Box (W3.alloc (.cells #[.int .i64 hd9.k, .int .u64 (hd9.m : Int), .bool hd9.ng, .string hd9.dg, .int .i64 hd9.sc, .string hd9.tx, .slice ka9 kn9 kc9, .slice da9 dn9 dc9, .int .i64 hd9.cd] 33)) W3.heap.size #[.int .i64 hd9.k, .int .u64 (hd9.m : Int), .bool hd9.ng, .string hd9.dg, .int .i64 hd9.sc, .string hd9.tx, .slice ka9 kn9 kc9, .slice da9 dn9 dc9, .int .i64 hd9.cd] := Box.new _ _ _
  have hl4 := (hl4.below b3).below hal
  have hl5 := (hl3.any).below hal
  have hb := hB2.size
  have hc := b3.size
  have hB4 := ((hB2.alloc hb (.cells #[.int .i64 h.k, .int .u64 (h.m : Int), .bool h.ng, .string h.dg, .int .i64 h.sc, .string h.tx, .slice ka h.ks.length kc, .slice da l.length dc, .int .i64 h.cd] 33)).trans (b3.mono (by simp; omega))).alloc (by simp at hc; omega) (.cells #[.int .i64 hd9.k, .int .u64 (hd9.m : Int), .bool hd9.ng, .string hd9.dg, .int .i64 hd9.sc, .string hd9.tx, .slice ka9 kn9 kc9, .slice da9 dn9 dc9, .int .i64 hd9.cd] 33)
  have hB24 := ((Below.refl W2.heap.size W2).alloc (Nat.le_refl _) (.cells #[.int .i64 h.k, .int .u64 (h.m : Int), .bool h.ng, .string h.dg, .int .i64 h.sc, .string h.tx, .slice ka h.ks.length kc, .slice da l.length dc, .int .i64 h.cd] 33)).trans ((b3.mono (by simp)).trans (hal.mono (by simp at hc; omega)))
  have HX := khide (And.intro hB4 (And.intro hok (And.intro hs (And.intro hl4 (And.intro hl5 (And.intro h4 (And.intro h5 (And.intro hg hB24))))))))
  clear hB2 hok hs hl4 hl5 h4 h5 hal hl3 b3 hb hc hB4 HB2 hg hB24
  go_upto_region 4 with fail
  obtain ⟨hB4, hok, hs, hl4, hl5, h4, h5, hg, hB24⟩ := kunhide HX
  clear HX
  generalize W3.alloc (.cells #[.int .i64 hd9.k, .int .u64 (hd9.m : Int), .bool hd9.ng, .string hd9.dg, .int .i64 hd9.sc, .string hd9.tx, .slice ka9 kn9 kc9, .slice da9 dn9 dc9, .int .i64 hd9.cd] 33) = W4 at hB4 hl4 hl5 h4 h5 hB24 ⊢
  have hl80 : l.length ≤ 80 := by
    have h1 := len_le_sum (sizeT 99) (sizeT_pos 99) l
    have h2 : 1 + (l.map (sizeT 99)).sum ≤ 80 := hs
    omega
  have HSB := khide (fun (W' : World) (hW : Below W4.heap.size W4 W') => (show W'.cell? ⟨W2.heap.size, 0, none⟩ = some (.int .i64 h.k) ∧ W'.cell? ⟨W2.heap.size, 1, none⟩ = some (.int .u64 (h.m : Int)) ∧ W'.cell? ⟨W2.heap.size, 2, none⟩ = some (.bool h.ng) ∧ W'.cell? ⟨W2.heap.size, 3, none⟩ = some (.string h.dg) ∧ W'.cell? ⟨W2.heap.size, 4, none⟩ = some (.int .i64 h.sc) ∧ W'.cell? ⟨W2.heap.size, 5, none⟩ = some (.string h.tx) ∧ W'.cell? ⟨W2.heap.size, 6, none⟩ = some (.slice ka h.ks.length kc) ∧ W'.cell? ⟨W2.heap.size, 7, none⟩ = some (.slice da l.length dc) ∧ W'.cell? ⟨W2.heap.size, 8, none⟩ = some (.int .i64 h.cd) ∧ W'.cell? ⟨W3.heap.size, 0, none⟩ = some (.int .i64 hd9.k) ∧ W'.cell? ⟨W3.heap.size, 1, none⟩ = some (.int .u64 (hd9.m : Int)) ∧ W'.cell? ⟨W3.heap.size, 2, none⟩ = some (.bool hd9.ng) ∧ W'.cell? ⟨W3.heap.size, 3, none⟩ = some (.string hd9.dg) ∧ W'.cell? ⟨W3.heap.size, 4, none⟩ = some (.int .i64 hd9.sc) ∧ W'.cell? ⟨W3.heap.size, 5, none⟩ = some (.string hd9.tx) ∧ W'.cell? ⟨W3.heap.size, 6, none⟩ = some (.slice ka9 kn9 kc9) ∧ W'.cell? ⟨W3.heap.size, 7, none⟩ = some (.slice da9 dn9 dc9) ∧ W'.cell? ⟨W3.heap.size, 8, none⟩ = some (.int .i64 hd9.cd) from by
    have p := box_nine h4 hW
    have q := box_nine h5 hW
    exact ⟨p.1, p.2.1, p.2.2.1, p.2.2.2.1, p.2.2.2.2.1, p.2.2.2.2.2.1, p.2.2.2.2.2.2.1, p.2.2.2.2.2.2.2.1, p.2.2.2.2.2.2.2.2, q⟩))
  have HL4 := khide (fun (W : World) (hW : Below W4.heap.size W4 W) => hl4.below hW)
  have HL4b := khide (fun (W : World) (hW : Below W4.heap.size W4 W) => (hl4.weak (ok' := fun b => b < W4.heap.size) (fun b hb _ => hb)).below hW)
  have HL5 := khide (fun (W : World) (hW : Below W4.heap.size W4 W) => hl5.below hW)
  have HO := khide (And.intro hok (And.intro hs (And.intro hB4 (And.intro hg hB24))))
  clear hok hs hl4 hl5 h4 h5 hB4 hg hB24
  go_wp2_with fail
  go_loopw [6] (fun i wr => ∃ k : Nat, i = .int .i64 (k : Int) ∧ k ≤ l.length ∧ Below W4.heap.size W4 wr) (fun i _ => l.length - (intOf i).toNat)
  case atStart => exact ⟨0, rfl, Nat.zero_le _, Below.refl _ _⟩
  case round =>
    obtain ⟨i, rfl, hk9, hS⟩ := hrel
    by_cases hlt : i < l.length
    · have hi : i < l.length := hlt
      have hzl : (i : Int) < (l.length : Int) := by omega
      have hk67 : h.k = 6 ∨ h.k = 7 := by
        have q := (kunhide HO).2.2.2.1.1.1.2.2.2.1
        by_cases k6 : h.k = 6
        · exact .inl k6
        · by_cases k7 : h.k = 7
          · exact .inr k7
          · have e : l.length = 0 := q k6 k7
            omega
      obtain ⟨x, hx⟩ : ∃ x, l[i]'hi = x := ⟨_, rfl⟩
      have hmem : x ∈ l := by rw [← hx]; exact List.getElem_mem hi
      have okx : okT 99 x := (kunhide HO).1.2.2 x hmem
      obtain ⟨b, o, hd2, ka2, kn2, kc2, da2, dn2, dc2, hda, hb, ⟨c0, c1, c2, c3, c4, c5, c6, c7, c8⟩, hlies⟩ := kid_at (kunhide HKID) (kunhide HO).2.2.2.2 i hi
      have hb4 : b < W4.heap.size := Nat.lt_of_lt_of_le hb (kunhide HO).2.2.2.2.size
      rw [hx] at hlies
      have HKM := khide (fun (W' : World) (hW : Below W4.heap.size W4 W') => (show W'.cell? ⟨b, o + i * 9, none⟩ = some (.int .i64 hd2.k) ∧ W'.cell? ⟨b, o + i * 9 + 1, none⟩ = some (.int .u64 (hd2.m : Int)) ∧ W'.cell? ⟨b, o + i * 9 + 2, none⟩ = some (.bool hd2.ng) ∧ W'.cell? ⟨b, o + i * 9 + 3, none⟩ = some (.string hd2.dg) ∧ W'.cell? ⟨b, o + i * 9 + 4, none⟩ = some (.int .i64 hd2.sc) ∧ W'.cell? ⟨b, o + i * 9 + 5, none⟩ = some (.string hd2.tx) ∧ W'.cell? ⟨b, o + i * 9 + 6, none⟩ = some (.slice ka2 kn2 kc2) ∧ W'.cell? ⟨b, o + i * 9 + 7, none⟩ = some (.slice da2 dn2 dc2) ∧ W'.cell? ⟨b, o + i * 9 + 8, none⟩ = some (.int .i64 hd2.cd) from ⟨(hW.cell (p := ⟨b, o + i * 9, none⟩) hb4).trans c0, (hW.cell (p := ⟨b, o + i * 9 + 1, none⟩) hb4).trans c1, (hW.cell (p := ⟨b, o + i * 9 + 2, none⟩) hb4).trans c2, (hW.cell (p := ⟨b, o + i * 9 + 3, none⟩) hb4).trans c3, (hW.cell (p := ⟨b, o + i * 9 + 4, none⟩) hb4).trans c4, (hW.cell (p := ⟨b, o + i * 9 + 5, none⟩) hb4).trans c5, (hW.cell (p := ⟨b, o + i * 9 + 6, none⟩) hb4).trans c6, (hW.cell (p := ⟨b, o + i * 9 + 7, none⟩) hb4).trans c7, (hW.cell (p := ⟨b, o + i * 9 + 8, none⟩) hb4).trans c8⟩))
      have HLK := khide (fun (W : World) (hW : Below W4.heap.size W4 W) => (hlies.any).below hW)
      subst hda
      clear hlies c0 c1 c2 c3 c4 c5 c6 c7 c8
      obtain ⟨x0, x1, x2, x3, x4, x5, x6, x7, x8, y0, y1, y2, y3, y4, y5, y6, y7, y8⟩ := kunhide HSB _ hS
      rcases hk67 with k6 | k7
      · have e1 : (h.k == 6) = true := by rw [k6]; rfl
        have e2 : (h.k == 7) = false := by rw [k6]; rfl
        have e3 : (h.k != 6) = false := by rw [k6]; rfl
        have hsub : wrap64 ((i : Int) - (l.length : Int)) = (i : Int) - (l.length : Int) := by unfold wrap64; omega
        have HA1 := khide (fun (W : World) (hW : Below W4.heap.size W4 W) (z : Int) (hz : z = (i : Int) ∨ z = (i : Int) - (l.length : Int)) => (show Calls Tryd.prog 17 #[(.agg #[.int .i64 h.k, .int .u64 (h.m : Int), .bool h.ng, .string h.dg, .int .i64 h.sc, .string h.tx, .slice ka h.ks.length kc, .slice (some ⟨b, o, none⟩) l.length dc, .int .i64 h.cd]), .int .i64 z] W fun e w' => ∃ v', e = .returned (.tuple #[v', .bool true]) ∧ Lies anyB w' 99 v' (withT h.m x) ∧ Below W.heap.size W w' from by
          have q := at_in anyB 99 i z _ (Tr.mk h l) W (kunhide HL4 W hW) k6 (by show l.length ≤ 1000000; omega) hi hz
          have e : (Tr.kd (Tr.mk h l))[i]'hi = x := hx
          rw [e] at q
          exact q))
        clear k6 hx hmem HKM HLK
        go_wp2_with fail
        refine (kunhide HA1 _ hS (i : Int) (.inl rfl)).mono ?_
        rintro e Wn ⟨v10, rfl, hl10, bn⟩
        obtain ⟨hdA, kaA, knA, kcA, daA, dnA, dcA, rfl⟩ := hl10.shape
        replace hS := hS.trans (bn.mono hS.size)
        clear bn x0 y0 x1 y1 x2 y2 x3 y3 x4 y4 x5 y5 x6 y6 x7 y7 x8 y8
        go_upto_region 8 with fail
        have hal := (Below.refl _ Wn).alloc (Nat.le_refl _) (.cells #[.int .i64 hdA.k, .int .u64 (hdA.m : Int), .bool hdA.ng, .string hdA.dg, .int .i64 hdA.sc, .string hdA.tx, .slice kaA knA kcA, .slice daA dnA dcA, .int .i64 hdA.cd] 33)
        have N10 := Nine.of (Box.new Wn #[.int .i64 hdA.k, .int .u64 (hdA.m : Int), .bool hdA.ng, .string hdA.dg, .int .i64 hdA.sc, .string hdA.tx, .slice kaA knA kcA, .slice daA dnA dcA, .int .i64 hdA.cd] 33)
        have L10 := hl10.below hal
        replace hS := hS.alloc hS.size (.cells #[.int .i64 hdA.k, .int .u64 (hdA.m : Int), .bool hdA.ng, .string hdA.dg, .int .i64 hdA.sc, .string hdA.tx, .slice kaA knA kcA, .slice daA dnA dcA, .int .i64 hdA.cd] 33)
        generalize Wn.alloc (.cells #[.int .i64 hdA.k, .int .u64 (hdA.m : Int), .bool hdA.ng, .string hdA.dg, .int .i64 hdA.sc, .string hdA.tx, .slice kaA knA kcA, .slice daA dnA dcA, .int .i64 hdA.cd] 33) = W5 at hS N10 L10  ⊢
        clear hal hl10
        obtain ⟨x0, x1, x2, x3, x4, x5, x6, x7, x8, y0, y1, y2, y3, y4, y5, y6, y7, y8⟩ := kunhide HSB _ hS
        go_wp2_with fail
        refine (kunhide HA1 _ hS ((i : Int) - (l.length : Int)) (.inr rfl)).mono ?_
        rintro e Wn ⟨v12, rfl, hl12, bn⟩
        obtain ⟨hdB, kaB, knB, kcB, daB, dnB, dcB, rfl⟩ := hl12.shape
        replace N10 := N10.below bn
        replace L10 := L10.below bn
        replace hS := hS.trans (bn.mono hS.size)
        clear bn x0 y0 x1 y1 x2 y2 x3 y3 x4 y4 x5 y5 x6 y6 x7 y7 x8 y8
        go_upto_region 9 with fail
        have hal := (Below.refl _ Wn).alloc (Nat.le_refl _) (.cells #[.int .i64 hdB.k, .int .u64 (hdB.m : Int), .bool hdB.ng, .string hdB.dg, .int .i64 hdB.sc, .string hdB.tx, .slice kaB knB kcB, .slice daB dnB dcB, .int .i64 hdB.cd] 33)
        have N12 := Nine.of (Box.new Wn #[.int .i64 hdB.k, .int .u64 (hdB.m : Int), .bool hdB.ng, .string hdB.dg, .int .i64 hdB.sc, .string hdB.tx, .slice kaB knB kcB, .slice daB dnB dcB, .int .i64 hdB.cd] 33)
        have L12 := hl12.below hal
        replace L10 := L10.below hal
        replace N10 := N10.below hal
        replace hS := hS.alloc hS.size (.cells #[.int .i64 hdB.k, .int .u64 (hdB.m : Int), .bool hdB.ng, .string hdB.dg, .int .i64 hdB.sc, .string hdB.tx, .slice kaB knB kcB, .slice daB dnB dcB, .int .i64 hdB.cd] 33)
        generalize Wn.alloc (.cells #[.int .i64 hdB.k, .int .u64 (hdB.m : Int), .bool hdB.ng, .string hdB.dg, .int .i64 hdB.sc, .string hdB.tx, .slice kaB knB kcB, .slice daB dnB dcB, .int .i64 hdB.cd] 33) = W6 at hS N12 L12 L10 N10 ⊢
        clear hal hl12
        obtain ⟨p0, p1, p2, p3, p4, p5, p6, p7, p8⟩ := N10.all
        obtain ⟨q0, q1, q2, q3, q4, q5, q6, q7, q8⟩ := N12.all
        go_wp2_with fail
        refine (rsame_eq anyB anyB 99 _ _ (withT h.m x) _ L10 L12 (ok_with 99 h.m x okx)).mono ?_
        rintro e Wn ⟨rfl, bn⟩
        replace hS := hS.trans (bn.mono hS.size)
        clear bn p0 p1 p2 p3 p4 p5 p6 p7 p8 q0 q1 q2 q3 q4 q5 q6 q7 q8 L10 L12 N12 N10
        obtain ⟨x0, x1, x2, x3, x4, x5, x6, x7, x8, y0, y1, y2, y3, y4, y5, y6, y7, y8⟩ := kunhide HSB _ hS
        go_wp2_with fail
        go_roundw
        case rel => exact ⟨i + 1, by go_num, hlt, hS⟩
        case measure => simp [intOf]; omega
      · have e1 : (h.k == 6) = false := by rw [k7]; rfl
        have e2 : (h.k == 7) = true := by rw [k7]; rfl
        have e3 : (h.k != 6) = true := by rw [k7]; rfl
        have hgg := (kunhide HO).2.2.2.1.1.2.1 k7
        have hkl : h.ks.length = l.length := hgg.1
        have hik : i < h.ks.length := by omega
        have hik2 : (i : Int) < (h.ks.length : Int) := by omega
        obtain ⟨kb, ko, hka, hkb, kcell⟩ := str_at (kunhide HKS) (kunhide HO).2.2.2.2 i hik
        have hkb4 : kb < W4.heap.size := Nat.lt_of_lt_of_le hkb (kunhide HO).2.2.2.2.size
        obtain ⟨s, hs⟩ : ∃ s, h.ks[i]'hik = s := ⟨_, rfl⟩
        rw [hs] at kcell
        have HKC := khide (fun (W : World) (hW : Below W4.heap.size W4 W) => (hW.cell (p := ⟨kb, ko + i, none⟩) hkb4).trans kcell)
        subst hka
        have HAN := khide (fun (W : World) (hW : Below W4.heap.size W4 W) (z : Int) => (show Calls Tryd.prog 17 #[(.agg #[.int .i64 h.k, .int .u64 (h.m : Int), .bool h.ng, .string h.dg, .int .i64 h.sc, .string h.tx, .slice (some ⟨kb, ko, none⟩) h.ks.length kc, .slice (some ⟨b, o, none⟩) l.length dc, .int .i64 h.cd]), .int .i64 z] W fun e w' => e = .returned (.tuple #[.agg #[.int .i64 0, .int .u64 0, .bool false, .string ⟨#[]⟩, .int .i64 0, .string ⟨#[]⟩, .slice none 0 0, .slice none 0 0, .int .i64 0], .bool false]) ∧ Below W.heap.size W w' from at_no anyB 99 z _ (Tr.mk h l) W (kunhide HL4 W hW) (by show h.k ≠ 6; rw [k7]; decide)))
        have HSZ := khide (fun (W : World) => (show Calls Tryd.prog 19 #[.agg #[.int .i64 0, .int .u64 0, .bool false, .string ⟨#[]⟩, .int .i64 0, .string ⟨#[]⟩, .slice none 0 0, .slice none 0 0, .int .i64 0], .agg #[.int .i64 0, .int .u64 0, .bool false, .string ⟨#[]⟩, .int .i64 0, .string ⟨#[]⟩, .slice none 0 0, .slice none 0 0, .int .i64 0]] W fun e w' => e = .returned (.bool true) ∧ Below W.heap.size W w' from rsame_eq anyB anyB 1 zeroV zeroV (Tr.mk Hd.none []) W (zero_lies anyB 0 W) (zero_lies anyB 0 W) ⟨by simp [Tr.hd_mk, Hd.none], by simp [Tr.kd_mk], fun k hk => absurd hk (by simp [Tr.kd_mk])⟩))
        have HG := khide (fun (W : World) (hW : Below W4.heap.size W4 W) => (show Calls Tryd.prog 15 #[(.agg #[.int .i64 h.k, .int .u64 (h.m : Int), .bool h.ng, .string h.dg, .int .i64 h.sc, .string h.tx, .slice (some ⟨kb, ko, none⟩) h.ks.length kc, .slice (some ⟨b, o, none⟩) l.length dc, .int .i64 h.cd]), .string s] W fun e w' => ∃ v', e = .returned (.tuple #[v', .bool true]) ∧ Lies (fun b => b < W4.heap.size) w' 99 v' (withT h.m x) ∧ Below W.heap.size W w' from by
          have q := get_in (fun b => b < W4.heap.size) 99 i s _ (Tr.mk h l) W (kunhide HL4b W hW) k7 hgg.2.1 hkl (by show l.length ≤ 1000000; omega) hi hs
          have e : (Tr.kd (Tr.mk h l))[i]'hi = x := hx
          rw [e] at q
          exact q))
        clear k7 hgg hkl hik kcell hs hx hmem
        go_wp2_with fail
        refine (kunhide HAN _ hS (i : Int)).mono ?_
        rintro e Wn ⟨rfl, bn⟩
        replace hS := hS.trans (bn.mono hS.size)
        clear bn x0 y0 x1 y1 x2 y2 x3 y3 x4 y4 x5 y5 x6 y6 x7 y7 x8 y8
        go_upto_region 8 with fail
        have hal := (Below.refl _ Wn).alloc (Nat.le_refl _) (.cells #[.int .i64 0, .int .u64 0, .bool false, .string ⟨#[]⟩, .int .i64 0, .string ⟨#[]⟩, .slice none 0 0, .slice none 0 0, .int .i64 0] 33)
        have N10 := Nine.of (Box.new Wn #[.int .i64 0, .int .u64 0, .bool false, .string ⟨#[]⟩, .int .i64 0, .string ⟨#[]⟩, .slice none 0 0, .slice none 0 0, .int .i64 0] 33)
        replace hS := hS.alloc hS.size (.cells #[.int .i64 0, .int .u64 0, .bool false, .string ⟨#[]⟩, .int .i64 0, .string ⟨#[]⟩, .slice none 0 0, .slice none 0 0, .int .i64 0] 33)
        generalize Wn.alloc (.cells #[.int .i64 0, .int .u64 0, .bool false, .string ⟨#[]⟩, .int .i64 0, .string ⟨#[]⟩, .slice none 0 0, .slice none 0 0, .int .i64 0] 33) = W5 at hS N10   ⊢
        clear hal 
        obtain ⟨x0, x1, x2, x3, x4, x5, x6, x7, x8, y0, y1, y2, y3, y4, y5, y6, y7, y8⟩ := kunhide HSB _ hS
        go_wp2_with fail
        refine (kunhide HAN _ hS _).mono ?_
        rintro e Wn ⟨rfl, bn⟩
        replace N10 := N10.below bn
        replace hS := hS.trans (bn.mono hS.size)
        clear bn x0 y0 x1 y1 x2 y2 x3 y3 x4 y4 x5 y5 x6 y6 x7 y7 x8 y8
        go_upto_region 9 with fail
        have hal := (Below.refl _ Wn).alloc (Nat.le_refl _) (.cells #[.int .i64 0, .int .u64 0, .bool false, .string ⟨#[]⟩, .int .i64 0, .string ⟨#[]⟩, .slice none 0 0, .slice none 0 0, .int .i64 0] 33)
        have N12 := Nine.of (Box.new Wn #[.int .i64 0, .int .u64 0, .bool false, .string ⟨#[]⟩, .int .i64 0, .string ⟨#[]⟩, .slice none 0 0, .slice none 0 0, .int .i64 0] 33)
        replace N10 := N10.below hal
        replace hS := hS.alloc hS.size (.cells #[.int .i64 0, .int .u64 0, .bool false, .string ⟨#[]⟩, .int .i64 0, .string ⟨#[]⟩, .slice none 0 0, .slice none 0 0, .int .i64 0] 33)
        generalize Wn.alloc (.cells #[.int .i64 0, .int .u64 0, .bool false, .string ⟨#[]⟩, .int .i64 0, .string ⟨#[]⟩, .slice none 0 0, .slice none 0 0, .int .i64 0] 33) = W6 at hS N12  N10 ⊢
        clear hal 
        obtain ⟨p0, p1, p2, p3, p4, p5, p6, p7, p8⟩ := N10.all
        obtain ⟨q0, q1, q2, q3, q4, q5, q6, q7, q8⟩ := N12.all
        go_wp2_with fail
        refine (kunhide HSZ _).mono ?_
        rintro e wc ⟨rfl, bn⟩
        replace hS := hS.trans (bn.mono hS.size)
        clear bn p0 p1 p2 p3 p4 p5 p6 p7 p8 q0 q1 q2 q3 q4 q5 q6 q7 q8 N12 N10
        obtain ⟨x0, x1, x2, x3, x4, x5, x6, x7, x8, y0, y1, y2, y3, y4, y5, y6, y7, y8⟩ := kunhide HSB _ hS
        have kc1 := kunhide HKC _ hS
        go_upto_region 13 with fail
        have hw4 := hS.size
        go_cut [12, 13] from 81 to 91 (fun p c wx => ∃ (B : Nat) (hdA : Hd) (kaA : Option Addr) (knA kcA : Nat) (daA : Option Addr) (dnA dcA : Nat), p = .pointer (some ⟨B, 0, none⟩) ∧ c = .bool true ∧ Nine wx B #[.int .i64 hdA.k, .int .u64 (hdA.m : Int), .bool hdA.ng, .string hdA.dg, .int .i64 hdA.sc, .string hdA.tx, .slice kaA knA kcA, .slice daA dnA dcA, .int .i64 hdA.cd] ∧ Lies anyB wx 99 (.agg #[.int .i64 hdA.k, .int .u64 (hdA.m : Int), .bool hdA.ng, .string hdA.dg, .int .i64 hdA.sc, .string hdA.tx, .slice kaA knA kcA, .slice daA dnA dcA, .int .i64 hdA.cd]) (withT h.m x) ∧ Below W4.heap.size W4 wx)
        case first =>
          replace hS := hS.drew
          have HSK := khide (fun (W' : World) (hW : Below W4.heap.size W4 W') => (show W'.cell? ⟨W2.heap.size, 0, none⟩ = some (.int .i64 h.k) ∧ W'.cell? ⟨W2.heap.size, 1, none⟩ = some (.int .u64 (h.m : Int)) ∧ W'.cell? ⟨W2.heap.size, 2, none⟩ = some (.bool h.ng) ∧ W'.cell? ⟨W2.heap.size, 3, none⟩ = some (.string h.dg) ∧ W'.cell? ⟨W2.heap.size, 4, none⟩ = some (.int .i64 h.sc) ∧ W'.cell? ⟨W2.heap.size, 5, none⟩ = some (.string h.tx) ∧ W'.cell? ⟨W2.heap.size, 6, none⟩ = some (.slice (some ⟨kb, ko, none⟩) h.ks.length kc) ∧ W'.cell? ⟨W2.heap.size, 7, none⟩ = some (.slice (some ⟨b, o, none⟩) l.length dc) ∧ W'.cell? ⟨W2.heap.size, 8, none⟩ = some (.int .i64 h.cd) ∧ W'.cell? ⟨kb, ko + i, none⟩ = some (.string s) from by
            have p := kunhide HSB _ hW
            exact ⟨p.1, p.2.1, p.2.2.1, p.2.2.2.1, p.2.2.2.2.1, p.2.2.2.2.2.1, p.2.2.2.2.2.2.1, p.2.2.2.2.2.2.2.1, p.2.2.2.2.2.2.2.2.1, kunhide HKC _ hW⟩))
          refine wp_region_held_drew (S := fun W' => Below W4.heap.size W4 W') (by kernel_rfl) ?hS0 (fun hHeld => ?rest0)
          case hS0 => exact hS
          case rest0 =>
          clear hHeld
          refine wpAnyH_take (i := 0) (v := ?v0) rfl (by kernel_rfl) (by kernel_rfl) (by kernel_rfl) (fun _ _ _ h => h) (Or.inl ⟨by rfl, ?hy0⟩) (by first | assumption | exact hS) ?r0
          case hy0 => ((intro w hSw; (try dsimp only at hSw); have hcc := kunhide HSK _ hSw; obtain ⟨z0, z1, z2, z3, z4, z5, z6, z7, z8, z9⟩ := hcc; go_simp) <;> with_reducible rfl)
          case r0 =>
          try simp only [Act.put, List.getElem_toArray, List.getElem_cons_zero, List.getElem_cons_succ, List.setIfInBounds_toArray, List.set_cons_zero, List.set_cons_succ]
          refine wpAnyH_take (i := 1) (v := ?v1) rfl (by kernel_rfl) (by kernel_rfl) (by kernel_rfl) (fun _ _ _ h => h) (Or.inl ⟨by rfl, ?hy1⟩) (by first | assumption | exact hS) ?r1
          case hy1 => ((intro w hSw; (try dsimp only at hSw); have hcc := kunhide HSK _ hSw; obtain ⟨z0, z1, z2, z3, z4, z5, z6, z7, z8, z9⟩ := hcc; go_simp) <;> with_reducible rfl)
          case r1 =>
          try simp only [Act.put, List.getElem_toArray, List.getElem_cons_zero, List.getElem_cons_succ, List.setIfInBounds_toArray, List.set_cons_zero, List.set_cons_succ]
          refine wpAnyH_take (i := 2) (v := ?v2) rfl (by kernel_rfl) (by kernel_rfl) (by kernel_rfl) (fun _ _ _ h => h) (Or.inl ⟨by rfl, ?hy2⟩) (by first | assumption | exact hS) ?r2
          case hy2 => ((intro w hSw; (try dsimp only at hSw); have hcc := kunhide HSK _ hSw; obtain ⟨z0, z1, z2, z3, z4, z5, z6, z7, z8, z9⟩ := hcc; go_simp) <;> with_reducible rfl)
          case r2 =>
          try simp only [Act.put, List.getElem_toArray, List.getElem_cons_zero, List.getElem_cons_succ, List.setIfInBounds_toArray, List.set_cons_zero, List.set_cons_succ]
          refine wpAnyH_take (i := 3) (v := ?v3) rfl (by kernel_rfl) (by kernel_rfl) (by kernel_rfl) (fun _ _ _ h => h) (Or.inl ⟨by rfl, ?hy3⟩) (by first | assumption | exact hS) ?r3
          case hy3 => ((intro w hSw; (try dsimp only at hSw); have hcc := kunhide HSK _ hSw; obtain ⟨z0, z1, z2, z3, z4, z5, z6, z7, z8, z9⟩ := hcc; go_simp) <;> with_reducible rfl)
          case r3 =>
          try simp only [Act.put, List.getElem_toArray, List.getElem_cons_zero, List.getElem_cons_succ, List.setIfInBounds_toArray, List.set_cons_zero, List.set_cons_succ]
          refine wpAnyH_take (i := 4) (v := ?v4) rfl (by kernel_rfl) (by kernel_rfl) (by kernel_rfl) (fun _ _ _ h => h) (Or.inl ⟨by rfl, ?hy4⟩) (by first | assumption | exact hS) ?r4
          case hy4 => ((intro w hSw; (try dsimp only at hSw); have hcc := kunhide HSK _ hSw; obtain ⟨z0, z1, z2, z3, z4, z5, z6, z7, z8, z9⟩ := hcc; go_simp) <;> with_reducible rfl)
          case r4 =>
          try simp only [Act.put, List.getElem_toArray, List.getElem_cons_zero, List.getElem_cons_succ, List.setIfInBounds_toArray, List.set_cons_zero, List.set_cons_succ]
          refine wpAnyH_take (i := 5) (v := ?v5) rfl (by kernel_rfl) (by kernel_rfl) (by kernel_rfl) (fun _ _ _ h => h) (Or.inl ⟨by rfl, ?hy5⟩) (by first | assumption | exact hS) ?r5
          case hy5 => ((intro w hSw; (try dsimp only at hSw); have hcc := kunhide HSK _ hSw; obtain ⟨z0, z1, z2, z3, z4, z5, z6, z7, z8, z9⟩ := hcc; go_simp) <;> with_reducible rfl)
          case r5 =>
          try simp only [Act.put, List.getElem_toArray, List.getElem_cons_zero, List.getElem_cons_succ, List.setIfInBounds_toArray, List.set_cons_zero, List.set_cons_succ]
          refine wpAnyH_ready (rs := [6, 10]) (by kernel_rfl) (by simp) ?_
          refine AllReadyH.cons rfl (fun K hK => ?g6) (AllReadyH.cons rfl (fun K hK => ?g10) (AllReadyH.nil))
          case g6 =>
            go_simp
            go_at_call 15
            refine (kunhide HG _ hS).mono ?_
            rintro e Wn ⟨v10, rfl, hl10, bn⟩
            obtain ⟨hdA, kaA, knA, kcA, daA, dnA, dcA, rfl⟩ := hl10.shape
            have HL10 := khide hl10
            replace hS := hS.trans (bn.mono hS.size)
            clear hl10 bn
            refine hK.out _ _ hS (fun hHeld2 => ?ra)
            case ra =>
            clear hK K hHeld2
            try simp only [Act.put, List.getElem_toArray, List.getElem_cons_zero, List.getElem_cons_succ, List.setIfInBounds_toArray, List.set_cons_zero, List.set_cons_succ]
            refine wpAnyH_take (i := 7) (v := ?v7a) rfl (by kernel_rfl) (by kernel_rfl) (by kernel_rfl) (fun _ _ _ h => h) (Or.inl ⟨by rfl, ?hy7a⟩) (by first | assumption | exact hS) ?r7a
            case hy7a => ((intro w hSw; (try dsimp only at hSw); have hcc := kunhide HSK _ hSw; obtain ⟨z0, z1, z2, z3, z4, z5, z6, z7, z8, z9⟩ := hcc; go_simp) <;> with_reducible rfl)
            case r7a =>
            try simp only [Act.put, List.getElem_toArray, List.getElem_cons_zero, List.getElem_cons_succ, List.setIfInBounds_toArray, List.set_cons_zero, List.set_cons_succ]
            refine wpAnyH_take (i := 8) (v := ?v8a) rfl (by kernel_rfl) (by kernel_rfl) (by kernel_rfl) (fun _ _ _ h => h) (Or.inl ⟨by rfl, ?hy8a⟩) (by first | assumption | exact hS) ?r8a
            case hy8a => ((intro w hSw; (try dsimp only at hSw); have hcc := kunhide HSK _ hSw; obtain ⟨z0, z1, z2, z3, z4, z5, z6, z7, z8, z9⟩ := hcc; go_simp) <;> with_reducible rfl)
            case r8a =>
            try simp only [Act.put, List.getElem_toArray, List.getElem_cons_zero, List.getElem_cons_succ, List.setIfInBounds_toArray, List.set_cons_zero, List.set_cons_succ]
            refine wpAnyH_take (i := 9) (v := ?v9a) rfl (by kernel_rfl) (by kernel_rfl) (by kernel_rfl) (fun _ _ _ h => h) (Or.inl ⟨by rfl, ?hy9a⟩) (by first | assumption | exact hS) ?r9a
            case hy9a => ((intro w hSw; (try dsimp only at hSw); have hcc := kunhide HSK _ hSw; obtain ⟨z0, z1, z2, z3, z4, z5, z6, z7, z8, z9⟩ := hcc; go_simp) <;> with_reducible rfl)
            case r9a =>
            try simp only [Act.put, List.getElem_toArray, List.getElem_cons_zero, List.getElem_cons_succ, List.setIfInBounds_toArray, List.set_cons_zero, List.set_cons_succ]
            refine wpAnyH_ready (rs := [10]) (by kernel_rfl) (by simp) ?_
            refine AllReadyH.cons rfl (fun K hK => ?g10a) (AllReadyH.nil)
            case g10a =>
            go_simp
            have hwn := hS.size
            refine hK.out _ _ (hS.alloc hwn _) (fun hHeld2 => ?rb)
            case rb =>
            clear hK K
            try simp only [Act.put, List.getElem_toArray, List.getElem_cons_zero, List.getElem_cons_succ, List.setIfInBounds_toArray, List.set_cons_zero, List.set_cons_succ]
            refine wpAnyH_ready (rs := [11]) (by kernel_rfl) (by simp) ?_
            refine AllReadyH.cons rfl (fun K hK => ?g11a) (AllReadyH.nil)
            case g11a =>
            go_simp
            refine hK.out _ _ ?hq (fun hHeld3 => ?rc)
            case hq => first | with_reducible exact hS.alloc hwn _ | with_reducible exact ((((((((((hS.alloc hwn _).setCell (p := ⟨Wn.heap.size, 0, none⟩) hwn _).setCell (p := ⟨Wn.heap.size, 1, none⟩) hwn _).setCell (p := ⟨Wn.heap.size, 2, none⟩) hwn _).setCell (p := ⟨Wn.heap.size, 3, none⟩) hwn _).setCell (p := ⟨Wn.heap.size, 4, none⟩) hwn _).setCell (p := ⟨Wn.heap.size, 5, none⟩) hwn _).setCell (p := ⟨Wn.heap.size, 6, none⟩) hwn _).setCell (p := ⟨Wn.heap.size, 7, none⟩) hwn _).setCell (p := ⟨Wn.heap.size, 8, none⟩) hwn _)
            case rc =>
            clear hK K hHeld2
            try simp only [Act.put, List.getElem_toArray, List.getElem_cons_zero, List.getElem_cons_succ, List.setIfInBounds_toArray, List.set_cons_zero, List.set_cons_succ]
            refine wpAnyH_take (i := 12) (v := ?v12a) rfl (by kernel_rfl) (by kernel_rfl) (by kernel_rfl) (fun _ _ _ h => h) (Or.inl ⟨by rfl, ?hy12a⟩) (by assumption) ?r12a
            case hy12a => ((intro w hSw; go_simp) <;> with_reducible rfl)
            case r12a =>
            try simp only [Act.put, List.getElem_toArray, List.getElem_cons_zero, List.getElem_cons_succ, List.setIfInBounds_toArray, List.set_cons_zero, List.set_cons_succ]
            refine wpAnyH_done (by kernel_rfl) ?_ _
            clear hHeld3
            go_wp2_with fail
            go_meet
            case rel => exact ⟨Wn.heap.size, hdA, kaA, knA, kcA, daA, dnA, dcA, rfl, rfl, Nine.of (Box.new _ _ _), ((kunhide HL10).any).below ((Below.refl _ _).alloc (Nat.le_refl _) _), hS.alloc hS.size _⟩
          case g10 =>
            go_simp
            refine hK.out _ _ (hS.alloc hS.size _) (fun hHeld2 => ?rbb)
            case rbb =>
            clear hK K
            try simp only [Act.put, List.getElem_toArray, List.getElem_cons_zero, List.getElem_cons_succ, List.setIfInBounds_toArray, List.set_cons_zero, List.set_cons_succ]
            refine wpAnyH_ready (rs := [6]) (by kernel_rfl) (by simp) ?_
            refine AllReadyH.cons rfl (fun K hK => ?g6b) (AllReadyH.nil)
            case g6b =>
            go_simp
            go_at_call 15
            refine (kunhide HG _ hHeld2).mono ?_
            rintro e Wn ⟨v10, rfl, hl10, bn⟩
            obtain ⟨hdA, kaA, knA, kcA, daA, dnA, dcA, rfl⟩ := hl10.shape
            have HL10 := khide hl10
            obtain ⟨bx, bf, bz⟩ := (show Box Wn wc.heap.size #[.int .i64 0, .int .u64 0, .bool false, .string ⟨#[]⟩, .int .i64 0, .string ⟨#[]⟩, .slice none 0 0, .slice none 0 0, .int .i64 0] from (Box.new wc.drew #[.int .i64 0, .int .u64 0, .bool false, .string ⟨#[]⟩, .int .i64 0, .string ⟨#[]⟩, .slice none 0 0, .slice none 0 0, .int .i64 0] 33).kept (ok := anyB) (Kept.of_below bn) trivial)
            have HBX := khide bx
            replace hS : Below W4.heap.size W4 Wn := hHeld2.trans (bn.mono hHeld2.size)
            clear hl10 bn hHeld2
            refine hK.out _ _ hS (fun hHeld2 => ?rab)
            case rab =>
            clear hK K hHeld2
            try simp only [Act.put, List.getElem_toArray, List.getElem_cons_zero, List.getElem_cons_succ, List.setIfInBounds_toArray, List.set_cons_zero, List.set_cons_succ]
            refine wpAnyH_take (i := 7) (v := ?v7b) rfl (by kernel_rfl) (by kernel_rfl) (by kernel_rfl) (fun _ _ _ h => h) (Or.inl ⟨by rfl, ?hy7b⟩) (by first | assumption | exact hS) ?r7b
            case hy7b => ((intro w hSw; (try dsimp only at hSw); have hcc := kunhide HSK _ hSw; obtain ⟨z0, z1, z2, z3, z4, z5, z6, z7, z8, z9⟩ := hcc; go_simp) <;> with_reducible rfl)
            case r7b =>
            try simp only [Act.put, List.getElem_toArray, List.getElem_cons_zero, List.getElem_cons_succ, List.setIfInBounds_toArray, List.set_cons_zero, List.set_cons_succ]
            refine wpAnyH_take (i := 8) (v := ?v8b) rfl (by kernel_rfl) (by kernel_rfl) (by kernel_rfl) (fun _ _ _ h => h) (Or.inl ⟨by rfl, ?hy8b⟩) (by first | assumption | exact hS) ?r8b
            case hy8b => ((intro w hSw; (try dsimp only at hSw); have hcc := kunhide HSK _ hSw; obtain ⟨z0, z1, z2, z3, z4, z5, z6, z7, z8, z9⟩ := hcc; go_simp) <;> with_reducible rfl)
            case r8b =>
            try simp only [Act.put, List.getElem_toArray, List.getElem_cons_zero, List.getElem_cons_succ, List.setIfInBounds_toArray, List.set_cons_zero, List.set_cons_succ]
            refine wpAnyH_take (i := 9) (v := ?v9b) rfl (by kernel_rfl) (by kernel_rfl) (by kernel_rfl) (fun _ _ _ h => h) (Or.inl ⟨by rfl, ?hy9b⟩) (by first | assumption | exact hS) ?r9b
            case hy9b => ((intro w hSw; (try dsimp only at hSw); have hcc := kunhide HSK _ hSw; obtain ⟨z0, z1, z2, z3, z4, z5, z6, z7, z8, z9⟩ := hcc; go_simp) <;> with_reducible rfl)
            case r9b =>
            try simp only [Act.put, List.getElem_toArray, List.getElem_cons_zero, List.getElem_cons_succ, List.setIfInBounds_toArray, List.set_cons_zero, List.set_cons_succ]
            refine wpAnyH_ready (rs := [11]) (by kernel_rfl) (by simp) ?_
            refine AllReadyH.cons rfl (fun K hK => ?g11b) (AllReadyH.nil)
            case g11b =>
            go_simp
            refine hK.out _ _ ?hq (fun hHeld3 => ?rcb)
            case hq => with_reducible exact (((((((((hS.setCell (p := ⟨wc.heap.size, 0, none⟩) hw4 _).setCell (p := ⟨wc.heap.size, 1, none⟩) hw4 _).setCell (p := ⟨wc.heap.size, 2, none⟩) hw4 _).setCell (p := ⟨wc.heap.size, 3, none⟩) hw4 _).setCell (p := ⟨wc.heap.size, 4, none⟩) hw4 _).setCell (p := ⟨wc.heap.size, 5, none⟩) hw4 _).setCell (p := ⟨wc.heap.size, 6, none⟩) hw4 _).setCell (p := ⟨wc.heap.size, 7, none⟩) hw4 _).setCell (p := ⟨wc.heap.size, 8, none⟩) hw4 _)
            case rcb =>
            clear hK K
            try simp only [Act.put, List.getElem_toArray, List.getElem_cons_zero, List.getElem_cons_succ, List.setIfInBounds_toArray, List.set_cons_zero, List.set_cons_succ]
            refine wpAnyH_take (i := 12) (v := ?v12b) rfl (by kernel_rfl) (by kernel_rfl) (by kernel_rfl) (fun _ _ _ h => h) (Or.inl ⟨by rfl, ?hy12b⟩) (by assumption) ?r12b
            case hy12b => ((intro w hSw; go_simp) <;> with_reducible rfl)
            case r12b =>
            try simp only [Act.put, List.getElem_toArray, List.getElem_cons_zero, List.getElem_cons_succ, List.setIfInBounds_toArray, List.set_cons_zero, List.set_cons_succ]
            refine wpAnyH_done (by kernel_rfl) ?_ _
            clear hHeld3
            go_wp2_with fail
            go_meet
            case rel => exact ⟨wc.heap.size, hdA, kaA, knA, kcA, daA, dnA, dcA, rfl, rfl, nine_store _ _ _ _ _ _ _ _ _ (fun r hr => by rw [kunhide HBX r, Array.getElem?_eq_getElem (by simpa using hr)]; rfl) bz, (((kunhide HL10).keep (setCells_kept (ok := fun b => b < W4.heap.size) Wn wc.heap.size 0 [.int .i64 hdA.k, .int .u64 (hdA.m : Int), .bool hdA.ng, .string hdA.dg, .int .i64 hdA.sc, .string hdA.tx, .slice kaA knA kcA, .slice daA dnA dcA, .int .i64 hdA.cd] (fun b hb e => by omega)) (fun _ _ q => q)).any), setCells_below hS hw4 0 [.int .i64 hdA.k, .int .u64 (hdA.m : Int), .bool hdA.ng, .string hdA.dg, .int .i64 hdA.sc, .string hdA.tx, .slice kaA knA kcA, .slice daA dnA dcA, .int .i64 hdA.cd]⟩
        case rest =>
          obtain ⟨B, hdA, kaA, knA, kcA, daA, dnA, dcA, rfl, rfl, N15, L15, hS⟩ := hcut
          have HL12 := khide (fun (W : World) (hW : Below wc.heap.size wc W) => L15.below hW)
          have HWR := khide (fun (W : World) (hW : Below wc.heap.size wc W) => (show Calls Tryd.prog 32 #[.agg #[.int .i64 hd2.k, .int .u64 (hd2.m : Int), .bool hd2.ng, .string hd2.dg, .int .i64 hd2.sc, .string hd2.tx, .slice ka2 kn2 kc2, .slice da2 dn2 dc2, .int .i64 hd2.cd], .int .u64 (h.m : Int)] W fun e w' => ∃ v', e = .returned v' ∧ Lies anyB w' 99 v' (withT h.m x) ∧ Below W.heap.size W w' from rwith_any anyB 99 _ x h.m W (kunhide HLK W (hS.trans (hW.mono hS.size))) hm64))
          have HSC := khide (fun (W' : World) (hW : Below wc.heap.size wc W') => (show W'.cell? ⟨W2.heap.size, 0, none⟩ = some (.int .i64 h.k) ∧ W'.cell? ⟨W2.heap.size, 1, none⟩ = some (.int .u64 (h.m : Int)) ∧ W'.cell? ⟨W2.heap.size, 2, none⟩ = some (.bool h.ng) ∧ W'.cell? ⟨W2.heap.size, 3, none⟩ = some (.string h.dg) ∧ W'.cell? ⟨W2.heap.size, 4, none⟩ = some (.int .i64 h.sc) ∧ W'.cell? ⟨W2.heap.size, 5, none⟩ = some (.string h.tx) ∧ W'.cell? ⟨W2.heap.size, 6, none⟩ = some (.slice (some ⟨kb, ko, none⟩) h.ks.length kc) ∧ W'.cell? ⟨W2.heap.size, 7, none⟩ = some (.slice (some ⟨b, o, none⟩) l.length dc) ∧ W'.cell? ⟨W2.heap.size, 8, none⟩ = some (.int .i64 h.cd) ∧ W'.cell? ⟨B, 0, none⟩ = some (.int .i64 hdA.k) ∧ W'.cell? ⟨B, 1, none⟩ = some (.int .u64 (hdA.m : Int)) ∧ W'.cell? ⟨B, 2, none⟩ = some (.bool hdA.ng) ∧ W'.cell? ⟨B, 3, none⟩ = some (.string hdA.dg) ∧ W'.cell? ⟨B, 4, none⟩ = some (.int .i64 hdA.sc) ∧ W'.cell? ⟨B, 5, none⟩ = some (.string hdA.tx) ∧ W'.cell? ⟨B, 6, none⟩ = some (.slice kaA knA kcA) ∧ W'.cell? ⟨B, 7, none⟩ = some (.slice daA dnA dcA) ∧ W'.cell? ⟨B, 8, none⟩ = some (.int .i64 hdA.cd) ∧ W'.cell? ⟨b, o + i * 9, none⟩ = some (.int .i64 hd2.k) ∧ W'.cell? ⟨b, o + i * 9 + 1, none⟩ = some (.int .u64 (hd2.m : Int)) ∧ W'.cell? ⟨b, o + i * 9 + 2, none⟩ = some (.bool hd2.ng) ∧ W'.cell? ⟨b, o + i * 9 + 3, none⟩ = some (.string hd2.dg) ∧ W'.cell? ⟨b, o + i * 9 + 4, none⟩ = some (.int .i64 hd2.sc) ∧ W'.cell? ⟨b, o + i * 9 + 5, none⟩ = some (.string hd2.tx) ∧ W'.cell? ⟨b, o + i * 9 + 6, none⟩ = some (.slice ka2 kn2 kc2) ∧ W'.cell? ⟨b, o + i * 9 + 7, none⟩ = some (.slice da2 dn2 dc2) ∧ W'.cell? ⟨b, o + i * 9 + 8, none⟩ = some (.int .i64 hd2.cd) from by
            have p := kunhide HSB _ (hS.trans (hW.mono hS.size))
            have q := (N15.below hW).all
            have r := kunhide HKM _ (hS.trans (hW.mono hS.size))
            exact ⟨p.1, p.2.1, p.2.2.1, p.2.2.2.1, p.2.2.2.2.1, p.2.2.2.2.2.1, p.2.2.2.2.2.2.1, p.2.2.2.2.2.2.2.1, p.2.2.2.2.2.2.2.2.1, q.1, q.2.1, q.2.2.1, q.2.2.2.1, q.2.2.2.2.1, q.2.2.2.2.2.1, q.2.2.2.2.2.2.1, q.2.2.2.2.2.2.2.1, q.2.2.2.2.2.2.2.2, r⟩))
          have hT : Below wc.heap.size wc wc := Below.refl _ _
          clear N15 L15 HG HKC HKM HLK
          go_upto_region 14 with fail
          replace hT := hT.drew
          go_region_held3 (fun W' => W'.cell? ⟨W2.heap.size, 0, none⟩ = some (.int .i64 h.k) ∧ W'.cell? ⟨W2.heap.size, 1, none⟩ = some (.int .u64 (h.m : Int)) ∧ W'.cell? ⟨W2.heap.size, 2, none⟩ = some (.bool h.ng) ∧ W'.cell? ⟨W2.heap.size, 3, none⟩ = some (.string h.dg) ∧ W'.cell? ⟨W2.heap.size, 4, none⟩ = some (.int .i64 h.sc) ∧ W'.cell? ⟨W2.heap.size, 5, none⟩ = some (.string h.tx) ∧ W'.cell? ⟨W2.heap.size, 6, none⟩ = some (.slice (some ⟨kb, ko, none⟩) h.ks.length kc) ∧ W'.cell? ⟨W2.heap.size, 7, none⟩ = some (.slice (some ⟨b, o, none⟩) l.length dc) ∧ W'.cell? ⟨W2.heap.size, 8, none⟩ = some (.int .i64 h.cd) ∧ W'.cell? ⟨B, 0, none⟩ = some (.int .i64 hdA.k) ∧ W'.cell? ⟨B, 1, none⟩ = some (.int .u64 (hdA.m : Int)) ∧ W'.cell? ⟨B, 2, none⟩ = some (.bool hdA.ng) ∧ W'.cell? ⟨B, 3, none⟩ = some (.string hdA.dg) ∧ W'.cell? ⟨B, 4, none⟩ = some (.int .i64 hdA.sc) ∧ W'.cell? ⟨B, 5, none⟩ = some (.string hdA.tx) ∧ W'.cell? ⟨B, 6, none⟩ = some (.slice kaA knA kcA) ∧ W'.cell? ⟨B, 7, none⟩ = some (.slice daA dnA dcA) ∧ W'.cell? ⟨B, 8, none⟩ = some (.int .i64 hdA.cd) ∧ W'.cell? ⟨b, o + i * 9, none⟩ = some (.int .i64 hd2.k) ∧ W'.cell? ⟨b, o + i * 9 + 1, none⟩ = some (.int .u64 (hd2.m : Int)) ∧ W'.cell? ⟨b, o + i * 9 + 2, none⟩ = some (.bool hd2.ng) ∧ W'.cell? ⟨b, o + i * 9 + 3, none⟩ = some (.string hd2.dg) ∧ W'.cell? ⟨b, o + i * 9 + 4, none⟩ = some (.int .i64 hd2.sc) ∧ W'.cell? ⟨b, o + i * 9 + 5, none⟩ = some (.string hd2.tx) ∧ W'.cell? ⟨b, o + i * 9 + 6, none⟩ = some (.slice ka2 kn2 kc2) ∧ W'.cell? ⟨b, o + i * 9 + 7, none⟩ = some (.slice da2 dn2 dc2) ∧ W'.cell? ⟨b, o + i * 9 + 8, none⟩ = some (.int .i64 hd2.cd)) (exact kunhide HSC _ hT) (first | (go_at_call 32; refine (kunhide HWR _ hT).mono ?_; rintro e Wn ⟨v14, rfl, hl14, bn⟩; obtain ⟨hdB, kaB, knB, kcB, daB, dnB, dcB, rfl⟩ := hl14.shape; replace hT := hT.trans (bn.mono hT.size); clear bn) | (go_at_call 19; refine (rsame_eq anyB anyB 99 _ _ (withT h.m x) _ (kunhide HL12 _ hT) hl14 (ok_with 99 h.m x okx)).mono ?_; rintro e Wn ⟨rfl, bn⟩; replace hT := hT.trans (bn.mono hT.size); clear bn))
          all_goals
            replace hS := hS.trans (hT.mono hS.size)
            clear hT
            go_wp2_with fail
            go_roundw
            case rel => exact ⟨i + 1, by go_num, hlt, hS⟩
            case measure => simp [intOf]; omega
    · obtain rfl : i = l.length := by omega
      have hnl : ¬ (l.length : Int) < (l.length : Int) := by omega
      obtain ⟨x0, x1, x2, x3, x4, x5, x6, x7, x8, y0, y1, y2, y3, y4, y5, y6, y7, y8⟩ := kunhide HSB _ hS
      have HAO := khide (fun (W : World) (hW : Below W4.heap.size W4 W) (z : Int) (h64 : -9223372036854775808 ≤ z) (hz : (l.length : Int) ≤ z ∨ z < -(l.length : Int)) => (show Calls Tryd.prog 17 #[(.agg #[.int .i64 h.k, .int .u64 (h.m : Int), .bool h.ng, .string h.dg, .int .i64 h.sc, .string h.tx, .slice ka h.ks.length kc, .slice da l.length dc, .int .i64 h.cd]), .int .i64 z] W fun e w' => e = .returned (.tuple #[.agg #[.int .i64 0, .int .u64 0, .bool false, .string ⟨#[]⟩, .int .i64 0, .string ⟨#[]⟩, .slice none 0 0, .slice none 0 0, .int .i64 0], .bool false]) ∧ Below W.heap.size W w' from by
        by_cases k6 : h.k = 6
        · exact at_out anyB 99 z _ (Tr.mk h l) W (kunhide HL4 W hW) k6 (by show l.length ≤ 1000000; omega) h64 hz
        · exact at_no anyB 99 z _ (Tr.mk h l) W (kunhide HL4 W hW) k6))
      go_wp2_with fail
      refine (kunhide HAO _ hS (l.length : Int) (by omega) (.inl (by omega))).mono ?_
      rintro e Wn ⟨rfl, bn⟩
      replace hS := hS.trans (bn.mono hS.size)
      clear bn x0 y0 x1 y1 x2 y2 x3 y3 x4 y4 x5 y5 x6 y6 x7 y7 x8 y8
      go_upto_region 18 with fail
      have hal := (Below.refl _ Wn).alloc (Nat.le_refl _) (.cells #[.int .i64 0, .int .u64 0, .bool false, .string ⟨#[]⟩, .int .i64 0, .string ⟨#[]⟩, .slice none 0 0, .slice none 0 0, .int .i64 0] 33)
      have N10 := Nine.of (Box.new Wn #[.int .i64 0, .int .u64 0, .bool false, .string ⟨#[]⟩, .int .i64 0, .string ⟨#[]⟩, .slice none 0 0, .slice none 0 0, .int .i64 0] 33)
      replace hS := hS.alloc hS.size (.cells #[.int .i64 0, .int .u64 0, .bool false, .string ⟨#[]⟩, .int .i64 0, .string ⟨#[]⟩, .slice none 0 0, .slice none 0 0, .int .i64 0] 33)
      generalize Wn.alloc (.cells #[.int .i64 0, .int .u64 0, .bool false, .string ⟨#[]⟩, .int .i64 0, .string ⟨#[]⟩, .slice none 0 0, .slice none 0 0, .int .i64 0] 33) = W5 at hS N10   ⊢
      clear hal 
      clear N10
      obtain ⟨x0, x1, x2, x3, x4, x5, x6, x7, x8, y0, y1, y2, y3, y4, y5, y6, y7, y8⟩ := kunhide HSB _ hS
      go_wp2_with fail
      refine (kunhide HAO _ hS (-(l.length : Int) - 1) (by omega) (.inr (by omega))).mono ?_
      rintro e Wn ⟨rfl, bn⟩
      replace hS := hS.trans (bn.mono hS.size)
      clear bn x0 y0 x1 y1 x2 y2 x3 y3 x4 y4 x5 y5 x6 y6 x7 y7 x8 y8
      go_upto_region 19 with fail
      have hal := (Below.refl _ Wn).alloc (Nat.le_refl _) (.cells #[.int .i64 0, .int .u64 0, .bool false, .string ⟨#[]⟩, .int .i64 0, .string ⟨#[]⟩, .slice none 0 0, .slice none 0 0, .int .i64 0] 33)
      have N10 := Nine.of (Box.new Wn #[.int .i64 0, .int .u64 0, .bool false, .string ⟨#[]⟩, .int .i64 0, .string ⟨#[]⟩, .slice none 0 0, .slice none 0 0, .int .i64 0] 33)
      replace hS := hS.alloc hS.size (.cells #[.int .i64 0, .int .u64 0, .bool false, .string ⟨#[]⟩, .int .i64 0, .string ⟨#[]⟩, .slice none 0 0, .slice none 0 0, .int .i64 0] 33)
      generalize Wn.alloc (.cells #[.int .i64 0, .int .u64 0, .bool false, .string ⟨#[]⟩, .int .i64 0, .string ⟨#[]⟩, .slice none 0 0, .slice none 0 0, .int .i64 0] 33) = W6 at hS N10   ⊢
      clear hal 
      clear N10
      obtain ⟨x0, x1, x2, x3, x4, x5, x6, x7, x8, y0, y1, y2, y3, y4, y5, y6, y7, y8⟩ := kunhide HSB _ hS
      go_wp2_with fail
      refine (clone_free 100 _ _ _ (kunhide HL4 _ hS) (kunhide HO).1).mono ?_
      rintro e Wn ⟨v19, rfl, hl19, bn, hfr⟩
      obtain ⟨h', l', ka', kc', da', dc', e', rfl, _, _, _, _, hkid'⟩ := hl19.node
      obtain ⟨rfl, rfl⟩ := Tr.mk_inj e'
      have hmr := mask_row hkid' hfr hS.size
      replace hS := hS.trans (bn.mono hS.size)
      clear bn hl19 hkid' hfr e' x0 y0 x1 y1 x2 y2 x3 y3 x4 y4 x5 y5 x6 y6 x7 y7 x8 y8
      have d7 : (Wn.alloc (.cells #[.int .i64 h.k, .int .u64 (h.m : Int), .bool h.ng, .string h.dg, .int .i64 h.sc, .string h.tx, .slice ka' h.ks.length kc', .slice da' l.length dc', .int .i64 h.cd] 33)).cell? ⟨Wn.heap.size, 7, none⟩ = some (.slice da' l.length dc') := World.cell?_alloc_at _ _ _ _ rfl
      replace hmr := hmr.alloc (Nat.le_refl _) (.cells #[.int .i64 h.k, .int .u64 (h.m : Int), .bool h.ng, .string h.dg, .int .i64 h.sc, .string h.tx, .slice ka' h.ks.length kc', .slice da' l.length dc', .int .i64 h.cd] 33)
      replace hS := hS.alloc hS.size (.cells #[.int .i64 h.k, .int .u64 (h.m : Int), .bool h.ng, .string h.dg, .int .i64 h.sc, .string h.tx, .slice ka' h.ks.length kc', .slice da' l.length dc', .int .i64 h.cd] 33)
      go_upto_region 20 with fail
      obtain ⟨BD, hBD⟩ : ∃ BD, Wn.heap.size = BD := ⟨_, rfl⟩
      rw [hBD] at hmr d7 ⊢
      generalize Wn.alloc (.cells #[.int .i64 h.k, .int .u64 (h.m : Int), .bool h.ng, .string h.dg, .int .i64 h.sc, .string h.tx, .slice ka' h.ks.length kc', .slice da' l.length dc', .int .i64 h.cd] 33) = W7 at hS hmr d7 ⊢
      clear hBD
      have HMR := khide hmr
      have D7 := khide d7
      have HS7 := khide hS
      clear hmr d7 hS
      go_wp2_with fail
      go_loopw [20] (fun i wr => ∃ k : Nat, i = .int .i64 (k : Int) ∧ k ≤ l.length ∧ Below W4.heap.size W4 wr ∧ wr.cell? ⟨BD, 7, none⟩ = some (.slice da' l.length dc') ∧ Hid (MaskRow W4.heap.size BD da' l.length wr)) (fun i _ => l.length - (intOf i).toNat)
      case atStart => exact ⟨0, rfl, Nat.zero_le _, kunhide HS7, kunhide D7, HMR⟩
      case round =>
        obtain ⟨k, rfl, hk9, hS, d7, HR⟩ := hrel
        by_cases hlt : k < l.length
        · obtain ⟨b, o, q, hda, hb1, hb2, hcq, hfz⟩ := kunhide HR k hlt
          subst hda
          have hkl : (k : Int) < (l.length : Int) := by omega
          have HB1 := khide (And.intro hb1 hb2)
          have HD7 := khide d7
          have HSS := khide hS
          clear hb1 hb2 hS HS7 HMR D7
          go_wp2_with fail
          go_region_with fail
          all_goals
            go_wp2_with fail
            go_roundw
            case rel =>
              refine ⟨k + 1, by go_num, hlt, ?_, ?_, ?_⟩
              · first | exact (kunhide HSS).setCell (p := ⟨b, o + k * 9 + 1, none⟩) (kunhide HB1).1 _ | exact (kunhide HSS).drew.setCell (p := ⟨b, o + k * 9 + 1, none⟩) (kunhide HB1).1 _
              · refine Eq.trans (show World.cell? _ _ = World.cell? (wr.setCell ⟨b, o + k * 9 + 1, none⟩ (.int .u64 (IntKind.u64.wrap (q + 1)))) ⟨BD, 7, none⟩ from rfl) ?_
                rw [World.cell?_setCell_other _ _ _ _ (fun e => by have := (Addr.mk.inj e).1; have := (kunhide HB1).2; omega)]
                exact kunhide HD7
              · exact MaskRow.set _ (kunhide HR)
            case measure => simp [intOf]; omega
        · obtain rfl : k = l.length := by omega
          obtain ⟨x0, x1, x2, x3, x4, x5, x6, x7, x8, y0, y1, y2, y3, y4, y5, y6, y7, y8⟩ := kunhide HSB _ hS
          go_wp2_with fail
          refine (tsame_eq anyB anyB 100 _ _ (Tr.mk h l) _ (kunhide HL5 _ hS) (kunhide HL4 _ hS) (kunhide HO).1).mono ?_
          rintro e Wn ⟨rfl, bn⟩
          replace hS := hS.trans (bn.mono hS.size)
          clear bn x0 y0 x1 y1 x2 y2 x3 y3 x4 y4 x5 y5 x6 y6 x7 y7 x8 y8 d7
          go_wp2_with fail
          go_ret
          exact ⟨rfl, (kunhide HO).2.2.1.trans (hS.mono (kunhide HO).2.2.1.size)⟩
end Go.Proofs.YtigpfbfkdccdaaaDoor
