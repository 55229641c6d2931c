/- What is proved here: shown of the laws of layer 8 (the document's example), walked; conditions: the tables and the two errors lie. Written by vj_gen.py. -/
import Derived.Test.YtnagecbepidfiaaGreatDoorVi
namespace Go.Proofs.YtnagecbepidfiaaGreatDoor.Pol
set_option maxRecDepth 100000
open Go.RowKit Go.Proofs.YtnagecbepidfiaaGreatDoor.Nc Go.Proofs.YtnagecbepidfiaaGreatDoor.Np Go.Proofs.YtnagecbepidfiaaGreatDoor.Nq
set_option linter.unusedVariables false
set_option linter.unusedSimpArgs false

def pShown : Po := ⟨[[97], [98]], [⟨[⟨1, ⟨#[107]⟩, 0⟩], 2⟩], [35], 9, 3⟩
theorem shown_may : mayP pShown = 0 := by decide +kernel
theorem shown_text : printT ptL pShown = (⟨#[99, 97, 116, 115, 32, 97, 32, 98, 10, 109, 97, 114, 107, 32, 98, 32, 36, 46, 107, 10, 116, 111, 107, 101, 110, 32, 34, 35, 34, 10, 102, 117, 101, 108, 32, 57, 10, 113, 117, 111, 116, 97, 32, 51, 10]⟩ : ByteArray).data.toList := by decide +kernel
set_option maxHeartbeats 4000000 in
theorem shown8 (w : World) (hT : Tabs w) (hP : Pow w) (hE : Errs w) : Calls Tryz.prog 9 #[] w fun e w' => e = .returned (.bool true) ∧ Below w.heap.size w w' := by
  have C := fun W hT hP hE => parse_any ⟨#[99, 97, 116, 115, 32, 97, 32, 98, 10, 109, 97, 114, 107, 32, 98, 32, 36, 46, 107, 10, 116, 111, 107, 101, 110, 32, 34, 35, 34, 10, 102, 117, 101, 108, 32, 57, 10, 113, 117, 111, 116, 97, 32, 51, 10]⟩ (by decide) W hT hP hE
  go_enter Tryz.func9, Tryz.ntmps9
  go_wp2_with fail
  refine (C _ hT hP hE).mono ?_
  rintro e w2 ⟨b2, hA⟩
  clear C hT hP hE
  rcases hA with ⟨v, p, rfl, hI, -, -, hu⟩ | ⟨rfl, hbad⟩
  · have hp := hu pShown (ok_of shown_may) shown_text
    subst hp
    clear hu
    obtain ⟨a, n, c, b, m, d, tok, rfl, htok, hC, hM⟩ := hI
    have hn : n = 2 := hC.1.symm
    have hm : m = 1 := hM.1.symm
    subst hn
    subst hm
    have ht : tok = ⟨#[35]⟩ := bytes_ext htok
    subst ht
    obtain ⟨g, o, rfl, hg, hrow⟩ := hM.2.resolve_left (by decide)
    obtain ⟨-, pa, pn, pc, c0, c1, -⟩ := hrow 0 (by decide)
    have c1' : w2.cell? ⟨g, o + 1, none⟩ = some (.int .u64 2) := c1
    have hal : Below w2.heap.size w2 (w2.alloc (.cells #[.slice a 2 c, .slice (some ⟨g, o, none⟩) 1 d, .string ⟨#[35]⟩, .int .i64 9, .int .i64 3] 25)) := (Below.refl _ _).alloc (Nat.le_refl _) _
    have c2 := (hal.cell (p := ⟨g, o + 1, none⟩) hg).trans c1'
    have hB := b2.trans (hal.mono b2.size)
    clear c0 c1 c1' hrow hC hM hal b2 htok
    have hf : pShown.fuel = 9 := rfl
    have hq : pShown.quota = 3 := rfl
    rw [hf, hq]
    clear hf hq
    go_wp2
    go_ret
    exact ⟨rfl, hB⟩
  · exact absurd shown_text (hbad pShown shown_may)
end Go.Proofs.YtnagecbepidfiaaGreatDoor.Pol
