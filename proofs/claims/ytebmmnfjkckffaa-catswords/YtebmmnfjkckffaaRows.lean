/-
  No cell of these rows narrows 'for every input' (looked for: loops, veiled, ifaces, maps, wideKeys, modest, calm, conditions, laid).
  DERIVED. THE GIVEN ROWS OF THIS SEAT. 5 by the template 'for every input the law returns true; each argument reads behind the call as it read before'; 0 by the template 'total and deterministic' (their statements: YtebmmnfjkckffaaTotals.lean).
  GIVEN WITH THE SEED: the statements are not yours to turn. If you find one false, say at which input.
  Laid BY PROGRAM, IN A SANDBOX (cutbox-rows.mjs): the forced cells as the released guide's own fill.sh prints them over the translation 576d17ae6b73d377… (all of the seat's roots in one cut). By AI agents, Wed Nov 11 2026. No macro, syntax, notation, axiom, sorry.
-/
import Derived.Test.YtebmmnfjkckffaaChecked
import GoSem.Claim
import GoSem.ClaimJoined
import GoSem.ClaimMapViews
import Derived.JoinedTies
import Derived.KernelRfl
namespace Go.Proofs.Ytebmmnfjkckffaa
/- THE CELL 'sum', in the pinned program and in every row, IS THE sha256 OF THE DUMP (.gsa) THAT YtebmmnfjkckffaaProg.lean LOADS. Nothing in Lean hashes anything: it is a label: what it is worth is what the hold of that sum in a sandbox is worth. -/
noncomputable def Try.pinned : Pinned := { name := "ytebmmnfjkckffaa", sum := "576d17ae6b73d377bf0e0b4d948f792183fc65f5a2777a010a3560efe2b2e91c", checked := Try.checked }
namespace Rows
def none {H : Type} : Left H := { results := [], args := [] }

/-- 'bowdlerlaw06.CatsMay': WHATEVER THE INPUT: true; the input reads as it did. -/
def catsMaySpec : ChangeSpec := { name := "catsMay", fn := fun _ => fun
  | [d1, d2, d3] => { results := [.lit (.bool true)], args := [d1, d2, d3] }
  | _ => none }
def catsMayRow : OpenClaim := { program := "ytebmmnfjkckffaa", sum := "576d17ae6b73d377bf0e0b4d948f792183fc65f5a2777a010a3560efe2b2e91c", func := "bowdler/bowdlerlaw06.CatsMay", spec := "catsMay", inPlace := ["internal/bytealg.IndexByteString", "internal/bytealg.IndexString"], named := ["internal/bytealg.MaxLen"], apart := false }
def CatsMaySaid : Prop := catsMayRow.holds Try.pinned (OpenSpec.ofChange catsMaySpec)

/-- ITS FALSE NEIGHBOUR: 'it returns false'. Refute it at one input. -/
def catsMayWrong : ChangeSpec := { name := "catsMay", fn := fun _ => fun
  | [d1, d2, d3] => { results := [.lit (.bool false)], args := [d1, d2, d3] }
  | _ => none }
def CatsMayWrongFalsely : Prop := catsMayRow.holds Try.pinned (OpenSpec.ofChange catsMayWrong)

/-- 'bowdlerlaw06.CatsMasks': WHATEVER THE INPUT: true; the input reads as it did. -/
def catsMasksSpec : ChangeSpec := { name := "catsMasks", fn := fun _ => fun
  | [d1, d2, d3] => { results := [.lit (.bool true)], args := [d1, d2, d3] }
  | _ => none }
def catsMasksRow : OpenClaim := { program := "ytebmmnfjkckffaa", sum := "576d17ae6b73d377bf0e0b4d948f792183fc65f5a2777a010a3560efe2b2e91c", func := "bowdler/bowdlerlaw06.CatsMasks", spec := "catsMasks", inPlace := ["internal/bytealg.IndexByteString", "internal/bytealg.IndexString", "internal/abi.NoEscape"], named := ["internal/bytealg.MaxLen"], apart := false }
def CatsMasksSaid : Prop := catsMasksRow.holds Try.pinned (OpenSpec.ofChange catsMasksSpec)

/-- ITS FALSE NEIGHBOUR: 'it returns false'. Refute it at one input. -/
def catsMasksWrong : ChangeSpec := { name := "catsMasks", fn := fun _ => fun
  | [d1, d2, d3] => { results := [.lit (.bool false)], args := [d1, d2, d3] }
  | _ => none }
def CatsMasksWrongFalsely : Prop := catsMasksRow.holds Try.pinned (OpenSpec.ofChange catsMasksWrong)

/-- 'bowdlerlaw06.CatsBack': WHATEVER THE INPUT: true; the input reads as it did. -/
def catsBackSpec : ChangeSpec := { name := "catsBack", fn := fun _ => fun
  | [d1, d2] => { results := [.lit (.bool true)], args := [d1, d2] }
  | _ => none }
def catsBackRow : OpenClaim := { program := "ytebmmnfjkckffaa", sum := "576d17ae6b73d377bf0e0b4d948f792183fc65f5a2777a010a3560efe2b2e91c", func := "bowdler/bowdlerlaw06.CatsBack", spec := "catsBack", inPlace := ["internal/bytealg.IndexByteString", "internal/bytealg.IndexString", "internal/abi.NoEscape"], named := ["internal/bytealg.MaxLen"], apart := false }
def CatsBackSaid : Prop := catsBackRow.holds Try.pinned (OpenSpec.ofChange catsBackSpec)

/-- ITS FALSE NEIGHBOUR: 'it returns false'. Refute it at one input. -/
def catsBackWrong : ChangeSpec := { name := "catsBack", fn := fun _ => fun
  | [d1, d2] => { results := [.lit (.bool false)], args := [d1, d2] }
  | _ => none }
def CatsBackWrongFalsely : Prop := catsBackRow.holds Try.pinned (OpenSpec.ofChange catsBackWrong)

/-- 'bowdlerlaw06.CatsWords': WHATEVER THE INPUT: true; the input reads as it did. -/
def catsWordsSpec : ChangeSpec := { name := "catsWords", fn := fun _ => fun
  | [d1, d2, d3] => { results := [.lit (.bool true)], args := [d1, d2, d3] }
  | _ => none }
def catsWordsRow : OpenClaim := { program := "ytebmmnfjkckffaa", sum := "576d17ae6b73d377bf0e0b4d948f792183fc65f5a2777a010a3560efe2b2e91c", func := "bowdler/bowdlerlaw06.CatsWords", spec := "catsWords", inPlace := ["internal/bytealg.IndexByteString", "internal/bytealg.IndexString"], named := ["internal/bytealg.MaxLen"], apart := false }
def CatsWordsSaid : Prop := catsWordsRow.holds Try.pinned (OpenSpec.ofChange catsWordsSpec)

/-- ITS FALSE NEIGHBOUR: 'it returns false'. Refute it at one input. -/
def catsWordsWrong : ChangeSpec := { name := "catsWords", fn := fun _ => fun
  | [d1, d2, d3] => { results := [.lit (.bool false)], args := [d1, d2, d3] }
  | _ => none }
def CatsWordsWrongFalsely : Prop := catsWordsRow.holds Try.pinned (OpenSpec.ofChange catsWordsWrong)

/-- 'bowdlerlaw06.CatsParts': WHATEVER THE INPUT: true; the input reads as it did. -/
def catsPartsSpec : ChangeSpec := { name := "catsParts", fn := fun _ => fun
  | [d1, d2, d3] => { results := [.lit (.bool true)], args := [d1, d2, d3] }
  | _ => none }
def catsPartsRow : OpenClaim := { program := "ytebmmnfjkckffaa", sum := "576d17ae6b73d377bf0e0b4d948f792183fc65f5a2777a010a3560efe2b2e91c", func := "bowdler/bowdlerlaw06.CatsParts", spec := "catsParts", inPlace := ["internal/bytealg.IndexByteString", "internal/bytealg.IndexString", "internal/abi.NoEscape"], named := ["internal/bytealg.MaxLen"], apart := false }
def CatsPartsSaid : Prop := catsPartsRow.holds Try.pinned (OpenSpec.ofChange catsPartsSpec)

/-- ITS FALSE NEIGHBOUR: 'it returns false'. Refute it at one input. -/
def catsPartsWrong : ChangeSpec := { name := "catsParts", fn := fun _ => fun
  | [d1, d2, d3] => { results := [.lit (.bool false)], args := [d1, d2, d3] }
  | _ => none }
def CatsPartsWrongFalsely : Prop := catsPartsRow.holds Try.pinned (OpenSpec.ofChange catsPartsWrong)

/- THE SECOND FORM. 'bulk': how many values and letters a reading holds, each counted each time it is reached (what is shared counts as often as it is met; a slice's spare places count too). A statement '..UptoSaid' is the law's where the arguments, and the package variables that the reading takes, are together of bulk at most 1048576: NARROWER than '..Said'. Prove '..Said' where nothing that the law and all that it calls make is longer than what came in: it says more and counts as full. Else prove '..UptoSaid'. A law counts once. -/
mutual
def uptoBulk {H : Type} : DataW H → Nat
  | .lit (.string bytes) => bytes.length + 1
  | .lit _ => 1
  | .nil => 1
  | .ptr d => uptoBulk d + 1
  | .slice elems spare => uptoBulkAll elems + uptoBulkAll spare + 1
  | .agg parts => uptoBulkAll parts + 1
  | .iface _ d => uptoBulk d + 1
  | .map entries => uptoBulkEntries entries + 1
  | .held _ => 1
def uptoBulkAll {H : Type} : List (DataW H) → Nat
  | [] => 0
  | d :: r => uptoBulk d + uptoBulkAll r
def uptoBulkEntries {H : Type} : List (Lit × DataW H) → Nat
  | [] => 0
  | x :: r => uptoBulkEntry x + uptoBulkEntries r
def uptoBulkEntry {H : Type} : Lit × DataW H → Nat
  | (.string bytes, d) => bytes.length + uptoBulk d + 1
  | (_, d) => uptoBulk d + 1
 end
def uptoSmall : (H : Type) → List (DataW H) → Bool := fun _ ds => decide (uptoBulkAll ds ≤ 1048576)
def OpenSpec.upto (s : _root_.Go.ChangeSpec) : _root_.Go.OpenSpec := { _root_.Go.OpenSpec.ofChange s with cond := some uptoSmall }

/-- 'bowdlerlaw06.CatsMay', WHERE WHAT IT READS IS OF BULK AT MOST 1048576: true; the input reads as it did. -/
def catsMayUptoRow : OpenClaim := { program := "ytebmmnfjkckffaa", sum := "576d17ae6b73d377bf0e0b4d948f792183fc65f5a2777a010a3560efe2b2e91c", func := "bowdler/bowdlerlaw06.CatsMay", spec := "catsMay", inPlace := ["internal/bytealg.IndexByteString", "internal/bytealg.IndexString"], named := ["internal/bytealg.MaxLen"], apart := false, narrowed := true }
def CatsMayUptoSaid : Prop := catsMayUptoRow.holds Try.pinned (OpenSpec.upto catsMaySpec)

/-- 'bowdlerlaw06.CatsMasks', WHERE WHAT IT READS IS OF BULK AT MOST 1048576: true; the input reads as it did. -/
def catsMasksUptoRow : OpenClaim := { program := "ytebmmnfjkckffaa", sum := "576d17ae6b73d377bf0e0b4d948f792183fc65f5a2777a010a3560efe2b2e91c", func := "bowdler/bowdlerlaw06.CatsMasks", spec := "catsMasks", inPlace := ["internal/bytealg.IndexByteString", "internal/bytealg.IndexString", "internal/abi.NoEscape"], named := ["internal/bytealg.MaxLen"], apart := false, narrowed := true }
def CatsMasksUptoSaid : Prop := catsMasksUptoRow.holds Try.pinned (OpenSpec.upto catsMasksSpec)

/-- 'bowdlerlaw06.CatsBack', WHERE WHAT IT READS IS OF BULK AT MOST 1048576: true; the input reads as it did. -/
def catsBackUptoRow : OpenClaim := { program := "ytebmmnfjkckffaa", sum := "576d17ae6b73d377bf0e0b4d948f792183fc65f5a2777a010a3560efe2b2e91c", func := "bowdler/bowdlerlaw06.CatsBack", spec := "catsBack", inPlace := ["internal/bytealg.IndexByteString", "internal/bytealg.IndexString", "internal/abi.NoEscape"], named := ["internal/bytealg.MaxLen"], apart := false, narrowed := true }
def CatsBackUptoSaid : Prop := catsBackUptoRow.holds Try.pinned (OpenSpec.upto catsBackSpec)

/-- 'bowdlerlaw06.CatsWords', WHERE WHAT IT READS IS OF BULK AT MOST 1048576: true; the input reads as it did. -/
def catsWordsUptoRow : OpenClaim := { program := "ytebmmnfjkckffaa", sum := "576d17ae6b73d377bf0e0b4d948f792183fc65f5a2777a010a3560efe2b2e91c", func := "bowdler/bowdlerlaw06.CatsWords", spec := "catsWords", inPlace := ["internal/bytealg.IndexByteString", "internal/bytealg.IndexString"], named := ["internal/bytealg.MaxLen"], apart := false, narrowed := true }
def CatsWordsUptoSaid : Prop := catsWordsUptoRow.holds Try.pinned (OpenSpec.upto catsWordsSpec)

/-- 'bowdlerlaw06.CatsParts', WHERE WHAT IT READS IS OF BULK AT MOST 1048576: true; the input reads as it did. -/
def catsPartsUptoRow : OpenClaim := { program := "ytebmmnfjkckffaa", sum := "576d17ae6b73d377bf0e0b4d948f792183fc65f5a2777a010a3560efe2b2e91c", func := "bowdler/bowdlerlaw06.CatsParts", spec := "catsParts", inPlace := ["internal/bytealg.IndexByteString", "internal/bytealg.IndexString", "internal/abi.NoEscape"], named := ["internal/bytealg.MaxLen"], apart := false, narrowed := true }
def CatsPartsUptoSaid : Prop := catsPartsUptoRow.holds Try.pinned (OpenSpec.upto catsPartsSpec)

end Rows
end Go.Proofs.Ytebmmnfjkckffaa
