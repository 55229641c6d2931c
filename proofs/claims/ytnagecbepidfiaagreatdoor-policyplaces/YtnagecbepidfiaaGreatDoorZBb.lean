/- What is proved here: what Names of package cats, and the document's own Names, do with a row of texts that lies, walked; conditions: as each theorem states. What is proved here: what the document's own Names does with a row of texts that lies, walked; conditions: as each theorem states. What is proved here: what Mask of package cats does with a row of names that lies, walked; conditions: as each theorem states. -/
import Derived.Test.YtnagecbepidfiaaGreatDoorZBa
import Derived.Test.YtnagecbepidfiaaGreatDoorZAb
import Derived.Test.YtnagecbepidfiaaGreatDoorZAc
namespace Go.Proofs.YtnagecbepidfiaaGreatDoor.Nc
set_option maxRecDepth 100000
open Go.RowKit Go.Maps
set_option linter.unusedVariables false
set_option linter.unusedSimpArgs false

/-- A builder stands as it stood, if nothing that lay has turned. -/
theorem stays {T e : TypeId} {B b : Nat} {bs : List Value} {W W' : World} (h : Lib.IsBuilderF T e B b bs W) (hk : Below W.heap.size W W') : Lib.IsBuilderF T e B b bs W' := by
  have one : ∀ p, Lib.BuilderAtF T e B b p bs W → Lib.BuilderAtF T e B b p bs W' := fun p g => by
    have hlt := g.lt
    obtain ⟨g1, v, g2, g3, g4⟩ := g
    refine ⟨g1, v, ?_, ?_, g4⟩
    · rw [hk.block b hlt]; exact g2
    · exact g3.kept (row := none) ⟨hk.os, hk.tape, hk.output, hk.size, fun k hl _ => hk.block k hl⟩ (Classical.em _)
  rcases h with h | h
  · exact .inl (one _ h)
  · exact .inr (one _ h)
theorem strCells_is (s : ByteArray) : Lib.strCells s = Lib.byteCells s.data.toList := rfl

end Go.Proofs.YtnagecbepidfiaaGreatDoor.Nc

namespace Go.Proofs.YtnagecbepidfiaaGreatDoor.Nc
set_option maxRecDepth 100000
open Go.RowKit Go.Maps
set_option linter.unusedVariables false
set_option linter.unusedSimpArgs false

end Go.Proofs.YtnagecbepidfiaaGreatDoor.Nc

namespace Go.Proofs.YtnagecbepidfiaaGreatDoor.Nc
set_option maxRecDepth 100000
open Go.RowKit Go.Maps
set_option linter.unusedVariables false
set_option linter.unusedSimpArgs false

theorem bytes_ext {x y : ByteArray} (e : x.data.toList = y.data.toList) : x = y := by
  cases x; cases y
  congr 1
  exact Array.toList_inj.1 e
theorem len_size (s : ByteArray) : s.data.toList.length = s.size := by rw [Array.length_toList]; rfl
/-- A text that is not empty, cut at its first blank. -/
theorem cut_ex (t : ByteArray) (hs : t.size ≤ 9223372036854775806) (h0 : t.size ≠ 0) : ∃ (a r : ByteArray) (b : Bool),
    (∀ W, Calls Tryz.prog 96 #[.string t, .string ⟨#[32]⟩] W fun e w' => e = .returned (.tuple #[.string a, .string r, .bool b]) ∧ ∃ n, w' = W.drewN n) ∧
    Cm.words t.data.toList = (if a.data.toList = [] then [] else [a.data.toList]) ++ Cm.words r.data.toList ∧ r.size < t.size ∧ a.size ≤ t.size := by
  by_cases hm : (32 : UInt8) ∈ t.data.toList
  · obtain ⟨p, q, hpq, hp⟩ := List.append_of_mem hm |> fun ⟨p, q, h⟩ => (show ∃ p q, t.data.toList = p ++ 32 :: q ∧ (32 : UInt8) ∉ p from by
      clear p q h
      generalize t.data.toList = l at hm
      induction l with
      | nil => cases hm
      | cons c l ih =>
        by_cases e : c = 32
        · exact ⟨[], l, by rw [e]; rfl, by simp⟩
        · obtain ⟨p, q, h1, h2⟩ := ih (by rcases List.mem_cons.1 hm with g | g; exact absurd g.symm e; exact g)
          exact ⟨c :: p, q, by rw [h1]; rfl, by simp only [List.mem_cons, not_or]; exact ⟨fun g => e g.symm, h2⟩⟩)
    refine ⟨⟨p.toArray⟩, ⟨q.toArray⟩, true, fun W => cutHit t ⟨p.toArray⟩ ⟨q.toArray⟩ W hs hpq hp, ?_, ?_, ?_⟩
    · rw [hpq, Cm.words_part, Cm.words_plain hp]
    · have := congrArg List.length hpq
      rw [len_size, List.length_append, List.length_cons] at this
      show q.length < t.size
      omega
    · have := congrArg List.length hpq
      rw [len_size, List.length_append, List.length_cons] at this
      show p.length ≤ t.size
      omega
  · refine ⟨t, ⟨#[]⟩, false, fun W => cutMiss t W hm, ?_, ?_, Nat.le_refl _⟩
    · rw [Cm.words_plain hm]
      exact (List.append_nil _).symm
    · show 0 < t.size
      omega
theorem ownsMap_drewN {w : World} {P : Program} {k : TypeId} {R : Value → Option (DataW Unit × List MemPlace)} {b n : Nat} {D : DataW Unit} (h : w.ownsMap P k R b n D) (j : Nat) : (w.drewN j).ownsMap P k R b n D := by
  have e : (w.drewN j).heap = w.heap := by first | rfl | simp
  unfold World.ownsMap at h ⊢
  rw [e]
  exact h

/-- What the map holds of a name. -/
theorem bits_idx {L : List Cm.Tx} {n : Nat} (hn : L.length = n) (hn2 : n ≤ 64) (hd : L.Nodup) (x : Cm.Tx) :
    (x ∉ L ∧ Cm.idx L x = none) ∨ ∃ i, Cm.idx L x = some i ∧ x ∈ L ∧ Cm.valK L n x = 2 ^ i ∧ 2 ^ i < 18446744073709551616 := by
  by_cases h : x ∈ L
  · obtain ⟨i, hi, rfl⟩ := List.getElem_of_mem h
    have hp : 2 ^ i < 2 ^ 64 := Nat.pow_lt_pow_right (by decide) (by omega)
    refine .inr ⟨i, Cm.idx_some hd hi, h, ?_, hp⟩
    rw [Cm.valK_one hd (List.getElem?_eq_getElem hi), if_pos (by omega)]
    unfold Cm.bitN
    rw [if_pos (by omega)]
  · exact .inl ⟨h, Cm.idx_none h⟩

end Go.Proofs.YtnagecbepidfiaaGreatDoor.Nc
