/- What is proved here: what Go's library does where a text is cut at its first blank, walked; its Builder, by the library's contracts; conditions: as each theorem states. -/
import Derived.Shelf.Strings.BuilderF
import Derived.Shelf.Strings.BuilderK
import Derived.Below
import Derived.WalkKit
import Derived.WalkSpells
import Derived.WalkLawsBesides
import Derived.Lib.Strings
import Derived.Lib.Bytealg
import Derived.Lib.IndexLaws
import Derived.BigCall
import Derived.Deep.QuietTactic
import Derived.BigQuiet
import Derived.Test.YtebmmnfjkckffaaProg
namespace Go.Proofs.Ytebmmnfjkckffaa
open Go.RowKit
set_option linter.unusedVariables false
set_option linter.unusedSimpArgs false

theorem indexByte_miss {l : List UInt8} (h : (32 : UInt8) ∉ l) : Lib.indexByte l 32 = -1 := by
  induction l with
  | nil => rfl
  | cons b l ih =>
    unfold Lib.indexByte
    rw [if_neg (by intro e; exact h (by rw [eq_of_beq e]; exact List.mem_cons_self)), ih (fun e => h (List.mem_cons_of_mem _ e))]
    rfl
theorem indexByte_hit {a r : List UInt8} (h : (32 : UInt8) ∉ a) : Lib.indexByte (a ++ 32 :: r) 32 = (a.length : Int) := by
  induction a with
  | nil => rfl
  | cons b l ih =>
    rw [List.cons_append]
    unfold Lib.indexByte
    rw [if_neg (by intro e; exact h (by rw [eq_of_beq e]; exact List.mem_cons_self)), ih (fun e => h (List.mem_cons_of_mem _ e)), if_neg (by rw [beq_iff_eq]; omega), List.length_cons]
    omega
theorem indexByte_walk (s : ByteArray) (w : World) : Calls Try.prog 34 #[.string s, .int .u8 32] w fun e w' => e = .returned (.int .i64 (Lib.indexByte s.data.toList 32)) ∧ w' = w := by
  go_enter Try.func34, Try.ntmps34
  go_wp2
  rw [run_callFunc_extern Try.func38 (by kernel_rfl) (by kernel_rfl) (by kernel_rfl) (e := Extern.BytealgIndexByte.indexByte) (by kernel_rfl), Lib.run_indexByteString]
  simp only [Result.andThen]
  rw [Oper.upon_value]
  go_wp2
  go_ret
  exact ⟨rfl, rfl⟩
theorem index_walk (s : ByteArray) (n : Int) (hn : Lib.indexByte s.data.toList 32 = n) (w : World) : Calls Try.prog 32 #[.string s, .string ⟨#[32]⟩] w fun e w' => e = .returned (.int .i64 n) ∧ w' = w := by
  have C : ∀ W, Calls Try.prog 34 #[.string s, .int .u8 32] W fun e w' => e = .returned (.int .i64 n) ∧ w' = W := fun W => hn ▸ indexByte_walk s W
  by_cases h : s.toList = [32]
  · have hb : ([32] == s.toList) = true := by rw [h]; rfl
    have h0 : n = 0 := by rw [← hn, ← ByteArray.toList_eq, h]; rfl
    subst h0
    clear hn h
    go_enter Try.func32, Try.ntmps32
    go_wp2_with fail
    go_ret
    exact ⟨rfl, rfl⟩
  · have hb : ([32] == s.toList) = false := by rw [← Bool.not_eq_true]; intro e; exact h (eq_of_beq e).symm
    clear hn h
    go_enter Try.func32, Try.ntmps32
    go_wp2_with fail
    refine (C _).mono ?_
    rintro e w ⟨rfl, rfl⟩
    go_wp2_with fail
    go_ret
    exact ⟨rfl, rfl⟩
theorem cutMiss_lite (s : ByteArray) (w : World) (h : (32 : UInt8) ∉ s.data.toList) :
    Calls Try.prog 30 #[.string s, .string ⟨#[32]⟩] w fun e w' => e = .returned (.tuple #[.string s, .string ⟨#[]⟩, .bool false]) ∧ ∃ n, w' = w.drewN n := by
  have C := index_walk s (-1) (indexByte_miss h)
  clear h
  go_enter Try.func30, Try.ntmps30
  go_wp2_with fail
  refine (C _).mono ?_
  rintro e w ⟨rfl, rfl⟩
  go_wp2
  go_ret3
  exact ⟨rfl, 0, rfl⟩
theorem cut_parts {s a r : ByteArray} (h : s.data.toList = a.data.toList ++ 32 :: r.data.toList) : s.size = a.size + 1 + r.size ∧ s.extract 0 a.size = a ∧ s.extract (a.size + 1) s.size = r := by
  have h1 : s.size = a.size + 1 + r.size := by
    have := congrArg List.length h
    rw [List.length_append, List.length_cons, Array.length_toList, Array.length_toList, Array.length_toList] at this
    show s.data.size = a.data.size + 1 + r.data.size
    omega
  have ext : ∀ {x y : ByteArray}, x.data.toList = y.data.toList → x = y := by
    intro x y e
    cases x; cases y
    congr 1
    exact Array.toList_inj.1 e
  refine ⟨h1, ext ?_, ext ?_⟩
  · rw [Lib.extract_data, h, List.drop_zero, Nat.sub_zero, List.take_left' (by rw [Array.length_toList]; rfl)]
  · rw [Lib.extract_data, h, show a.size + 1 = a.data.toList.length + 1 by rw [Array.length_toList]; rfl, List.drop_length_add_append, List.drop_succ_cons, List.drop_zero, List.take_of_length_le]
    rw [Array.length_toList, Array.length_toList]
    show r.data.size ≤ s.size - (a.size + 1)
    have : r.size = r.data.size := rfl
    omega
theorem cutHit_lite (s a r : ByteArray) (w : World) (hs : s.size ≤ 9223372036854775806) (h : s.data.toList = a.data.toList ++ 32 :: r.data.toList) (ha : (32 : UInt8) ∉ a.data.toList) :
    Calls Try.prog 30 #[.string s, .string ⟨#[32]⟩] w fun e w' => e = .returned (.tuple #[.string a, .string r, .bool true]) ∧ ∃ n, w' = w.drewN n := by
  obtain ⟨h1, h2, h3⟩ := cut_parts h
  have C := index_walk s (a.size : Int) (by rw [h, indexByte_hit ha, Array.length_toList]; rfl)
  obtain ⟨n, hn⟩ : ∃ n, a.size = n := ⟨_, rfl⟩
  rw [hn] at h1 h2 h3 C
  have c1 : (0 : Int) ≤ (n : Int) := by omega
  have c2 : (n : Int) ≤ (s.size : Int) := by omega
  have c3 : (0 : Int) ≤ (n : Int) + 1 := by omega
  have c4 : (n : Int) + 1 ≤ (s.size : Int) := by omega
  clear h ha hn h1
  go_enter Try.func30, Try.ntmps30
  go_wp2_with fail
  refine (C _).mono ?_
  rintro e w ⟨rfl, rfl⟩
  go_wp2_with fail
  go_quiet (fail)
  go_wp2
  go_ret3
  exact ⟨rfl, _, rfl⟩
theorem cutMiss (s : ByteArray) (w : World) (h : (32 : UInt8) ∉ s.data.toList) :
    Calls Try.prog 26 #[.string s, .string ⟨#[32]⟩] w fun e w' => e = .returned (.tuple #[.string s, .string ⟨#[]⟩, .bool false]) ∧ ∃ n, w' = w.drewN n := by
  have C := fun W => cutMiss_lite s W h
  go_enter Try.func26, Try.ntmps26
  go_wp2_with fail
  refine (C _).mono ?_
  rintro e w ⟨rfl, n, rfl⟩
  go_wp2
  go_ret3
  exact ⟨rfl, n, rfl⟩
theorem cutHit (s a r : ByteArray) (w : World) (hs : s.size ≤ 9223372036854775806) (h : s.data.toList = a.data.toList ++ 32 :: r.data.toList) (ha : (32 : UInt8) ∉ a.data.toList) :
    Calls Try.prog 26 #[.string s, .string ⟨#[32]⟩] w fun e w' => e = .returned (.tuple #[.string a, .string r, .bool true]) ∧ ∃ n, w' = w.drewN n := by
  have C := fun W => cutHit_lite s a r W hs h ha
  clear h
  go_enter Try.func26, Try.ntmps26
  go_wp2_with fail
  refine (C _).mono ?_
  rintro e w ⟨rfl, n, rfl⟩
  go_wp2
  go_ret3
  exact ⟨rfl, n, rfl⟩
end Go.Proofs.Ytebmmnfjkckffaa
