/- What is proved here: contracts of Go's library functions at this translation, each one application of the library's; conditions: as each theorem states. -/
import Derived.Shelf.Strings.SplitCore
import Derived.Shelf.Strings.Count
import Derived.Lib.SplitLaws
import Derived.WalkKit
import Derived.Below
import Derived.Test.YtnagecbepidfiaaGreatDoorProg
namespace Go.Proofs
open Go.Shelf
def Tryz.laysS_ren : Go.Shelf.Ren := ⟨fun | 138 => 143 | 143 => 100 | 147 => 98 | 195 => 162 | 197 => 134 | 217 => 144 | 218 => 163 | 219 => 129 | 221 => 127 | 224 => 146 | 225 => 145 | 260 => 150 | 266 => 164 | 267 => 147 | 268 => 142 | 314 => 165 | n => n, fun | 0 => 0 | 3 => 3 | 4 => 4 | 5 => 5 | 9 => 9 | 21 => 21 | 31 => 22 | 46 => 140 | 51 => 160 | 105 => 130 | 119 => 136 | 138 => 138 | 139 => 139 | 146 => 171 | n => n, fun | 1 => 2 | 3 => 0 | 4 => 1 | n => n⟩
theorem Tryz.laysS_Lays_147 : Go.Proofs.Lays.n147 Tryz.prog Tryz.laysS_ren := {
  mixed := by kernel_rfl
  f138 := Tryz.func143.trans (congrArg some (by kernel_rfl))
  f143 := Tryz.func100.trans (congrArg some (by kernel_rfl))
  f147 := Tryz.func98.trans (congrArg some (by kernel_rfl))
  f195 := Tryz.func162.trans (congrArg some (by kernel_rfl))
  f197 := Tryz.func134.trans (congrArg some (by kernel_rfl))
  f217 := Tryz.func144.trans (congrArg some (by kernel_rfl))
  f218 := Tryz.func163.trans (congrArg some (by kernel_rfl))
  f219 := Tryz.func129.trans (congrArg some (by kernel_rfl))
  f221 := Tryz.func127.trans (congrArg some (by kernel_rfl))
  f224 := Tryz.func146.trans (congrArg some (by kernel_rfl))
  f225 := Tryz.func145.trans (congrArg some (by kernel_rfl))
  f260 := Tryz.func150.trans (congrArg some (by kernel_rfl))
  f266 := Tryz.func164.trans (congrArg some (by kernel_rfl))
  f267 := Tryz.func147.trans (congrArg some (by kernel_rfl))
  f268 := Tryz.func142.trans (congrArg some (by kernel_rfl))
  f314 := Tryz.func165.trans (congrArg some (by kernel_rfl))
  t0 := Tryz.underlying0
  a0 := Tryz.isAgg0
  z0 := Tryz.sizeOf0
  v0 := Tryz.zeroValue0
  t3 := Tryz.underlying3
  a3 := Tryz.isAgg3
  z3 := Tryz.sizeOf3
  v3 := Tryz.zeroValue3
  t4 := Tryz.underlying4
  a4 := Tryz.isAgg4
  z4 := Tryz.sizeOf4
  v4 := Tryz.zeroValue4
  t5 := Tryz.underlying5
  a5 := Tryz.isAgg5
  z5 := Tryz.sizeOf5
  v5 := Tryz.zeroValue5
  t9 := Tryz.underlying9
  a9 := Tryz.isAgg9
  z9 := Tryz.sizeOf9
  v9 := Tryz.zeroValue9
  t21 := Tryz.underlying21
  a21 := Tryz.isAgg21
  z21 := Tryz.sizeOf21
  v21 := Tryz.zeroValue21
  t31 := Tryz.underlying22
  a31 := Tryz.isAgg22
  z31 := Tryz.sizeOf22
  v31 := Tryz.zeroValue22
  t46 := Tryz.underlying140
  a46 := Tryz.isAgg140
  z46 := Tryz.sizeOf140
  v46 := Tryz.zeroValue140
  t51 := Tryz.underlying160
  a51 := Tryz.isAgg160
  z51 := Tryz.sizeOf160
  v51 := Tryz.zeroValue160
  t105 := Tryz.underlying130
  a105 := Tryz.isAgg130
  z105 := Tryz.sizeOf130
  v105 := Tryz.zeroValue130
  t119 := Tryz.underlying136
  a119 := Tryz.isAgg136
  z119 := Tryz.sizeOf136
  t138 := Tryz.underlying138
  a138 := Tryz.isAgg138
  z138 := Tryz.sizeOf138
  v138 := Tryz.zeroValue138
  t139 := Tryz.underlying139
  a139 := Tryz.isAgg139
  z139 := Tryz.sizeOf139
  v139 := Tryz.zeroValue139
  t146 := Tryz.underlying171
  a146 := Tryz.isAgg171
  z146 := Tryz.sizeOf171
  v146 := Tryz.zeroValue171
  g1 := by kernel_rfl
  g3 := by kernel_rfl
  g4 := by kernel_rfl }
theorem Tryz.laysS_Lays_221 : Go.Proofs.Lays.n221 Tryz.prog Tryz.laysS_ren := {
  mixed := by kernel_rfl
  f138 := Tryz.func143.trans (congrArg some (by kernel_rfl))
  f143 := Tryz.func100.trans (congrArg some (by kernel_rfl))
  f195 := Tryz.func162.trans (congrArg some (by kernel_rfl))
  f197 := Tryz.func134.trans (congrArg some (by kernel_rfl))
  f217 := Tryz.func144.trans (congrArg some (by kernel_rfl))
  f218 := Tryz.func163.trans (congrArg some (by kernel_rfl))
  f219 := Tryz.func129.trans (congrArg some (by kernel_rfl))
  f221 := Tryz.func127.trans (congrArg some (by kernel_rfl))
  f224 := Tryz.func146.trans (congrArg some (by kernel_rfl))
  f225 := Tryz.func145.trans (congrArg some (by kernel_rfl))
  f260 := Tryz.func150.trans (congrArg some (by kernel_rfl))
  f266 := Tryz.func164.trans (congrArg some (by kernel_rfl))
  f267 := Tryz.func147.trans (congrArg some (by kernel_rfl))
  f268 := Tryz.func142.trans (congrArg some (by kernel_rfl))
  f314 := Tryz.func165.trans (congrArg some (by kernel_rfl))
  t0 := Tryz.underlying0
  a0 := Tryz.isAgg0
  z0 := Tryz.sizeOf0
  v0 := Tryz.zeroValue0
  t3 := Tryz.underlying3
  a3 := Tryz.isAgg3
  z3 := Tryz.sizeOf3
  v3 := Tryz.zeroValue3
  t4 := Tryz.underlying4
  a4 := Tryz.isAgg4
  z4 := Tryz.sizeOf4
  v4 := Tryz.zeroValue4
  t5 := Tryz.underlying5
  a5 := Tryz.isAgg5
  z5 := Tryz.sizeOf5
  v5 := Tryz.zeroValue5
  t9 := Tryz.underlying9
  a9 := Tryz.isAgg9
  z9 := Tryz.sizeOf9
  v9 := Tryz.zeroValue9
  t21 := Tryz.underlying21
  a21 := Tryz.isAgg21
  z21 := Tryz.sizeOf21
  v21 := Tryz.zeroValue21
  t31 := Tryz.underlying22
  a31 := Tryz.isAgg22
  z31 := Tryz.sizeOf22
  v31 := Tryz.zeroValue22
  t46 := Tryz.underlying140
  a46 := Tryz.isAgg140
  z46 := Tryz.sizeOf140
  v46 := Tryz.zeroValue140
  t51 := Tryz.underlying160
  a51 := Tryz.isAgg160
  z51 := Tryz.sizeOf160
  v51 := Tryz.zeroValue160
  t105 := Tryz.underlying130
  a105 := Tryz.isAgg130
  z105 := Tryz.sizeOf130
  v105 := Tryz.zeroValue130
  t119 := Tryz.underlying136
  a119 := Tryz.isAgg136
  z119 := Tryz.sizeOf136
  t138 := Tryz.underlying138
  a138 := Tryz.isAgg138
  z138 := Tryz.sizeOf138
  v138 := Tryz.zeroValue138
  t139 := Tryz.underlying139
  a139 := Tryz.isAgg139
  z139 := Tryz.sizeOf139
  v139 := Tryz.zeroValue139
  t146 := Tryz.underlying171
  a146 := Tryz.isAgg171
  z146 := Tryz.sizeOf171
  v146 := Tryz.zeroValue171
  g1 := by kernel_rfl
  g3 := by kernel_rfl
  g4 := by kernel_rfl }
theorem Tryz.laysS_Lays_138 : Go.Proofs.Lays.n138 Tryz.prog Tryz.laysS_ren := {
  mixed := by kernel_rfl
  f138 := Tryz.func143.trans (congrArg some (by kernel_rfl))
  f143 := Tryz.func100.trans (congrArg some (by kernel_rfl))
  f195 := Tryz.func162.trans (congrArg some (by kernel_rfl))
  f217 := Tryz.func144.trans (congrArg some (by kernel_rfl))
  f218 := Tryz.func163.trans (congrArg some (by kernel_rfl))
  f219 := Tryz.func129.trans (congrArg some (by kernel_rfl))
  f224 := Tryz.func146.trans (congrArg some (by kernel_rfl))
  f225 := Tryz.func145.trans (congrArg some (by kernel_rfl))
  f266 := Tryz.func164.trans (congrArg some (by kernel_rfl))
  f267 := Tryz.func147.trans (congrArg some (by kernel_rfl))
  f314 := Tryz.func165.trans (congrArg some (by kernel_rfl))
  t0 := Tryz.underlying0
  a0 := Tryz.isAgg0
  z0 := Tryz.sizeOf0
  v0 := Tryz.zeroValue0
  t3 := Tryz.underlying3
  a3 := Tryz.isAgg3
  z3 := Tryz.sizeOf3
  v3 := Tryz.zeroValue3
  t4 := Tryz.underlying4
  a4 := Tryz.isAgg4
  z4 := Tryz.sizeOf4
  v4 := Tryz.zeroValue4
  t5 := Tryz.underlying5
  a5 := Tryz.isAgg5
  z5 := Tryz.sizeOf5
  v5 := Tryz.zeroValue5
  t9 := Tryz.underlying9
  a9 := Tryz.isAgg9
  z9 := Tryz.sizeOf9
  v9 := Tryz.zeroValue9
  t46 := Tryz.underlying140
  a46 := Tryz.isAgg140
  z46 := Tryz.sizeOf140
  v46 := Tryz.zeroValue140
  t51 := Tryz.underlying160
  a51 := Tryz.isAgg160
  z51 := Tryz.sizeOf160
  v51 := Tryz.zeroValue160
  t146 := Tryz.underlying171
  a146 := Tryz.isAgg171
  z146 := Tryz.sizeOf171
  v146 := Tryz.zeroValue171
  g1 := by kernel_rfl }
namespace YtnagecbepidfiaaGreatDoor.Pol
set_option maxRecDepth 100000
open Go.RowKit
theorem info9s : (Tryz.prog.info? (Tryz.laysS_ren.t 9)).map (fun i => (i.zero, i.size, i.bytes)) = some (some (.string ByteArray.empty), 1, 16) := by kernel_rfl
theorem ib_miss {c : UInt8} {l : List UInt8} (h : c ∉ l) : Lib.indexByte l c = -1 := by
  induction l with
  | nil => rfl
  | cons b l ih =>
    unfold Lib.indexByte
    rw [if_neg (by intro e; exact h (by rw [eq_of_beq e]; exact List.mem_cons_self)), ih (fun e => h (List.mem_cons_of_mem _ e))]
    rfl
theorem ib_hit {c : UInt8} {a r : List UInt8} (h : c ∉ a) : Lib.indexByte (a ++ c :: r) c = (a.length : Int) := by
  induction a with
  | nil => simp [Lib.indexByte]
  | cons b l ih =>
    rw [List.cons_append]
    unfold Lib.indexByte
    rw [if_neg (by intro e; exact h (by rw [eq_of_beq e]; exact List.mem_cons_self)), ih (fun e => h (List.mem_cons_of_mem _ e)), if_neg (by rw [beq_iff_eq]; omega), List.length_cons]
    omega
theorem ib_is (c : UInt8) : ∀ l : List UInt8, Lib.indexByte l c = Lib.index l [c]
  | [] => rfl
  | b :: l => by
    unfold Lib.indexByte Lib.index
    rw [ib_is c l]
    have : ([c] : List UInt8).isPrefixOf (b :: l) = (b == c) := by
      rw [Bool.eq_iff_iff, beq_iff_eq]
      simp only [List.isPrefixOf, Bool.and_true, beq_iff_eq]
      exact eq_comm
    rw [this]
theorem ibw_10 (s : ByteArray) (w : World) : Calls Tryz.prog 144 #[.string s, .int .u8 10] w fun e w' => e = .returned (.int .i64 (Lib.indexByte s.data.toList 10)) ∧ w' = w := by
  go_enter Tryz.func144, Tryz.ntmps144
  go_wp2
  rw [run_callFunc_extern Tryz.func164 (by kernel_rfl) (by kernel_rfl) (by kernel_rfl) (e := Extern.BytealgIndexByte.indexByte) (by kernel_rfl), Lib.run_indexByteString]
  simp only [Result.andThen]
  rw [Oper.upon_value]
  go_wp2
  go_ret
  exact ⟨rfl, rfl⟩
theorem idx_10 (s : ByteArray) (n : Int) (hn : Lib.indexByte s.data.toList 10 = n) (w : World) : Calls Tryz.prog 129 #[.string s, .string ⟨#[10]⟩] w fun e w' => e = .returned (.int .i64 n) ∧ w' = w := by
  have C : ∀ W, Calls Tryz.prog 144 #[.string s, .int .u8 10] W fun e w' => e = .returned (.int .i64 n) ∧ w' = W := fun W => hn ▸ ibw_10 s W
  by_cases h : s.toList = [10]
  · have hb : ([10] == s.toList) = true := by rw [h]; rfl
    have h0 : n = 0 := by rw [← hn, ← ByteArray.toList_eq, h]; rfl
    subst h0
    clear hn h
    go_enter Tryz.func129, Tryz.ntmps129
    go_wp2_with fail
    go_ret
    exact ⟨rfl, rfl⟩
  · have hb : ([10] == s.toList) = false := by rw [← Bool.not_eq_true]; intro e; exact h (eq_of_beq e).symm
    clear hn h
    go_enter Tryz.func129, Tryz.ntmps129
    go_wp2_with fail
    refine (C _).mono ?_
    rintro e w ⟨rfl, rfl⟩
    go_wp2_with fail
    go_ret
    exact ⟨rfl, rfl⟩
theorem sidx_10 (s : ByteArray) (n : Int) (hn : Lib.indexByte s.data.toList 10 = n) (w : World) : Calls Tryz.prog 100 #[.string s, .string ⟨#[10]⟩] w fun e w' => e = .returned (.int .i64 n) ∧ w' = w := by
  have C := fun W => idx_10 s n hn W
  clear hn
  go_enter Tryz.func100, Tryz.ntmps100
  go_wp2_with fail
  refine (C _).mono ?_
  rintro e w ⟨rfl, rfl⟩
  go_wp2
  go_ret
  exact ⟨rfl, rfl⟩
theorem ibw_32 (s : ByteArray) (w : World) : Calls Tryz.prog 144 #[.string s, .int .u8 32] w fun e w' => e = .returned (.int .i64 (Lib.indexByte s.data.toList 32)) ∧ w' = w := by
  go_enter Tryz.func144, Tryz.ntmps144
  go_wp2
  rw [run_callFunc_extern Tryz.func164 (by kernel_rfl) (by kernel_rfl) (by kernel_rfl) (e := Extern.BytealgIndexByte.indexByte) (by kernel_rfl), Lib.run_indexByteString]
  simp only [Result.andThen]
  rw [Oper.upon_value]
  go_wp2
  go_ret
  exact ⟨rfl, rfl⟩
theorem idx_32 (s : ByteArray) (n : Int) (hn : Lib.indexByte s.data.toList 32 = n) (w : World) : Calls Tryz.prog 129 #[.string s, .string ⟨#[32]⟩] w fun e w' => e = .returned (.int .i64 n) ∧ w' = w := by
  have C : ∀ W, Calls Tryz.prog 144 #[.string s, .int .u8 32] W fun e w' => e = .returned (.int .i64 n) ∧ w' = W := fun W => hn ▸ ibw_32 s W
  by_cases h : s.toList = [32]
  · have hb : ([32] == s.toList) = true := by rw [h]; rfl
    have h0 : n = 0 := by rw [← hn, ← ByteArray.toList_eq, h]; rfl
    subst h0
    clear hn h
    go_enter Tryz.func129, Tryz.ntmps129
    go_wp2_with fail
    go_ret
    exact ⟨rfl, rfl⟩
  · have hb : ([32] == s.toList) = false := by rw [← Bool.not_eq_true]; intro e; exact h (eq_of_beq e).symm
    clear hn h
    go_enter Tryz.func129, Tryz.ntmps129
    go_wp2_with fail
    refine (C _).mono ?_
    rintro e w ⟨rfl, rfl⟩
    go_wp2_with fail
    go_ret
    exact ⟨rfl, rfl⟩
theorem sidx_32 (s : ByteArray) (n : Int) (hn : Lib.indexByte s.data.toList 32 = n) (w : World) : Calls Tryz.prog 100 #[.string s, .string ⟨#[32]⟩] w fun e w' => e = .returned (.int .i64 n) ∧ w' = w := by
  have C := fun W => idx_32 s n hn W
  clear hn
  go_enter Tryz.func100, Tryz.ntmps100
  go_wp2_with fail
  refine (C _).mono ?_
  rintro e w ⟨rfl, rfl⟩
  go_wp2
  go_ret
  exact ⟨rfl, rfl⟩
theorem ibw_36 (s : ByteArray) (w : World) : Calls Tryz.prog 144 #[.string s, .int .u8 36] w fun e w' => e = .returned (.int .i64 (Lib.indexByte s.data.toList 36)) ∧ w' = w := by
  go_enter Tryz.func144, Tryz.ntmps144
  go_wp2
  rw [run_callFunc_extern Tryz.func164 (by kernel_rfl) (by kernel_rfl) (by kernel_rfl) (e := Extern.BytealgIndexByte.indexByte) (by kernel_rfl), Lib.run_indexByteString]
  simp only [Result.andThen]
  rw [Oper.upon_value]
  go_wp2
  go_ret
  exact ⟨rfl, rfl⟩
theorem idx_36 (s : ByteArray) (n : Int) (hn : Lib.indexByte s.data.toList 36 = n) (w : World) : Calls Tryz.prog 129 #[.string s, .string ⟨#[36]⟩] w fun e w' => e = .returned (.int .i64 n) ∧ w' = w := by
  have C : ∀ W, Calls Tryz.prog 144 #[.string s, .int .u8 36] W fun e w' => e = .returned (.int .i64 n) ∧ w' = W := fun W => hn ▸ ibw_36 s W
  by_cases h : s.toList = [36]
  · have hb : ([36] == s.toList) = true := by rw [h]; rfl
    have h0 : n = 0 := by rw [← hn, ← ByteArray.toList_eq, h]; rfl
    subst h0
    clear hn h
    go_enter Tryz.func129, Tryz.ntmps129
    go_wp2_with fail
    go_ret
    exact ⟨rfl, rfl⟩
  · have hb : ([36] == s.toList) = false := by rw [← Bool.not_eq_true]; intro e; exact h (eq_of_beq e).symm
    clear hn h
    go_enter Tryz.func129, Tryz.ntmps129
    go_wp2_with fail
    refine (C _).mono ?_
    rintro e w ⟨rfl, rfl⟩
    go_wp2_with fail
    go_ret
    exact ⟨rfl, rfl⟩
theorem sidx_36 (s : ByteArray) (n : Int) (hn : Lib.indexByte s.data.toList 36 = n) (w : World) : Calls Tryz.prog 100 #[.string s, .string ⟨#[36]⟩] w fun e w' => e = .returned (.int .i64 n) ∧ w' = w := by
  have C := fun W => idx_36 s n hn W
  clear hn
  go_enter Tryz.func100, Tryz.ntmps100
  go_wp2_with fail
  refine (C _).mono ?_
  rintro e w ⟨rfl, rfl⟩
  go_wp2
  go_ret
  exact ⟨rfl, rfl⟩
/-- strings.SplitN at a blank, into at most 65. -/
theorem splitN_any (s : ByteArray) (N : Nat) (hs : s.size ≤ 1000000) (hN : min 65 (s.size + 1) = N) (L : List ByteArray) (hL : Lib.splitB ⟨#[32]⟩ 0 (N - 1) s = L) (k : Nat) (hk : L.length = k) (w : World) :
    Calls Tryz.prog 98 #[.string s, .string ⟨#[32]⟩, .int .i64 65] w fun e w' => e = .returned (.slice (some ⟨w.heap.size, 0, none⟩) k N) ∧ w' = w.alloc (.cells (Lib.cellsOf L N) 9) := by
  have C : ∀ W, Calls Tryz.prog 127 #[.string s, .string ⟨#[32]⟩, .int .i64 0, .int .i64 65] W fun e w' => e = .returned (.slice (some ⟨W.heap.size, 0, none⟩) k N) ∧ w' = W.alloc (.cells (Lib.cellsOf L N) 9) := fun W => by
    have c := Any.strings_genSplit_core Tryz.laysS_Lays_221 info9s s ⟨#[32]⟩ 0 65 N W (by omega) (by decide) (by omega)
      (fun x c hx => by
        refine (sidx_32 x _ rfl _).mono ?_
        rintro e w' ⟨rfl, rfl⟩
        refine ⟨?_, rfl⟩
        rw [ib_is])
      (by
        refine (Any.strings_Count_one Tryz.laysS_Lays_138 s 32 W).mono ?_
        rintro e w' ⟨rfl, rfl⟩
        refine ⟨?_, rfl⟩
        show _ = Ending.returned (Value.int .i64 ((Lib.count s.data.toList [32] : Nat) : Int))
        rw [Lib.count_one]
        rfl)
      (by decide) (by decide) (by rw [if_neg (by decide), ← hN]; omega)
    rw [hL, hk] at c
    exact c
  clear hN hL hk hs
  go_enter Tryz.func98, Tryz.ntmps98
  go_wp2_with fail
  refine (C _).mono ?_
  rintro e w ⟨rfl, rfl⟩
  go_wp2
  go_ret
  exact ⟨rfl, rfl⟩
end YtnagecbepidfiaaGreatDoor.Pol
end Go.Proofs
