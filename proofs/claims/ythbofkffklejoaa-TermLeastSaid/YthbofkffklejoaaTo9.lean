/-
  The law of least solutions: walked with letter frames. No condition but where the terms lie.
-/
import Derived.Test.YthbofkffklejoaaSx6
namespace Go.Proofs.Ythbofkffklejoaa
open Go.RowKit Go.Maps
set_option linter.unusedVariables false
set_option linter.unusedSimpArgs false

theorem so {a a' : Act} {d k : Nat} {v u : Value} (he : a' = a.put (some d) v) (hk : a.tmps[k]? = some u) (hne : d ≠ k := by decide) : a'.tmps[k]? = some u := slot_on he hk hne
theorem bnd_of {l m : List Int} {M : Int} {i : Nat} (h : ∀ k, k < i → (l ++ m).getD k 0 < M) (hi : l.length ≤ i) : ∀ v ∈ l, v < M := fun v hv => by
  obtain ⟨k, hk, rfl⟩ := List.getElem_of_mem hv
  have h := h k (by omega)
  rw [List.getD_eq_getElem?_getD, List.getElem?_append_left hk, List.getElem?_eq_getElem hk] at h; exact h
def o5_0_0 : Oper := { dst := some 3, op := Go.Op.box 24 (Go.Operand.tmp 0), type := 0, pos := "law.go:129", after := #[], guard := none }
def o5_0_1 : Oper := { dst := some 4, op := Go.Op.box 24 (Go.Operand.tmp 1), type := 0, pos := "law.go:129", after := #[], guard := none }
def o5_0_2 : Oper := { dst := some 6, op := Go.Op.assign (Go.Operand.const (Go.Value.bool false)), type := 4, pos := "law.go:129", after := #[], guard := none }
def O5_0 : Array Oper := List.toArray (o5_0_0 :: o5_0_1 :: o5_0_2 :: [])
theorem g5_0_0 : O5_0[0]? = some o5_0_0 := rfl
theorem g5_0_1 : O5_0[1]? = some o5_0_1 := rfl
theorem g5_0_2 : O5_0[2]? = some o5_0_2 := rfl
def c5_1 : Code := Code.region 0 O5_0 false
def o5_1_0 : Oper := { dst := some 29, op := Go.Op.call { callee := Go.Callee.value (Go.Operand.func 13), args := #[], argTypes := #[] }, type := 4, pos := "law.go:130", after := #[], guard := none }
def o5_1_1 : Oper := { dst := some 30, op := Go.Op.unOp Go.UnOp.not 4 (Go.Operand.tmp 29), type := 4, pos := "law.go:130", after := #[{ on := 0, ground := Go.Ground.data }], guard := none }
def O5_1 : Array Oper := List.toArray (o5_1_0 :: o5_1_1 :: [])
theorem g5_1_0 : O5_1[0]? = some o5_1_0 := rfl
theorem g5_1_1 : O5_1[1]? = some o5_1_1 := rfl
def c5_4 : Code := Code.region 1 O5_1 false
def o5_2_0 : Oper := { dst := some 6, op := Go.Op.assign (Go.Operand.const (Go.Value.bool false)), type := 4, pos := "law.go:131", after := #[], guard := none }
def O5_2 : Array Oper := List.toArray (o5_2_0 :: [])
theorem g5_2_0 : O5_2[0]? = some o5_2_0 := rfl
def c5_7 : Code := Code.region 2 O5_2 false
def c5_6 : Code := Code.seq c5_7 Code.ret
def c5_5 : Code := Code.cond (Go.Operand.tmp 30) c5_6 Code.skip
def c5_3 : Code := Code.seq c5_4 c5_5
def o5_3_0 : Oper := { dst := some 32, op := Go.Op.load 24 (Go.Operand.tmp 3), type := 24, pos := "law.go:133", after := #[], guard := none }
def o5_3_1 : Oper := { dst := some 33, op := Go.Op.move (Go.Operand.tmp 2), type := 36, pos := "law.go:133", after := #[], guard := none }
def o5_3_2 : Oper := { dst := some 34, op := Go.Op.call { callee := Go.Callee.value (Go.Operand.func 30), args := #[Go.Operand.tmp 32, Go.Operand.tmp 33], argTypes := #[24, 36] }, type := 42, pos := "law.go:133", after := #[{ on := 0, ground := Go.Ground.data }, { on := 1, ground := Go.Ground.data }], guard := none }
def o5_3_3 : Oper := { dst := some 31, op := Go.Op.move (Go.Operand.tmp 34), type := 42, pos := "law.go:133", after := #[{ on := 2, ground := Go.Ground.data }], guard := none }
def o5_3_4 : Oper := { dst := some 35, op := Go.Op.extract (Go.Operand.tmp 31) 0, type := 24, pos := "law.go:133", after := #[{ on := 3, ground := Go.Ground.data }], guard := none }
def o5_3_5 : Oper := { dst := some 36, op := Go.Op.extract (Go.Operand.tmp 31) 1, type := 27, pos := "law.go:133", after := #[{ on := 3, ground := Go.Ground.data }, { on := 7, ground := Go.Ground.gcOnly Go.Departure.lateStores }], guard := none }
def o5_3_6 : Oper := { dst := some 7, op := Go.Op.alloc 24, type := 0, pos := "law.go:133", after := #[], guard := none }
def o5_3_7 : Oper := { dst := none, op := Go.Op.store 24 (Go.Operand.tmp 7) (Go.Operand.tmp 35), type := 0, pos := "law.go:133", after := #[{ on := 6, ground := Go.Ground.data }, { on := 4, ground := Go.Ground.data }, { on := 2, ground := Go.Ground.chain }, { on := 0, ground := Go.Ground.phase }, { on := 1, ground := Go.Ground.phase }, { on := 2, ground := Go.Ground.phase }, { on := 3, ground := Go.Ground.phase }, { on := 4, ground := Go.Ground.phase }, { on := 5, ground := Go.Ground.textOnly Go.Departure.lateStores }, { on := 6, ground := Go.Ground.phase }], guard := none }
def o5_3_8 : Oper := { dst := some 8, op := Go.Op.assign (Go.Operand.tmp 36), type := 27, pos := "law.go:133", after := #[{ on := 5, ground := Go.Ground.data }, { on := 7, ground := Go.Ground.chain }, { on := 0, ground := Go.Ground.phase }, { on := 1, ground := Go.Ground.phase }, { on := 2, ground := Go.Ground.phase }, { on := 3, ground := Go.Ground.phase }, { on := 4, ground := Go.Ground.phase }, { on := 5, ground := Go.Ground.phase }, { on := 6, ground := Go.Ground.phase }, { on := 7, ground := Go.Ground.phase }], guard := none }
def O5_3 : Array Oper := List.toArray (o5_3_0 :: o5_3_1 :: o5_3_2 :: o5_3_3 :: o5_3_4 :: o5_3_5 :: o5_3_6 :: o5_3_7 :: o5_3_8 :: [])
theorem g5_3_0 : O5_3[0]? = some o5_3_0 := rfl
theorem g5_3_1 : O5_3[1]? = some o5_3_1 := rfl
theorem g5_3_2 : O5_3[2]? = some o5_3_2 := rfl
theorem g5_3_3 : O5_3[3]? = some o5_3_3 := rfl
theorem g5_3_4 : O5_3[4]? = some o5_3_4 := rfl
theorem g5_3_5 : O5_3[5]? = some o5_3_5 := rfl
theorem g5_3_6 : O5_3[6]? = some o5_3_6 := rfl
theorem g5_3_7 : O5_3[7]? = some o5_3_7 := rfl
theorem g5_3_8 : O5_3[8]? = some o5_3_8 := rfl
def c5_11 : Code := Code.region 3 O5_3 false
def o5_4_0 : Oper := { dst := some 38, op := Go.Op.load 24 (Go.Operand.tmp 4), type := 24, pos := "law.go:134", after := #[], guard := none }
def o5_4_1 : Oper := { dst := some 39, op := Go.Op.move (Go.Operand.tmp 2), type := 36, pos := "law.go:134", after := #[], guard := none }
def o5_4_2 : Oper := { dst := some 40, op := Go.Op.call { callee := Go.Callee.value (Go.Operand.func 30), args := #[Go.Operand.tmp 38, Go.Operand.tmp 39], argTypes := #[24, 36] }, type := 42, pos := "law.go:134", after := #[{ on := 0, ground := Go.Ground.data }, { on := 1, ground := Go.Ground.data }], guard := none }
def o5_4_3 : Oper := { dst := some 37, op := Go.Op.move (Go.Operand.tmp 40), type := 42, pos := "law.go:134", after := #[{ on := 2, ground := Go.Ground.data }], guard := none }
def o5_4_4 : Oper := { dst := some 41, op := Go.Op.extract (Go.Operand.tmp 37) 0, type := 24, pos := "law.go:134", after := #[{ on := 3, ground := Go.Ground.data }], guard := none }
def o5_4_5 : Oper := { dst := some 42, op := Go.Op.extract (Go.Operand.tmp 37) 1, type := 27, pos := "law.go:134", after := #[{ on := 3, ground := Go.Ground.data }, { on := 7, ground := Go.Ground.gcOnly Go.Departure.lateStores }], guard := none }
def o5_4_6 : Oper := { dst := some 9, op := Go.Op.alloc 24, type := 0, pos := "law.go:134", after := #[], guard := none }
def o5_4_7 : Oper := { dst := none, op := Go.Op.store 24 (Go.Operand.tmp 9) (Go.Operand.tmp 41), type := 0, pos := "law.go:134", after := #[{ on := 6, ground := Go.Ground.data }, { on := 4, ground := Go.Ground.data }, { on := 2, ground := Go.Ground.chain }, { on := 0, ground := Go.Ground.phase }, { on := 1, ground := Go.Ground.phase }, { on := 2, ground := Go.Ground.phase }, { on := 3, ground := Go.Ground.phase }, { on := 4, ground := Go.Ground.phase }, { on := 5, ground := Go.Ground.textOnly Go.Departure.lateStores }, { on := 6, ground := Go.Ground.phase }], guard := none }
def o5_4_8 : Oper := { dst := some 10, op := Go.Op.assign (Go.Operand.tmp 42), type := 27, pos := "law.go:134", after := #[{ on := 5, ground := Go.Ground.data }, { on := 7, ground := Go.Ground.chain }, { on := 0, ground := Go.Ground.phase }, { on := 1, ground := Go.Ground.phase }, { on := 2, ground := Go.Ground.phase }, { on := 3, ground := Go.Ground.phase }, { on := 4, ground := Go.Ground.phase }, { on := 5, ground := Go.Ground.phase }, { on := 6, ground := Go.Ground.phase }, { on := 7, ground := Go.Ground.phase }], guard := none }
def O5_4 : Array Oper := List.toArray (o5_4_0 :: o5_4_1 :: o5_4_2 :: o5_4_3 :: o5_4_4 :: o5_4_5 :: o5_4_6 :: o5_4_7 :: o5_4_8 :: [])
theorem g5_4_0 : O5_4[0]? = some o5_4_0 := rfl
theorem g5_4_1 : O5_4[1]? = some o5_4_1 := rfl
theorem g5_4_2 : O5_4[2]? = some o5_4_2 := rfl
theorem g5_4_3 : O5_4[3]? = some o5_4_3 := rfl
theorem g5_4_4 : O5_4[4]? = some o5_4_4 := rfl
theorem g5_4_5 : O5_4[5]? = some o5_4_5 := rfl
theorem g5_4_6 : O5_4[6]? = some o5_4_6 := rfl
theorem g5_4_7 : O5_4[7]? = some o5_4_7 := rfl
theorem g5_4_8 : O5_4[8]? = some o5_4_8 := rfl
def c5_13 : Code := Code.region 4 O5_4 false
def o5_5_0 : Oper := { dst := some 43, op := Go.Op.move (Go.Operand.tmp 8), type := 27, pos := "law.go:135", after := #[], guard := none }
def o5_5_1 : Oper := { dst := some 44, op := Go.Op.binOp Go.BinOp.neq 27 (Go.Operand.tmp 43) (Go.Operand.const (Go.Value.int Go.IntKind.i64 0)) 27, type := 4, pos := "law.go:135", after := #[{ on := 0, ground := Go.Ground.data }], guard := none }
def o5_5_2 : Oper := { dst := some 45, op := Go.Op.move (Go.Operand.tmp 44), type := 4, pos := "law.go:135", after := #[{ on := 1, ground := Go.Ground.data }], guard := none }
def o5_5_3 : Oper := { dst := some 46, op := Go.Op.move (Go.Operand.tmp 10), type := 27, pos := "law.go:135", after := #[{ on := 2, ground := Go.Ground.guard }], guard := some (2, false) }
def o5_5_4 : Oper := { dst := some 47, op := Go.Op.binOp Go.BinOp.neq 27 (Go.Operand.tmp 46) (Go.Operand.const (Go.Value.int Go.IntKind.i64 0)) 27, type := 4, pos := "law.go:135", after := #[{ on := 3, ground := Go.Ground.data }, { on := 2, ground := Go.Ground.guard }], guard := some (2, false) }
def o5_5_5 : Oper := { dst := some 48, op := Go.Op.pick (Go.Operand.tmp 45) (Go.Operand.const (Go.Value.bool true)) (Go.Operand.tmp 47), type := 4, pos := "law.go:135", after := #[{ on := 2, ground := Go.Ground.data }, { on := 4, ground := Go.Ground.data }], guard := none }
def o5_5_6 : Oper := { dst := some 49, op := Go.Op.move (Go.Operand.tmp 48), type := 4, pos := "law.go:135", after := #[{ on := 5, ground := Go.Ground.data }, { on := 2, ground := Go.Ground.chain }], guard := none }
def o5_5_7 : Oper := { dst := some 50, op := Go.Op.load 24 (Go.Operand.tmp 7), type := 24, pos := "law.go:135", after := #[{ on := 6, ground := Go.Ground.guard }], guard := some (6, false) }
def o5_5_8 : Oper := { dst := some 51, op := Go.Op.load 24 (Go.Operand.tmp 9), type := 24, pos := "law.go:135", after := #[{ on := 6, ground := Go.Ground.guard }], guard := some (6, false) }
def o5_5_9 : Oper := { dst := some 52, op := Go.Op.call { callee := Go.Callee.value (Go.Operand.func 19), args := #[Go.Operand.tmp 50, Go.Operand.tmp 51], argTypes := #[24, 24] }, type := 4, pos := "law.go:135", after := #[{ on := 7, ground := Go.Ground.data }, { on := 8, ground := Go.Ground.data }, { on := 6, ground := Go.Ground.chain }, { on := 6, ground := Go.Ground.guard }], guard := some (6, false) }
def o5_5_10 : Oper := { dst := some 53, op := Go.Op.unOp Go.UnOp.not 4 (Go.Operand.tmp 52), type := 4, pos := "law.go:135", after := #[{ on := 9, ground := Go.Ground.data }, { on := 6, ground := Go.Ground.guard }], guard := some (6, false) }
def o5_5_11 : Oper := { dst := some 54, op := Go.Op.pick (Go.Operand.tmp 49) (Go.Operand.const (Go.Value.bool true)) (Go.Operand.tmp 53), type := 4, pos := "law.go:135", after := #[{ on := 6, ground := Go.Ground.data }, { on := 10, ground := Go.Ground.data }], guard := none }
def O5_5 : Array Oper := List.toArray (o5_5_0 :: o5_5_1 :: o5_5_2 :: o5_5_3 :: o5_5_4 :: o5_5_5 :: o5_5_6 :: o5_5_7 :: o5_5_8 :: o5_5_9 :: o5_5_10 :: o5_5_11 :: [])
theorem g5_5_0 : O5_5[0]? = some o5_5_0 := rfl
theorem g5_5_1 : O5_5[1]? = some o5_5_1 := rfl
theorem g5_5_2 : O5_5[2]? = some o5_5_2 := rfl
theorem g5_5_3 : O5_5[3]? = some o5_5_3 := rfl
theorem g5_5_4 : O5_5[4]? = some o5_5_4 := rfl
theorem g5_5_5 : O5_5[5]? = some o5_5_5 := rfl
theorem g5_5_6 : O5_5[6]? = some o5_5_6 := rfl
theorem g5_5_7 : O5_5[7]? = some o5_5_7 := rfl
theorem g5_5_8 : O5_5[8]? = some o5_5_8 := rfl
theorem g5_5_9 : O5_5[9]? = some o5_5_9 := rfl
theorem g5_5_10 : O5_5[10]? = some o5_5_10 := rfl
theorem g5_5_11 : O5_5[11]? = some o5_5_11 := rfl
def c5_16 : Code := Code.region 5 O5_5 false
def o5_6_0 : Oper := { dst := some 6, op := Go.Op.assign (Go.Operand.const (Go.Value.bool true)), type := 4, pos := "law.go:136", after := #[], guard := none }
def O5_6 : Array Oper := List.toArray (o5_6_0 :: [])
theorem g5_6_0 : O5_6[0]? = some o5_6_0 := rfl
def c5_19 : Code := Code.region 6 O5_6 false
def c5_18 : Code := Code.seq c5_19 Code.ret
def c5_17 : Code := Code.cond (Go.Operand.tmp 54) c5_18 Code.skip
def c5_15 : Code := Code.seq c5_16 c5_17
def o5_7_0 : Oper := { dst := some 55, op := Go.Op.load 24 (Go.Operand.tmp 3), type := 24, pos := "law.go:138", after := #[], guard := none }
def o5_7_1 : Oper := { dst := some 56, op := Go.Op.call { callee := Go.Callee.value (Go.Operand.func 18), args := #[Go.Operand.tmp 55], argTypes := #[24] }, type := 30, pos := "law.go:138", after := #[{ on := 0, ground := Go.Ground.data }], guard := none }
def o5_7_2 : Oper := { dst := some 57, op := Go.Op.load 24 (Go.Operand.tmp 4), type := 24, pos := "law.go:138", after := #[], guard := none }
def o5_7_3 : Oper := { dst := some 58, op := Go.Op.call { callee := Go.Callee.value (Go.Operand.func 18), args := #[Go.Operand.tmp 57], argTypes := #[24] }, type := 30, pos := "law.go:138", after := #[{ on := 2, ground := Go.Ground.data }, { on := 1, ground := Go.Ground.chain }], guard := none }
def o5_7_4 : Oper := { dst := some 59, op := Go.Op.call { callee := Go.Callee.builtin Go.Builtin.append, args := #[Go.Operand.tmp 56, Go.Operand.tmp 58], argTypes := #[30, 30] }, type := 30, pos := "law.go:138", after := #[{ on := 1, ground := Go.Ground.data }, { on := 3, ground := Go.Ground.data }, { on := 3, ground := Go.Ground.chain }], guard := none }
def o5_7_5 : Oper := { dst := some 11, op := Go.Op.assign (Go.Operand.tmp 59), type := 30, pos := "law.go:138", after := #[{ on := 4, ground := Go.Ground.data }, { on := 4, ground := Go.Ground.chain }, { on := 0, ground := Go.Ground.phase }, { on := 1, ground := Go.Ground.phase }, { on := 2, ground := Go.Ground.phase }, { on := 3, ground := Go.Ground.phase }, { on := 4, ground := Go.Ground.phase }], guard := none }
def O5_7 : Array Oper := List.toArray (o5_7_0 :: o5_7_1 :: o5_7_2 :: o5_7_3 :: o5_7_4 :: o5_7_5 :: [])
theorem g5_7_0 : O5_7[0]? = some o5_7_0 := rfl
theorem g5_7_1 : O5_7[1]? = some o5_7_1 := rfl
theorem g5_7_2 : O5_7[2]? = some o5_7_2 := rfl
theorem g5_7_3 : O5_7[3]? = some o5_7_3 := rfl
theorem g5_7_4 : O5_7[4]? = some o5_7_4 := rfl
theorem g5_7_5 : O5_7[5]? = some o5_7_5 := rfl
theorem ns5_7 : Region.noSelect O5_7 = true := by kernel_rfl
def c5_23 : Code := Code.region 7 O5_7 true
def o5_8_0 : Oper := { dst := some 60, op := Go.Op.load 24 (Go.Operand.tmp 7), type := 24, pos := "law.go:139", after := #[], guard := none }
def o5_8_1 : Oper := { dst := some 61, op := Go.Op.call { callee := Go.Callee.value (Go.Operand.func 18), args := #[Go.Operand.tmp 60], argTypes := #[24] }, type := 30, pos := "law.go:139", after := #[{ on := 0, ground := Go.Ground.data }], guard := none }
def o5_8_2 : Oper := { dst := some 62, op := Go.Op.move (Go.Operand.tmp 11), type := 30, pos := "law.go:139", after := #[], guard := none }
def o5_8_3 : Oper := { dst := some 63, op := Go.Op.call { callee := Go.Callee.builtin Go.Builtin.append, args := #[Go.Operand.tmp 61, Go.Operand.tmp 62], argTypes := #[30, 30] }, type := 30, pos := "law.go:139", after := #[{ on := 1, ground := Go.Ground.data }, { on := 2, ground := Go.Ground.data }, { on := 1, ground := Go.Ground.chain }], guard := none }
def o5_8_4 : Oper := { dst := some 64, op := Go.Op.call { callee := Go.Callee.builtin Go.Builtin.len, args := #[Go.Operand.tmp 63], argTypes := #[30] }, type := 3, pos := "law.go:139", after := #[{ on := 3, ground := Go.Ground.data }], guard := none }
def o5_8_5 : Oper := { dst := some 65, op := Go.Op.move (Go.Operand.const (Go.Value.int Go.IntKind.i64 0)), type := 3, pos := "law.go:139", after := #[], guard := none }
def O5_8 : Array Oper := List.toArray (o5_8_0 :: o5_8_1 :: o5_8_2 :: o5_8_3 :: o5_8_4 :: o5_8_5 :: [])
theorem g5_8_0 : O5_8[0]? = some o5_8_0 := rfl
theorem g5_8_1 : O5_8[1]? = some o5_8_1 := rfl
theorem g5_8_2 : O5_8[2]? = some o5_8_2 := rfl
theorem g5_8_3 : O5_8[3]? = some o5_8_3 := rfl
theorem g5_8_4 : O5_8[4]? = some o5_8_4 := rfl
theorem g5_8_5 : O5_8[5]? = some o5_8_5 := rfl
def c5_26 : Code := Code.region 8 O5_8 false
def o5_9_0 : Oper := { dst := some 66, op := Go.Op.binOp Go.BinOp.lss 3 (Go.Operand.tmp 65) (Go.Operand.tmp 64) 3, type := 0, pos := "law.go:139", after := #[], guard := none }
def O5_9 : Array Oper := List.toArray (o5_9_0 :: [])
theorem g5_9_0 : O5_9[0]? = some o5_9_0 := rfl
def c5_30 : Code := Code.region 9 O5_9 false
def c5_34 : Code := Code.exit 0
def c5_32 : Code := Code.cond (Go.Operand.tmp 66) Code.skip c5_34
def o5_10_0 : Oper := { dst := some 67, op := Go.Op.indexAddr 30 (Go.Operand.tmp 63) (Go.Operand.tmp 65), type := 0, pos := "law.go:139", after := #[], guard := none }
def o5_10_1 : Oper := { dst := some 68, op := Go.Op.load 2 (Go.Operand.tmp 67), type := 2, pos := "law.go:139", after := #[{ on := 0, ground := Go.Ground.data }], guard := none }
def o5_10_2 : Oper := { dst := some 13, op := Go.Op.assign (Go.Operand.tmp 68), type := 2, pos := "law.go:139", after := #[{ on := 1, ground := Go.Ground.data }, { on := 0, ground := Go.Ground.phase }, { on := 1, ground := Go.Ground.phase }], guard := none }
def O5_10 : Array Oper := List.toArray (o5_10_0 :: o5_10_1 :: o5_10_2 :: [])
theorem g5_10_0 : O5_10[0]? = some o5_10_0 := rfl
theorem g5_10_1 : O5_10[1]? = some o5_10_1 := rfl
theorem g5_10_2 : O5_10[2]? = some o5_10_2 := rfl
def c5_38 : Code := Code.region 10 O5_10 false
def o5_11_0 : Oper := { dst := some 69, op := Go.Op.move (Go.Operand.tmp 13), type := 2, pos := "law.go:140", after := #[], guard := none }
def o5_11_1 : Oper := { dst := some 70, op := Go.Op.binOp Go.BinOp.geq 2 (Go.Operand.tmp 69) (Go.Operand.const (Go.Value.int Go.IntKind.i64 1099511627776)) 2, type := 4, pos := "law.go:140", after := #[{ on := 0, ground := Go.Ground.data }], guard := none }
def O5_11 : Array Oper := List.toArray (o5_11_0 :: o5_11_1 :: [])
theorem g5_11_0 : O5_11[0]? = some o5_11_0 := rfl
theorem g5_11_1 : O5_11[1]? = some o5_11_1 := rfl
def c5_40 : Code := Code.region 11 O5_11 false
def o5_12_0 : Oper := { dst := some 6, op := Go.Op.assign (Go.Operand.const (Go.Value.bool true)), type := 4, pos := "law.go:141", after := #[], guard := none }
def O5_12 : Array Oper := List.toArray (o5_12_0 :: [])
theorem g5_12_0 : O5_12[0]? = some o5_12_0 := rfl
def c5_43 : Code := Code.region 12 O5_12 false
def c5_42 : Code := Code.seq c5_43 Code.ret
def c5_41 : Code := Code.cond (Go.Operand.tmp 70) c5_42 Code.skip
def c5_39 : Code := Code.seq c5_40 c5_41
def c5_37 : Code := Code.seq c5_38 c5_39
def c5_36 : Code := Code.block 1 c5_37
def o5_13_0 : Oper := { dst := some 71, op := Go.Op.binOp Go.BinOp.add 3 (Go.Operand.tmp 65) (Go.Operand.const (Go.Value.int Go.IntKind.i64 1)) 3, type := 3, pos := "law.go:139", after := #[], guard := none }
def o5_13_1 : Oper := { dst := some 65, op := Go.Op.move (Go.Operand.tmp 71), type := 3, pos := "law.go:139", after := #[{ on := 0, ground := Go.Ground.data }], guard := none }
def O5_13 : Array Oper := List.toArray (o5_13_0 :: o5_13_1 :: [])
theorem g5_13_0 : O5_13[0]? = some o5_13_0 := rfl
theorem g5_13_1 : O5_13[1]? = some o5_13_1 := rfl
def c5_46 : Code := Code.region 13 O5_13 false
def c5_35 : Code := Code.seq c5_36 c5_46
def c5_31 : Code := Code.seq c5_32 c5_35
def c5_29 : Code := Code.seq c5_30 c5_31
def c5_28 : Code := Code.loop c5_29
def c5_27 : Code := Code.block 0 c5_28
def c5_25 : Code := Code.seq c5_26 c5_27
def o5_14_0 : Oper := { dst := some 72, op := Go.Op.move (Go.Operand.tmp 2), type := 36, pos := "law.go:144", after := #[], guard := none }
def o5_14_1 : Oper := { dst := some 73, op := Go.Op.call { callee := Go.Callee.builtin Go.Builtin.len, args := #[Go.Operand.tmp 72], argTypes := #[36] }, type := 3, pos := "law.go:144", after := #[{ on := 0, ground := Go.Ground.data }], guard := none }
def o5_14_2 : Oper := { dst := some 74, op := Go.Op.move (Go.Operand.const (Go.Value.int Go.IntKind.i64 0)), type := 3, pos := "law.go:144", after := #[], guard := none }
def O5_14 : Array Oper := List.toArray (o5_14_0 :: o5_14_1 :: o5_14_2 :: [])
theorem g5_14_0 : O5_14[0]? = some o5_14_0 := rfl
theorem g5_14_1 : O5_14[1]? = some o5_14_1 := rfl
theorem g5_14_2 : O5_14[2]? = some o5_14_2 := rfl
def c5_49 : Code := Code.region 14 O5_14 false
def o5_15_0 : Oper := { dst := some 75, op := Go.Op.binOp Go.BinOp.lss 3 (Go.Operand.tmp 74) (Go.Operand.tmp 73) 3, type := 0, pos := "law.go:144", after := #[], guard := none }
def O5_15 : Array Oper := List.toArray (o5_15_0 :: [])
theorem g5_15_0 : O5_15[0]? = some o5_15_0 := rfl
def c5_53 : Code := Code.region 15 O5_15 false
def c5_57 : Code := Code.exit 2
def c5_55 : Code := Code.cond (Go.Operand.tmp 75) Code.skip c5_57
def o5_16_0 : Oper := { dst := some 76, op := Go.Op.indexAddr 36 (Go.Operand.tmp 72) (Go.Operand.tmp 74), type := 0, pos := "law.go:144", after := #[], guard := none }
def o5_16_1 : Oper := { dst := some 77, op := Go.Op.load 41 (Go.Operand.tmp 76), type := 41, pos := "law.go:144", after := #[{ on := 0, ground := Go.Ground.data }], guard := none }
def o5_16_2 : Oper := { dst := some 15, op := Go.Op.alloc 41, type := 0, pos := "law.go:144", after := #[], guard := none }
def o5_16_3 : Oper := { dst := none, op := Go.Op.store 41 (Go.Operand.tmp 15) (Go.Operand.tmp 77), type := 0, pos := "law.go:144", after := #[{ on := 2, ground := Go.Ground.data }, { on := 1, ground := Go.Ground.data }, { on := 0, ground := Go.Ground.phase }, { on := 1, ground := Go.Ground.phase }, { on := 2, ground := Go.Ground.phase }], guard := none }
def O5_16 : Array Oper := List.toArray (o5_16_0 :: o5_16_1 :: o5_16_2 :: o5_16_3 :: [])
theorem g5_16_0 : O5_16[0]? = some o5_16_0 := rfl
theorem g5_16_1 : O5_16[1]? = some o5_16_1 := rfl
theorem g5_16_2 : O5_16[2]? = some o5_16_2 := rfl
theorem g5_16_3 : O5_16[3]? = some o5_16_3 := rfl
def c5_61 : Code := Code.region 16 O5_16 false
def o5_17_0 : Oper := { dst := some 78, op := Go.Op.move (Go.Operand.tmp 11), type := 30, pos := "law.go:145", after := #[], guard := none }
def o5_17_1 : Oper := { dst := some 79, op := Go.Op.fieldAddr 41 (Go.Operand.tmp 15) 0, type := 0, pos := "law.go:145", after := #[], guard := none }
def o5_17_2 : Oper := { dst := some 80, op := Go.Op.load 2 (Go.Operand.tmp 79), type := 2, pos := "law.go:145", after := #[{ on := 1, ground := Go.Ground.data }], guard := none }
def o5_17_3 : Oper := { dst := some 81, op := Go.Op.call { callee := Go.Callee.value (Go.Operand.func 31), args := #[Go.Operand.tmp 78, Go.Operand.tmp 80], argTypes := #[30, 2] }, type := 4, pos := "law.go:145", after := #[{ on := 0, ground := Go.Ground.data }, { on := 2, ground := Go.Ground.data }], guard := none }
def o5_17_4 : Oper := { dst := some 82, op := Go.Op.unOp Go.UnOp.not 4 (Go.Operand.tmp 81), type := 4, pos := "law.go:145", after := #[{ on := 3, ground := Go.Ground.data }], guard := none }
def O5_17 : Array Oper := List.toArray (o5_17_0 :: o5_17_1 :: o5_17_2 :: o5_17_3 :: o5_17_4 :: [])
theorem g5_17_0 : O5_17[0]? = some o5_17_0 := rfl
theorem g5_17_1 : O5_17[1]? = some o5_17_1 := rfl
theorem g5_17_2 : O5_17[2]? = some o5_17_2 := rfl
theorem g5_17_3 : O5_17[3]? = some o5_17_3 := rfl
theorem g5_17_4 : O5_17[4]? = some o5_17_4 := rfl
def c5_64 : Code := Code.region 17 O5_17 false
def c5_66 : Code := Code.exit 3
def c5_65 : Code := Code.cond (Go.Operand.tmp 82) c5_66 Code.skip
def c5_63 : Code := Code.seq c5_64 c5_65
def o5_18_0 : Oper := { dst := some 83, op := Go.Op.fieldAddr 41 (Go.Operand.tmp 15) 1, type := 0, pos := "law.go:148", after := #[], guard := none }
def o5_18_1 : Oper := { dst := some 84, op := Go.Op.load 24 (Go.Operand.tmp 83), type := 24, pos := "law.go:148", after := #[{ on := 0, ground := Go.Ground.data }], guard := none }
def o5_18_2 : Oper := { dst := some 85, op := Go.Op.call { callee := Go.Callee.value (Go.Operand.func 18), args := #[Go.Operand.tmp 84], argTypes := #[24] }, type := 30, pos := "law.go:148", after := #[{ on := 1, ground := Go.Ground.data }], guard := none }
def o5_18_3 : Oper := { dst := some 86, op := Go.Op.call { callee := Go.Callee.builtin Go.Builtin.len, args := #[Go.Operand.tmp 85], argTypes := #[30] }, type := 3, pos := "law.go:148", after := #[{ on := 2, ground := Go.Ground.data }], guard := none }
def o5_18_4 : Oper := { dst := some 87, op := Go.Op.move (Go.Operand.const (Go.Value.int Go.IntKind.i64 0)), type := 3, pos := "law.go:148", after := #[], guard := none }
def O5_18 : Array Oper := List.toArray (o5_18_0 :: o5_18_1 :: o5_18_2 :: o5_18_3 :: o5_18_4 :: [])
theorem g5_18_0 : O5_18[0]? = some o5_18_0 := rfl
theorem g5_18_1 : O5_18[1]? = some o5_18_1 := rfl
theorem g5_18_2 : O5_18[2]? = some o5_18_2 := rfl
theorem g5_18_3 : O5_18[3]? = some o5_18_3 := rfl
theorem g5_18_4 : O5_18[4]? = some o5_18_4 := rfl
def c5_69 : Code := Code.region 18 O5_18 false
def o5_19_0 : Oper := { dst := some 88, op := Go.Op.binOp Go.BinOp.lss 3 (Go.Operand.tmp 87) (Go.Operand.tmp 86) 3, type := 0, pos := "law.go:148", after := #[], guard := none }
def O5_19 : Array Oper := List.toArray (o5_19_0 :: [])
theorem g5_19_0 : O5_19[0]? = some o5_19_0 := rfl
def c5_73 : Code := Code.region 19 O5_19 false
def c5_77 : Code := Code.exit 4
def c5_75 : Code := Code.cond (Go.Operand.tmp 88) Code.skip c5_77
def o5_20_0 : Oper := { dst := some 89, op := Go.Op.indexAddr 30 (Go.Operand.tmp 85) (Go.Operand.tmp 87), type := 0, pos := "law.go:148", after := #[], guard := none }
def o5_20_1 : Oper := { dst := some 90, op := Go.Op.load 2 (Go.Operand.tmp 89), type := 2, pos := "law.go:148", after := #[{ on := 0, ground := Go.Ground.data }], guard := none }
def o5_20_2 : Oper := { dst := some 17, op := Go.Op.assign (Go.Operand.tmp 90), type := 2, pos := "law.go:148", after := #[{ on := 1, ground := Go.Ground.data }, { on := 0, ground := Go.Ground.phase }, { on := 1, ground := Go.Ground.phase }], guard := none }
def O5_20 : Array Oper := List.toArray (o5_20_0 :: o5_20_1 :: o5_20_2 :: [])
theorem g5_20_0 : O5_20[0]? = some o5_20_0 := rfl
theorem g5_20_1 : O5_20[1]? = some o5_20_1 := rfl
theorem g5_20_2 : O5_20[2]? = some o5_20_2 := rfl
def c5_81 : Code := Code.region 20 O5_20 false
def o5_21_0 : Oper := { dst := some 91, op := Go.Op.move (Go.Operand.tmp 11), type := 30, pos := "law.go:149", after := #[], guard := none }
def o5_21_1 : Oper := { dst := some 92, op := Go.Op.move (Go.Operand.tmp 17), type := 2, pos := "law.go:149", after := #[], guard := none }
def o5_21_2 : Oper := { dst := some 93, op := Go.Op.call { callee := Go.Callee.value (Go.Operand.func 31), args := #[Go.Operand.tmp 91, Go.Operand.tmp 92], argTypes := #[30, 2] }, type := 4, pos := "law.go:149", after := #[{ on := 0, ground := Go.Ground.data }, { on := 1, ground := Go.Ground.data }], guard := none }
def O5_21 : Array Oper := List.toArray (o5_21_0 :: o5_21_1 :: o5_21_2 :: [])
theorem g5_21_0 : O5_21[0]? = some o5_21_0 := rfl
theorem g5_21_1 : O5_21[1]? = some o5_21_1 := rfl
theorem g5_21_2 : O5_21[2]? = some o5_21_2 := rfl
def c5_83 : Code := Code.region 21 O5_21 false
def o5_22_0 : Oper := { dst := some 6, op := Go.Op.assign (Go.Operand.const (Go.Value.bool true)), type := 4, pos := "law.go:150", after := #[], guard := none }
def O5_22 : Array Oper := List.toArray (o5_22_0 :: [])
theorem g5_22_0 : O5_22[0]? = some o5_22_0 := rfl
def c5_86 : Code := Code.region 22 O5_22 false
def c5_85 : Code := Code.seq c5_86 Code.ret
def c5_84 : Code := Code.cond (Go.Operand.tmp 93) c5_85 Code.skip
def c5_82 : Code := Code.seq c5_83 c5_84
def c5_80 : Code := Code.seq c5_81 c5_82
def c5_79 : Code := Code.block 5 c5_80
def o5_23_0 : Oper := { dst := some 94, op := Go.Op.binOp Go.BinOp.add 3 (Go.Operand.tmp 87) (Go.Operand.const (Go.Value.int Go.IntKind.i64 1)) 3, type := 3, pos := "law.go:148", after := #[], guard := none }
def o5_23_1 : Oper := { dst := some 87, op := Go.Op.move (Go.Operand.tmp 94), type := 3, pos := "law.go:148", after := #[{ on := 0, ground := Go.Ground.data }], guard := none }
def O5_23 : Array Oper := List.toArray (o5_23_0 :: o5_23_1 :: [])
theorem g5_23_0 : O5_23[0]? = some o5_23_0 := rfl
theorem g5_23_1 : O5_23[1]? = some o5_23_1 := rfl
def c5_89 : Code := Code.region 23 O5_23 false
def c5_78 : Code := Code.seq c5_79 c5_89
def c5_74 : Code := Code.seq c5_75 c5_78
def c5_72 : Code := Code.seq c5_73 c5_74
def c5_71 : Code := Code.loop c5_72
def c5_70 : Code := Code.block 4 c5_71
def c5_68 : Code := Code.seq c5_69 c5_70
def c5_62 : Code := Code.seq c5_63 c5_68
def c5_60 : Code := Code.seq c5_61 c5_62
def c5_59 : Code := Code.block 3 c5_60
def o5_24_0 : Oper := { dst := some 95, op := Go.Op.binOp Go.BinOp.add 3 (Go.Operand.tmp 74) (Go.Operand.const (Go.Value.int Go.IntKind.i64 1)) 3, type := 3, pos := "law.go:144", after := #[], guard := none }
def o5_24_1 : Oper := { dst := some 74, op := Go.Op.move (Go.Operand.tmp 95), type := 3, pos := "law.go:144", after := #[{ on := 0, ground := Go.Ground.data }], guard := none }
def O5_24 : Array Oper := List.toArray (o5_24_0 :: o5_24_1 :: [])
theorem g5_24_0 : O5_24[0]? = some o5_24_0 := rfl
theorem g5_24_1 : O5_24[1]? = some o5_24_1 := rfl
def c5_90 : Code := Code.region 24 O5_24 false
def c5_58 : Code := Code.seq c5_59 c5_90
def c5_54 : Code := Code.seq c5_55 c5_58
def c5_52 : Code := Code.seq c5_53 c5_54
def c5_51 : Code := Code.loop c5_52
def c5_50 : Code := Code.block 2 c5_51
def c5_48 : Code := Code.seq c5_49 c5_50
def o5_25_0 : Oper := { dst := some 97, op := Go.Op.load 24 (Go.Operand.tmp 3), type := 24, pos := "law.go:154", after := #[], guard := none }
def o5_25_1 : Oper := { dst := some 98, op := Go.Op.load 24 (Go.Operand.tmp 4), type := 24, pos := "law.go:154", after := #[], guard := none }
def o5_25_2 : Oper := { dst := some 99, op := Go.Op.call { callee := Go.Callee.value (Go.Operand.func 28), args := #[Go.Operand.tmp 97, Go.Operand.tmp 98], argTypes := #[24, 24] }, type := 37, pos := "law.go:154", after := #[{ on := 0, ground := Go.Ground.data }, { on := 1, ground := Go.Ground.data }], guard := none }
def o5_25_3 : Oper := { dst := some 96, op := Go.Op.move (Go.Operand.tmp 99), type := 37, pos := "law.go:154", after := #[{ on := 2, ground := Go.Ground.data }], guard := none }
def o5_25_4 : Oper := { dst := some 100, op := Go.Op.extract (Go.Operand.tmp 96) 0, type := 36, pos := "law.go:154", after := #[{ on := 3, ground := Go.Ground.data }], guard := none }
def o5_25_5 : Oper := { dst := some 101, op := Go.Op.extract (Go.Operand.tmp 96) 1, type := 4, pos := "law.go:154", after := #[{ on := 3, ground := Go.Ground.data }, { on := 7, ground := Go.Ground.gcOnly Go.Departure.lateStores }], guard := none }
def o5_25_6 : Oper := { dst := some 102, op := Go.Op.extract (Go.Operand.tmp 96) 2, type := 27, pos := "law.go:154", after := #[{ on := 3, ground := Go.Ground.data }, { on := 8, ground := Go.Ground.gcOnly Go.Departure.lateStores }], guard := none }
def o5_25_7 : Oper := { dst := some 18, op := Go.Op.assign (Go.Operand.tmp 100), type := 36, pos := "law.go:154", after := #[{ on := 4, ground := Go.Ground.data }, { on := 2, ground := Go.Ground.chain }, { on := 0, ground := Go.Ground.phase }, { on := 1, ground := Go.Ground.phase }, { on := 2, ground := Go.Ground.phase }, { on := 3, ground := Go.Ground.phase }, { on := 4, ground := Go.Ground.phase }, { on := 5, ground := Go.Ground.textOnly Go.Departure.lateStores }, { on := 6, ground := Go.Ground.textOnly Go.Departure.lateStores }], guard := none }
def o5_25_8 : Oper := { dst := some 19, op := Go.Op.assign (Go.Operand.tmp 101), type := 4, pos := "law.go:154", after := #[{ on := 5, ground := Go.Ground.data }, { on := 7, ground := Go.Ground.chain }, { on := 0, ground := Go.Ground.phase }, { on := 1, ground := Go.Ground.phase }, { on := 2, ground := Go.Ground.phase }, { on := 3, ground := Go.Ground.phase }, { on := 4, ground := Go.Ground.phase }, { on := 5, ground := Go.Ground.phase }, { on := 6, ground := Go.Ground.textOnly Go.Departure.lateStores }, { on := 7, ground := Go.Ground.phase }], guard := none }
def o5_25_9 : Oper := { dst := some 20, op := Go.Op.assign (Go.Operand.tmp 102), type := 27, pos := "law.go:154", after := #[{ on := 6, ground := Go.Ground.data }, { on := 8, ground := Go.Ground.chain }, { on := 0, ground := Go.Ground.phase }, { on := 1, ground := Go.Ground.phase }, { on := 2, ground := Go.Ground.phase }, { on := 3, ground := Go.Ground.phase }, { on := 4, ground := Go.Ground.phase }, { on := 5, ground := Go.Ground.phase }, { on := 6, ground := Go.Ground.phase }, { on := 7, ground := Go.Ground.phase }, { on := 8, ground := Go.Ground.phase }], guard := none }
def O5_25 : Array Oper := List.toArray (o5_25_0 :: o5_25_1 :: o5_25_2 :: o5_25_3 :: o5_25_4 :: o5_25_5 :: o5_25_6 :: o5_25_7 :: o5_25_8 :: o5_25_9 :: [])
theorem g5_25_0 : O5_25[0]? = some o5_25_0 := rfl
theorem g5_25_1 : O5_25[1]? = some o5_25_1 := rfl
theorem g5_25_2 : O5_25[2]? = some o5_25_2 := rfl
theorem g5_25_3 : O5_25[3]? = some o5_25_3 := rfl
theorem g5_25_4 : O5_25[4]? = some o5_25_4 := rfl
theorem g5_25_5 : O5_25[5]? = some o5_25_5 := rfl
theorem g5_25_6 : O5_25[6]? = some o5_25_6 := rfl
theorem g5_25_7 : O5_25[7]? = some o5_25_7 := rfl
theorem g5_25_8 : O5_25[8]? = some o5_25_8 := rfl
theorem g5_25_9 : O5_25[9]? = some o5_25_9 := rfl
def c5_92 : Code := Code.region 25 O5_25 false
def o5_26_0 : Oper := { dst := some 103, op := Go.Op.move (Go.Operand.tmp 20), type := 27, pos := "law.go:155", after := #[], guard := none }
def o5_26_1 : Oper := { dst := some 104, op := Go.Op.binOp Go.BinOp.eql 27 (Go.Operand.tmp 103) (Go.Operand.const (Go.Value.int Go.IntKind.i64 2)) 27, type := 4, pos := "law.go:155", after := #[{ on := 0, ground := Go.Ground.data }], guard := none }
def O5_26 : Array Oper := List.toArray (o5_26_0 :: o5_26_1 :: [])
theorem g5_26_0 : O5_26[0]? = some o5_26_0 := rfl
theorem g5_26_1 : O5_26[1]? = some o5_26_1 := rfl
def c5_95 : Code := Code.region 26 O5_26 false
def o5_27_0 : Oper := { dst := some 6, op := Go.Op.assign (Go.Operand.const (Go.Value.bool true)), type := 4, pos := "law.go:156", after := #[], guard := none }
def O5_27 : Array Oper := List.toArray (o5_27_0 :: [])
theorem g5_27_0 : O5_27[0]? = some o5_27_0 := rfl
def c5_98 : Code := Code.region 27 O5_27 false
def c5_97 : Code := Code.seq c5_98 Code.ret
def c5_96 : Code := Code.cond (Go.Operand.tmp 104) c5_97 Code.skip
def c5_94 : Code := Code.seq c5_95 c5_96
def o5_28_0 : Oper := { dst := some 105, op := Go.Op.move (Go.Operand.tmp 19), type := 4, pos := "law.go:158", after := #[], guard := none }
def o5_28_1 : Oper := { dst := some 106, op := Go.Op.unOp Go.UnOp.not 4 (Go.Operand.tmp 105), type := 4, pos := "law.go:158", after := #[{ on := 0, ground := Go.Ground.data }], guard := none }
def o5_28_2 : Oper := { dst := some 107, op := Go.Op.move (Go.Operand.tmp 106), type := 4, pos := "law.go:158", after := #[{ on := 1, ground := Go.Ground.data }], guard := none }
def o5_28_3 : Oper := { dst := some 108, op := Go.Op.move (Go.Operand.tmp 20), type := 27, pos := "law.go:158", after := #[{ on := 2, ground := Go.Ground.guard }], guard := some (2, false) }
def o5_28_4 : Oper := { dst := some 109, op := Go.Op.binOp Go.BinOp.neq 27 (Go.Operand.tmp 108) (Go.Operand.const (Go.Value.int Go.IntKind.i64 0)) 27, type := 4, pos := "law.go:158", after := #[{ on := 3, ground := Go.Ground.data }, { on := 2, ground := Go.Ground.guard }], guard := some (2, false) }
def o5_28_5 : Oper := { dst := some 110, op := Go.Op.pick (Go.Operand.tmp 107) (Go.Operand.const (Go.Value.bool true)) (Go.Operand.tmp 109), type := 4, pos := "law.go:158", after := #[{ on := 2, ground := Go.Ground.data }, { on := 4, ground := Go.Ground.data }], guard := none }
def O5_28 : Array Oper := List.toArray (o5_28_0 :: o5_28_1 :: o5_28_2 :: o5_28_3 :: o5_28_4 :: o5_28_5 :: [])
theorem g5_28_0 : O5_28[0]? = some o5_28_0 := rfl
theorem g5_28_1 : O5_28[1]? = some o5_28_1 := rfl
theorem g5_28_2 : O5_28[2]? = some o5_28_2 := rfl
theorem g5_28_3 : O5_28[3]? = some o5_28_3 := rfl
theorem g5_28_4 : O5_28[4]? = some o5_28_4 := rfl
theorem g5_28_5 : O5_28[5]? = some o5_28_5 := rfl
def c5_103 : Code := Code.region 28 O5_28 false
def o5_29_0 : Oper := { dst := some 6, op := Go.Op.assign (Go.Operand.const (Go.Value.bool false)), type := 4, pos := "law.go:159", after := #[], guard := none }
def O5_29 : Array Oper := List.toArray (o5_29_0 :: [])
theorem g5_29_0 : O5_29[0]? = some o5_29_0 := rfl
def c5_106 : Code := Code.region 29 O5_29 false
def c5_105 : Code := Code.seq c5_106 Code.ret
def c5_104 : Code := Code.cond (Go.Operand.tmp 110) c5_105 Code.skip
def c5_102 : Code := Code.seq c5_103 c5_104
def o5_30_0 : Oper := { dst := some 112, op := Go.Op.load 24 (Go.Operand.tmp 3), type := 24, pos := "law.go:161", after := #[], guard := none }
def o5_30_1 : Oper := { dst := some 113, op := Go.Op.move (Go.Operand.tmp 18), type := 36, pos := "law.go:161", after := #[], guard := none }
def o5_30_2 : Oper := { dst := some 114, op := Go.Op.call { callee := Go.Callee.value (Go.Operand.func 30), args := #[Go.Operand.tmp 112, Go.Operand.tmp 113], argTypes := #[24, 36] }, type := 42, pos := "law.go:161", after := #[{ on := 0, ground := Go.Ground.data }, { on := 1, ground := Go.Ground.data }], guard := none }
def o5_30_3 : Oper := { dst := some 111, op := Go.Op.move (Go.Operand.tmp 114), type := 42, pos := "law.go:161", after := #[{ on := 2, ground := Go.Ground.data }], guard := none }
def o5_30_4 : Oper := { dst := some 115, op := Go.Op.extract (Go.Operand.tmp 111) 0, type := 24, pos := "law.go:161", after := #[{ on := 3, ground := Go.Ground.data }], guard := none }
def o5_30_5 : Oper := { dst := some 116, op := Go.Op.extract (Go.Operand.tmp 111) 1, type := 27, pos := "law.go:161", after := #[{ on := 3, ground := Go.Ground.data }, { on := 7, ground := Go.Ground.gcOnly Go.Departure.lateStores }], guard := none }
def o5_30_6 : Oper := { dst := some 21, op := Go.Op.alloc 24, type := 0, pos := "law.go:161", after := #[], guard := none }
def o5_30_7 : Oper := { dst := none, op := Go.Op.store 24 (Go.Operand.tmp 21) (Go.Operand.tmp 115), type := 0, pos := "law.go:161", after := #[{ on := 6, ground := Go.Ground.data }, { on := 4, ground := Go.Ground.data }, { on := 2, ground := Go.Ground.chain }, { on := 0, ground := Go.Ground.phase }, { on := 1, ground := Go.Ground.phase }, { on := 2, ground := Go.Ground.phase }, { on := 3, ground := Go.Ground.phase }, { on := 4, ground := Go.Ground.phase }, { on := 5, ground := Go.Ground.textOnly Go.Departure.lateStores }, { on := 6, ground := Go.Ground.phase }], guard := none }
def o5_30_8 : Oper := { dst := some 22, op := Go.Op.assign (Go.Operand.tmp 116), type := 27, pos := "law.go:161", after := #[{ on := 5, ground := Go.Ground.data }, { on := 7, ground := Go.Ground.chain }, { on := 0, ground := Go.Ground.phase }, { on := 1, ground := Go.Ground.phase }, { on := 2, ground := Go.Ground.phase }, { on := 3, ground := Go.Ground.phase }, { on := 4, ground := Go.Ground.phase }, { on := 5, ground := Go.Ground.phase }, { on := 6, ground := Go.Ground.phase }, { on := 7, ground := Go.Ground.phase }], guard := none }
def O5_30 : Array Oper := List.toArray (o5_30_0 :: o5_30_1 :: o5_30_2 :: o5_30_3 :: o5_30_4 :: o5_30_5 :: o5_30_6 :: o5_30_7 :: o5_30_8 :: [])
theorem g5_30_0 : O5_30[0]? = some o5_30_0 := rfl
theorem g5_30_1 : O5_30[1]? = some o5_30_1 := rfl
theorem g5_30_2 : O5_30[2]? = some o5_30_2 := rfl
theorem g5_30_3 : O5_30[3]? = some o5_30_3 := rfl
theorem g5_30_4 : O5_30[4]? = some o5_30_4 := rfl
theorem g5_30_5 : O5_30[5]? = some o5_30_5 := rfl
theorem g5_30_6 : O5_30[6]? = some o5_30_6 := rfl
theorem g5_30_7 : O5_30[7]? = some o5_30_7 := rfl
theorem g5_30_8 : O5_30[8]? = some o5_30_8 := rfl
def c5_110 : Code := Code.region 30 O5_30 false
def o5_31_0 : Oper := { dst := some 117, op := Go.Op.move (Go.Operand.tmp 22), type := 27, pos := "law.go:162", after := #[], guard := none }
def o5_31_1 : Oper := { dst := some 118, op := Go.Op.binOp Go.BinOp.neq 27 (Go.Operand.tmp 117) (Go.Operand.const (Go.Value.int Go.IntKind.i64 0)) 27, type := 4, pos := "law.go:162", after := #[{ on := 0, ground := Go.Ground.data }], guard := none }
def O5_31 : Array Oper := List.toArray (o5_31_0 :: o5_31_1 :: [])
theorem g5_31_0 : O5_31[0]? = some o5_31_0 := rfl
theorem g5_31_1 : O5_31[1]? = some o5_31_1 := rfl
def c5_113 : Code := Code.region 31 O5_31 false
def o5_32_0 : Oper := { dst := some 119, op := Go.Op.move (Go.Operand.tmp 22), type := 27, pos := "law.go:163", after := #[], guard := none }
def o5_32_1 : Oper := { dst := some 120, op := Go.Op.binOp Go.BinOp.eql 27 (Go.Operand.tmp 119) (Go.Operand.const (Go.Value.int Go.IntKind.i64 2)) 27, type := 4, pos := "law.go:163", after := #[{ on := 0, ground := Go.Ground.data }], guard := none }
def o5_32_2 : Oper := { dst := some 6, op := Go.Op.assign (Go.Operand.tmp 120), type := 4, pos := "law.go:163", after := #[{ on := 1, ground := Go.Ground.data }, { on := 0, ground := Go.Ground.phase }, { on := 1, ground := Go.Ground.phase }], guard := none }
def O5_32 : Array Oper := List.toArray (o5_32_0 :: o5_32_1 :: o5_32_2 :: [])
theorem g5_32_0 : O5_32[0]? = some o5_32_0 := rfl
theorem g5_32_1 : O5_32[1]? = some o5_32_1 := rfl
theorem g5_32_2 : O5_32[2]? = some o5_32_2 := rfl
def c5_116 : Code := Code.region 32 O5_32 false
def c5_115 : Code := Code.seq c5_116 Code.ret
def c5_114 : Code := Code.cond (Go.Operand.tmp 118) c5_115 Code.skip
def c5_112 : Code := Code.seq c5_113 c5_114
def o5_33_0 : Oper := { dst := some 122, op := Go.Op.load 24 (Go.Operand.tmp 21), type := 24, pos := "law.go:165", after := #[], guard := none }
def o5_33_1 : Oper := { dst := some 123, op := Go.Op.call { callee := Go.Callee.value (Go.Operand.func 32), args := #[Go.Operand.tmp 122, Go.Operand.const (Go.Value.int Go.IntKind.i64 1099511627776)], argTypes := #[24, 2] }, type := 45, pos := "law.go:165", after := #[{ on := 0, ground := Go.Ground.data }], guard := none }
def o5_33_2 : Oper := { dst := some 121, op := Go.Op.move (Go.Operand.tmp 123), type := 45, pos := "law.go:165", after := #[{ on := 1, ground := Go.Ground.data }], guard := none }
def o5_33_3 : Oper := { dst := some 124, op := Go.Op.extract (Go.Operand.tmp 121) 0, type := 24, pos := "law.go:165", after := #[{ on := 2, ground := Go.Ground.data }], guard := none }
def o5_33_4 : Oper := { dst := some 125, op := Go.Op.extract (Go.Operand.tmp 121) 1, type := 2, pos := "law.go:165", after := #[{ on := 2, ground := Go.Ground.data }, { on := 7, ground := Go.Ground.gcOnly Go.Departure.lateStores }], guard := none }
def o5_33_5 : Oper := { dst := some 126, op := Go.Op.extract (Go.Operand.tmp 121) 2, type := 27, pos := "law.go:165", after := #[{ on := 2, ground := Go.Ground.data }, { on := 8, ground := Go.Ground.gcOnly Go.Departure.lateStores }], guard := none }
def o5_33_6 : Oper := { dst := some 23, op := Go.Op.alloc 24, type := 0, pos := "law.go:165", after := #[], guard := none }
def o5_33_7 : Oper := { dst := none, op := Go.Op.store 24 (Go.Operand.tmp 23) (Go.Operand.tmp 124), type := 0, pos := "law.go:165", after := #[{ on := 6, ground := Go.Ground.data }, { on := 3, ground := Go.Ground.data }, { on := 1, ground := Go.Ground.chain }, { on := 0, ground := Go.Ground.phase }, { on := 1, ground := Go.Ground.phase }, { on := 2, ground := Go.Ground.phase }, { on := 3, ground := Go.Ground.phase }, { on := 4, ground := Go.Ground.textOnly Go.Departure.lateStores }, { on := 5, ground := Go.Ground.textOnly Go.Departure.lateStores }, { on := 6, ground := Go.Ground.phase }], guard := none }
def o5_33_8 : Oper := { dst := some 24, op := Go.Op.assign (Go.Operand.tmp 125), type := 2, pos := "law.go:165", after := #[{ on := 4, ground := Go.Ground.data }, { on := 7, ground := Go.Ground.chain }, { on := 0, ground := Go.Ground.phase }, { on := 1, ground := Go.Ground.phase }, { on := 2, ground := Go.Ground.phase }, { on := 3, ground := Go.Ground.phase }, { on := 4, ground := Go.Ground.phase }, { on := 5, ground := Go.Ground.textOnly Go.Departure.lateStores }, { on := 6, ground := Go.Ground.phase }, { on := 7, ground := Go.Ground.phase }], guard := none }
def o5_33_9 : Oper := { dst := some 25, op := Go.Op.assign (Go.Operand.tmp 126), type := 27, pos := "law.go:165", after := #[{ on := 5, ground := Go.Ground.data }, { on := 8, ground := Go.Ground.chain }, { on := 0, ground := Go.Ground.phase }, { on := 1, ground := Go.Ground.phase }, { on := 2, ground := Go.Ground.phase }, { on := 3, ground := Go.Ground.phase }, { on := 4, ground := Go.Ground.phase }, { on := 5, ground := Go.Ground.phase }, { on := 6, ground := Go.Ground.phase }, { on := 7, ground := Go.Ground.phase }, { on := 8, ground := Go.Ground.phase }], guard := none }
def O5_33 : Array Oper := List.toArray (o5_33_0 :: o5_33_1 :: o5_33_2 :: o5_33_3 :: o5_33_4 :: o5_33_5 :: o5_33_6 :: o5_33_7 :: o5_33_8 :: o5_33_9 :: [])
theorem g5_33_0 : O5_33[0]? = some o5_33_0 := rfl
theorem g5_33_1 : O5_33[1]? = some o5_33_1 := rfl
theorem g5_33_2 : O5_33[2]? = some o5_33_2 := rfl
theorem g5_33_3 : O5_33[3]? = some o5_33_3 := rfl
theorem g5_33_4 : O5_33[4]? = some o5_33_4 := rfl
theorem g5_33_5 : O5_33[5]? = some o5_33_5 := rfl
theorem g5_33_6 : O5_33[6]? = some o5_33_6 := rfl
theorem g5_33_7 : O5_33[7]? = some o5_33_7 := rfl
theorem g5_33_8 : O5_33[8]? = some o5_33_8 := rfl
theorem g5_33_9 : O5_33[9]? = some o5_33_9 := rfl
def c5_120 : Code := Code.region 33 O5_33 false
def o5_34_0 : Oper := { dst := some 127, op := Go.Op.move (Go.Operand.tmp 25), type := 27, pos := "law.go:166", after := #[], guard := none }
def o5_34_1 : Oper := { dst := some 128, op := Go.Op.binOp Go.BinOp.neq 27 (Go.Operand.tmp 127) (Go.Operand.const (Go.Value.int Go.IntKind.i64 0)) 27, type := 4, pos := "law.go:166", after := #[{ on := 0, ground := Go.Ground.data }], guard := none }
def O5_34 : Array Oper := List.toArray (o5_34_0 :: o5_34_1 :: [])
theorem g5_34_0 : O5_34[0]? = some o5_34_0 := rfl
theorem g5_34_1 : O5_34[1]? = some o5_34_1 := rfl
def c5_123 : Code := Code.region 34 O5_34 false
def o5_35_0 : Oper := { dst := some 6, op := Go.Op.assign (Go.Operand.const (Go.Value.bool false)), type := 4, pos := "law.go:167", after := #[], guard := none }
def O5_35 : Array Oper := List.toArray (o5_35_0 :: [])
theorem g5_35_0 : O5_35[0]? = some o5_35_0 := rfl
def c5_126 : Code := Code.region 35 O5_35 false
def c5_125 : Code := Code.seq c5_126 Code.ret
def c5_124 : Code := Code.cond (Go.Operand.tmp 128) c5_125 Code.skip
def c5_122 : Code := Code.seq c5_123 c5_124
def o5_36_0 : Oper := { dst := some 130, op := Go.Op.load 24 (Go.Operand.tmp 23), type := 24, pos := "law.go:169", after := #[], guard := none }
def o5_36_1 : Oper := { dst := some 131, op := Go.Op.load 24 (Go.Operand.tmp 7), type := 24, pos := "law.go:169", after := #[], guard := none }
def o5_36_2 : Oper := { dst := some 132, op := Go.Op.call { callee := Go.Callee.value (Go.Operand.func 28), args := #[Go.Operand.tmp 130, Go.Operand.tmp 131], argTypes := #[24, 24] }, type := 37, pos := "law.go:169", after := #[{ on := 0, ground := Go.Ground.data }, { on := 1, ground := Go.Ground.data }], guard := none }
def o5_36_3 : Oper := { dst := some 129, op := Go.Op.move (Go.Operand.tmp 132), type := 37, pos := "law.go:169", after := #[{ on := 2, ground := Go.Ground.data }], guard := none }
def o5_36_4 : Oper := { dst := some 133, op := Go.Op.extract (Go.Operand.tmp 129) 0, type := 36, pos := "law.go:169", after := #[{ on := 3, ground := Go.Ground.data }], guard := none }
def o5_36_5 : Oper := { dst := some 134, op := Go.Op.extract (Go.Operand.tmp 129) 1, type := 4, pos := "law.go:169", after := #[{ on := 3, ground := Go.Ground.data }, { on := 7, ground := Go.Ground.gcOnly Go.Departure.lateStores }], guard := none }
def o5_36_6 : Oper := { dst := some 135, op := Go.Op.extract (Go.Operand.tmp 129) 2, type := 27, pos := "law.go:169", after := #[{ on := 3, ground := Go.Ground.data }, { on := 8, ground := Go.Ground.gcOnly Go.Departure.lateStores }], guard := none }
def o5_36_7 : Oper := { dst := some 26, op := Go.Op.assign (Go.Operand.tmp 133), type := 36, pos := "law.go:169", after := #[{ on := 4, ground := Go.Ground.data }, { on := 2, ground := Go.Ground.chain }, { on := 0, ground := Go.Ground.phase }, { on := 1, ground := Go.Ground.phase }, { on := 2, ground := Go.Ground.phase }, { on := 3, ground := Go.Ground.phase }, { on := 4, ground := Go.Ground.phase }, { on := 5, ground := Go.Ground.textOnly Go.Departure.lateStores }, { on := 6, ground := Go.Ground.textOnly Go.Departure.lateStores }], guard := none }
def o5_36_8 : Oper := { dst := some 27, op := Go.Op.assign (Go.Operand.tmp 134), type := 4, pos := "law.go:169", after := #[{ on := 5, ground := Go.Ground.data }, { on := 7, ground := Go.Ground.chain }, { on := 0, ground := Go.Ground.phase }, { on := 1, ground := Go.Ground.phase }, { on := 2, ground := Go.Ground.phase }, { on := 3, ground := Go.Ground.phase }, { on := 4, ground := Go.Ground.phase }, { on := 5, ground := Go.Ground.phase }, { on := 6, ground := Go.Ground.textOnly Go.Departure.lateStores }, { on := 7, ground := Go.Ground.phase }], guard := none }
def o5_36_9 : Oper := { dst := some 28, op := Go.Op.assign (Go.Operand.tmp 135), type := 27, pos := "law.go:169", after := #[{ on := 6, ground := Go.Ground.data }, { on := 8, ground := Go.Ground.chain }, { on := 0, ground := Go.Ground.phase }, { on := 1, ground := Go.Ground.phase }, { on := 2, ground := Go.Ground.phase }, { on := 3, ground := Go.Ground.phase }, { on := 4, ground := Go.Ground.phase }, { on := 5, ground := Go.Ground.phase }, { on := 6, ground := Go.Ground.phase }, { on := 7, ground := Go.Ground.phase }, { on := 8, ground := Go.Ground.phase }], guard := none }
def O5_36 : Array Oper := List.toArray (o5_36_0 :: o5_36_1 :: o5_36_2 :: o5_36_3 :: o5_36_4 :: o5_36_5 :: o5_36_6 :: o5_36_7 :: o5_36_8 :: o5_36_9 :: [])
theorem g5_36_0 : O5_36[0]? = some o5_36_0 := rfl
theorem g5_36_1 : O5_36[1]? = some o5_36_1 := rfl
theorem g5_36_2 : O5_36[2]? = some o5_36_2 := rfl
theorem g5_36_3 : O5_36[3]? = some o5_36_3 := rfl
theorem g5_36_4 : O5_36[4]? = some o5_36_4 := rfl
theorem g5_36_5 : O5_36[5]? = some o5_36_5 := rfl
theorem g5_36_6 : O5_36[6]? = some o5_36_6 := rfl
theorem g5_36_7 : O5_36[7]? = some o5_36_7 := rfl
theorem g5_36_8 : O5_36[8]? = some o5_36_8 := rfl
theorem g5_36_9 : O5_36[9]? = some o5_36_9 := rfl
def c5_130 : Code := Code.region 36 O5_36 false
def o5_37_0 : Oper := { dst := some 136, op := Go.Op.move (Go.Operand.tmp 27), type := 4, pos := "law.go:170", after := #[], guard := none }
def o5_37_1 : Oper := { dst := some 137, op := Go.Op.move (Go.Operand.tmp 136), type := 4, pos := "law.go:170", after := #[{ on := 0, ground := Go.Ground.data }], guard := none }
def o5_37_2 : Oper := { dst := some 138, op := Go.Op.move (Go.Operand.tmp 28), type := 27, pos := "law.go:170", after := #[{ on := 1, ground := Go.Ground.guard }], guard := some (1, false) }
def o5_37_3 : Oper := { dst := some 139, op := Go.Op.binOp Go.BinOp.eql 27 (Go.Operand.tmp 138) (Go.Operand.const (Go.Value.int Go.IntKind.i64 2)) 27, type := 4, pos := "law.go:170", after := #[{ on := 2, ground := Go.Ground.data }, { on := 1, ground := Go.Ground.guard }], guard := some (1, false) }
def o5_37_4 : Oper := { dst := some 140, op := Go.Op.pick (Go.Operand.tmp 137) (Go.Operand.const (Go.Value.bool true)) (Go.Operand.tmp 139), type := 4, pos := "law.go:170", after := #[{ on := 1, ground := Go.Ground.data }, { on := 3, ground := Go.Ground.data }], guard := none }
def o5_37_5 : Oper := { dst := some 6, op := Go.Op.assign (Go.Operand.tmp 140), type := 4, pos := "law.go:170", after := #[{ on := 4, ground := Go.Ground.data }, { on := 1, ground := Go.Ground.chain }, { on := 0, ground := Go.Ground.phase }, { on := 1, ground := Go.Ground.phase }, { on := 2, ground := Go.Ground.phase }, { on := 3, ground := Go.Ground.phase }, { on := 4, ground := Go.Ground.phase }], guard := none }
def O5_37 : Array Oper := List.toArray (o5_37_0 :: o5_37_1 :: o5_37_2 :: o5_37_3 :: o5_37_4 :: o5_37_5 :: [])
theorem g5_37_0 : O5_37[0]? = some o5_37_0 := rfl
theorem g5_37_1 : O5_37[1]? = some o5_37_1 := rfl
theorem g5_37_2 : O5_37[2]? = some o5_37_2 := rfl
theorem g5_37_3 : O5_37[3]? = some o5_37_3 := rfl
theorem g5_37_4 : O5_37[4]? = some o5_37_4 := rfl
theorem g5_37_5 : O5_37[5]? = some o5_37_5 := rfl
def c5_132 : Code := Code.region 37 O5_37 false
def c5_131 : Code := Code.seq c5_132 Code.ret
def c5_129 : Code := Code.seq c5_130 c5_131
def c5_121 : Code := Code.seq c5_122 c5_129
def c5_119 : Code := Code.seq c5_120 c5_121
def c5_111 : Code := Code.seq c5_112 c5_119
def c5_109 : Code := Code.seq c5_110 c5_111
def c5_101 : Code := Code.seq c5_102 c5_109
def c5_93 : Code := Code.seq c5_94 c5_101
def c5_91 : Code := Code.seq c5_92 c5_93
def c5_47 : Code := Code.seq c5_48 c5_91
def c5_24 : Code := Code.seq c5_25 c5_47
def c5_22 : Code := Code.seq c5_23 c5_24
def c5_14 : Code := Code.seq c5_15 c5_22
def c5_12 : Code := Code.seq c5_13 c5_14
def c5_10 : Code := Code.seq c5_11 c5_12
def c5_2 : Code := Code.seq c5_3 c5_10
def c5_0 : Code := Code.seq c5_1 c5_2
theorem body5 : Try.f5.body = some c5_0 := by kernel_rfl

set_option maxRecDepth 100000 in
set_option maxHeartbeats 4000000 in
theorem lst {W : World} {t u : Tm} {ta ua : Option Addr} {tc uc : Nat} {sm : List BP} {xr yr : Tm} {e1 e2 : Int} {ax : Option Addr} {cx : Nat} {V : World} {f0 : Act} {w0 : World} {b1 : Nat} {b2 : Nat} {b3 : Nat} (R : FrS 141 f0) (h3 : f0.tmps[3]? = some (.pointer (some ⟨b1, 0, none⟩))) (h4 : f0.tmps[4]? = some (.pointer (some ⟨b2, 0, none⟩))) (h7 : f0.tmps[7]? = some (.pointer (some ⟨b3, 0, none⟩))) (K1 : Keep (fun g => g < W.heap.size) W w0) (B1 : Blk w0 b1 24 #[.int .i64 t.k, .string (str t.nm), .int .i64 t.i, .slice ta t.args.length tc]) (B2 : Blk w0 b2 24 #[.int .i64 u.k, .string (str u.nm), .int .i64 u.i, .slice ua u.args.length uc]) (B3 : Blk w0 b3 24 #[.int .i64 xr.k, .string (str xr.nm), .int .i64 xr.i, .slice ax xr.args.length cx]) (HT : Hid (TmAt W.heap.size W t ta tc)) (HU : Hid (TmAt W.heap.size W u ua uc)) (HX : Hid (TmAt V.heap.size V xr ax cx)) (K2 : Keep (fun g => g < V.heap.size) V w0) (HA1 : Hid (apV t sm = (xr, e1))) (HA2 : Hid (apV u sm = (yr, e2))) (HE0 : Hid (e1 = 0 ∧ e2 = 0)) (HZS : Hid (sameV xr yr = true)) (HBX : Hid (∀ v ∈ vaV xr, v < 1099511627776)) : c5_91.wp Try.prog (bodyPost Try.prog Try.f5 (fun e w' => e = .returned (.bool true) ∧ Keep (fun g => g < W.heap.size) W w')) f0 w0 := by
  have he01 := HE0.out.1; have he02 := HE0.out.2
  refine wp_seq (x := c5_92) (y := c5_93) ?_
  change (Code.region 25 O5_25 false).wp _ _ _ _
  refine reg_in (l := [0, 1, 2, 3, 4, 5, 6, 7, 8, 9]) rfl ?_
  have Y : (execOp f0.eval o5_25_0).run Try.prog w0 = .ok (.value (.agg #[.int .i64 t.k, .string (str t.nm), .int .i64 t.i, .slice ta t.args.length tc])) w0 := by have qq0 : w0.cell? ⟨b1, 0, none⟩ = some (.int .i64 t.k) := B1.cell 0; have qq1 : w0.cell? ⟨b1, 1, none⟩ = some (.string (str t.nm)) := B1.cell 1; have qq2 : w0.cell? ⟨b1, 2, none⟩ = some (.int .i64 t.i) := B1.cell 2; have qq3 : w0.cell? ⟨b1, 3, none⟩ = some (.slice ta t.args.length tc) := B1.cell 3; unfold o5_25_0; go_simp
  refine st_val g5_25_0 rfl (wanted_free rfl) Y fun a407 e => ?_; clear Y
  have g97 := R.at_ e (by decide); replace R := R.put e; replace h3 := so e h3; replace h4 := so e h4; replace h7 := so e h7; have h97 := g97; clear g97; clear e
  have Y : (execOp a407.eval o5_25_1).run Try.prog w0 = .ok (.value (.agg #[.int .i64 u.k, .string (str u.nm), .int .i64 u.i, .slice ua u.args.length uc])) w0 := by have qq0 : w0.cell? ⟨b2, 0, none⟩ = some (.int .i64 u.k) := B2.cell 0; have qq1 : w0.cell? ⟨b2, 1, none⟩ = some (.string (str u.nm)) := B2.cell 1; have qq2 : w0.cell? ⟨b2, 2, none⟩ = some (.int .i64 u.i) := B2.cell 2; have qq3 : w0.cell? ⟨b2, 3, none⟩ = some (.slice ua u.args.length uc) := B2.cell 3; unfold o5_25_1; go_simp
  refine st_val g5_25_1 rfl (wanted_free rfl) Y fun a409 e => ?_; clear Y
  have g98 := R.at_ e (by decide); replace R := R.put e; replace h3 := so e h3; replace h7 := so e h7; replace h97 := so e h97; clear h4; have h98 := g98; clear g98; clear e
  have Y : (execOp a409.eval o5_25_2).run Try.prog w0 = .ok (.enter 28 #[.agg #[.int .i64 t.k, .string (str t.nm), .int .i64 t.i, .slice ta t.args.length tc], .agg #[.int .i64 u.k, .string (str u.nm), .int .i64 u.i, .slice ua u.args.length uc]]) w0 := by unfold o5_25_2; go_simp
  refine st_call g5_25_2 rfl (wanted_free rfl) Y ((solve_sx (HT.out.on K1) (HU.out.on K1)).mono ?_); clear Y
  rintro e9 w411 ⟨va5, vc5, bs, ok, er, rfl, hs, kk⟩
  replace K1 := keep_onto K1 kk
  replace K2 := keep_onto K2 kk
  replace B1 := blk_on B1 kk
  replace B2 := blk_on B2 kk
  replace B3 := blk_on B3 kk
  clear kk
  have HS5 := Lib.hid hs; clear hs
  have he1 : e1 = 0 := by omega
  have he2 : e2 = 0 := by omega
  have HLS := Lib.hid (least_sol (by rw [← he1]; exact HA1.out) (by rw [← he2]; exact HA2.out) HZS.out HS5.out.1); clear he1 he2
  have K5 := Keep.refl (fun g => g < w411.heap.size) w411
  refine ⟨_, rfl, fun a412 e => ?_⟩
  have g99 := R.at_ e (by decide); replace R := R.put e; replace h3 := so e h3; replace h7 := so e h7; clear h97 h98; have h99 := g99; clear g99; clear e
  have Y : (execOp a412.eval o5_25_3).run Try.prog w411 = .ok (.value (.tuple #[.slice va5 bs.length vc5, .bool ok, .int .i64 er])) w411 := by unfold o5_25_3; go_simp
  refine st_val g5_25_3 rfl (wanted_free rfl) Y fun a414 e => ?_; clear Y
  have g96 := R.at_ e (by decide); replace R := R.put e; replace h3 := so e h3; replace h7 := so e h7; clear h99; have h96 := g96; clear g96; clear e
  have Y : (execOp a414.eval o5_25_4).run Try.prog w411 = .ok (.value (.slice va5 bs.length vc5)) w411 := by unfold o5_25_4; go_simp
  refine st_val g5_25_4 rfl (wanted_free rfl) Y fun a416 e => ?_; clear Y
  have g100 := R.at_ e (by decide); replace R := R.put e; replace h3 := so e h3; replace h7 := so e h7; replace h96 := so e h96; have h100 := g100; clear g100; clear e
  have Y : (execOp a416.eval o5_25_5).run Try.prog w411 = .ok (.value (.bool ok)) w411 := by unfold o5_25_5; go_simp
  refine st_val g5_25_5 rfl (wanted_free rfl) Y fun a418 e => ?_; clear Y
  have g101 := R.at_ e (by decide); replace R := R.put e; replace h3 := so e h3; replace h7 := so e h7; replace h96 := so e h96; replace h100 := so e h100; have h101 := g101; clear g101; clear e
  have Y : (execOp a418.eval o5_25_6).run Try.prog w411 = .ok (.value (.int .i64 er)) w411 := by unfold o5_25_6; go_simp
  refine st_val g5_25_6 rfl (wanted_free rfl) Y fun a420 e => ?_; clear Y
  have g102 := R.at_ e (by decide); replace R := R.put e; replace h3 := so e h3; replace h7 := so e h7; replace h100 := so e h100; replace h101 := so e h101; clear h96; have h102 := g102; clear g102; clear e
  have Y : (execOp a420.eval o5_25_7).run Try.prog w411 = .ok (.value (.slice va5 bs.length vc5)) w411 := by unfold o5_25_7; go_simp
  refine st_val g5_25_7 rfl (wanted_free rfl) Y fun a422 e => ?_; clear Y
  have g18 := R.at_ e (by decide); replace R := R.put e; replace h3 := so e h3; replace h7 := so e h7; replace h101 := so e h101; replace h102 := so e h102; clear h100; have h18 := g18; clear g18; clear e
  have Y : (execOp a422.eval o5_25_8).run Try.prog w411 = .ok (.value (.bool ok)) w411 := by unfold o5_25_8; go_simp
  refine st_val g5_25_8 rfl (wanted_free rfl) Y fun a424 e => ?_; clear Y
  have g19 := R.at_ e (by decide); replace R := R.put e; replace h3 := so e h3; replace h7 := so e h7; replace h18 := so e h18; replace h102 := so e h102; clear h101; have h19 := g19; clear g19; clear e
  have Y : (execOp a424.eval o5_25_9).run Try.prog w411 = .ok (.value (.int .i64 er)) w411 := by unfold o5_25_9; go_simp
  refine st_val g5_25_9 rfl (wanted_free rfl) Y fun a426 e => ?_; clear Y
  have g20 := R.at_ e (by decide); replace R := R.put e; replace h3 := so e h3; replace h7 := so e h7; replace h18 := so e h18; replace h19 := so e h19; clear h102; have h20 := g20; clear g20; clear e
  refine st_end ?_
  change (c5_93).wp _ _ _ _
  refine wp_seq (x := c5_94) (y := c5_101) ?_
  refine wp_seq (x := c5_95) (y := c5_96) ?_
  change (Code.region 26 O5_26 false).wp _ _ _ _
  refine reg_in (l := [0, 1]) rfl ?_
  have Y : (execOp a426.eval o5_26_0).run Try.prog w411 = .ok (.value (.int .i64 er)) w411 := by unfold o5_26_0; go_simp
  refine st_val g5_26_0 rfl (wanted_free rfl) Y fun a428 e => ?_; clear Y
  have g103 := R.at_ e (by decide); replace R := R.put e; replace h3 := so e h3; replace h7 := so e h7; replace h18 := so e h18; replace h19 := so e h19; replace h20 := so e h20; have h103 := g103; clear g103; clear e
  obtain ⟨b430, hb430⟩ : ∃ x, (((er : Int) == (2 : Int))) = x := ⟨_, rfl⟩
  have Y : (execOp a428.eval o5_26_1).run Try.prog w411 = .ok (.value (.bool b430)) w411 := by rw [← hb430]; unfold o5_26_1; go_simp
  refine st_val g5_26_1 rfl (wanted_free rfl) Y fun a431 e => ?_; clear Y
  have g104 := R.at_ e (by decide); replace R := R.put e; replace h3 := so e h3; replace h7 := so e h7; replace h18 := so e h18; replace h19 := so e h19; replace h20 := so e h20; clear h103; have h104 := g104; clear g104; clear e
  refine st_end ?_
  change (c5_96).wp _ _ _ _
  cases b430 with
  | false =>
    have fb430 := hb430; clear hb430
    simp only [decide_eq_true_eq, decide_eq_false_iff_not, bne_iff_ne, bne_eq_false_iff_eq, beq_iff_eq, beq_eq_false_iff_ne, ne_eq, Bool.not_eq_true', Bool.not_eq_false', Bool.not_eq_eq_eq_not, Bool.not_true, Bool.not_false] at fb430
    refine wp_cond_false (x := c5_97) (y := Code.skip) (eval_slot h104) ?_
    refine wp_skip ?_
    change (c5_101).wp _ _ _ _
    refine wp_seq (x := c5_102) (y := c5_109) ?_
    refine wp_seq (x := c5_103) (y := c5_104) ?_
    change (Code.region 28 O5_28 false).wp _ _ _ _
    refine reg_in (l := [0, 1, 2, 3, 4, 5]) rfl ?_
    have Y : (execOp a431.eval o5_28_0).run Try.prog w411 = .ok (.value (.bool ok)) w411 := by unfold o5_28_0; go_simp
    refine st_val g5_28_0 rfl (wanted_free rfl) Y fun a433 e => ?_; clear Y
    have g105 := R.at_ e (by decide); replace R := R.put e; replace h3 := so e h3; replace h7 := so e h7; replace h18 := so e h18; replace h20 := so e h20; clear h19 h104; have h105 := g105; clear g105; clear e
    cases ok with
    | false =>
      have Y : (execOp a433.eval o5_28_1).run Try.prog w411 = .ok (.value (.bool true)) w411 := by unfold o5_28_1; go_simp
      refine st_val g5_28_1 rfl (wanted_free rfl) Y fun a435 e => ?_; clear Y
      have g106 := R.at_ e (by decide); replace R := R.put e; replace h3 := so e h3; replace h7 := so e h7; replace h18 := so e h18; replace h20 := so e h20; clear h105; have h106 := g106; clear g106; clear e
      have Y : (execOp a435.eval o5_28_2).run Try.prog w411 = .ok (.value (.bool true)) w411 := by unfold o5_28_2; go_simp
      refine st_val g5_28_2 rfl (wanted_free rfl) Y fun a437 e => ?_; clear Y
      have g107 := R.at_ e (by decide); replace R := R.put e; replace h3 := so e h3; replace h7 := so e h7; replace h18 := so e h18; replace h20 := so e h20; clear h106; have h107 := g107; clear g107; clear e
      refine st_not g5_28_3 rfl (wanted_is (j := 2) (d := 107) rfl rfl h107 rfl) fun a439 e => ?_
      have g108 := R.at_ e (by decide); replace R := R.put e; replace h3 := so e h3; replace h7 := so e h7; replace h18 := so e h18; replace h107 := so e h107; clear h20; have h108 := g108; clear g108; clear e
      refine st_not g5_28_4 rfl (wanted_is (j := 2) (d := 107) rfl rfl h107 rfl) fun a441 e => ?_
      have g109 := R.at_ e (by decide); replace R := R.put e; replace h3 := so e h3; replace h7 := so e h7; replace h18 := so e h18; replace h107 := so e h107; clear h108; have h109 := g109; clear g109; clear e
      have Y : (execOp a441.eval o5_28_5).run Try.prog w411 = .ok (.value (.bool true)) w411 := by unfold o5_28_5; go_simp
      refine st_val g5_28_5 rfl (wanted_free rfl) Y fun a443 e => ?_; clear Y
      have g110 := R.at_ e (by decide); replace R := R.put e; replace h3 := so e h3; replace h7 := so e h7; replace h18 := so e h18; clear h107 h109; have h110 := g110; clear g110; clear e
      refine st_end ?_
      change (c5_104).wp _ _ _ _
      refine wp_cond_true (x := c5_105) (y := Code.skip) (eval_slot h110) ?_
      refine wp_seq (x := c5_106) (y := Code.ret) ?_
      change (Code.region 29 O5_29 false).wp _ _ _ _
      refine reg_in (l := [0]) rfl ?_
      have Y : (execOp a443.eval o5_29_0).run Try.prog w411 = .ok (.value (.bool false)) w411 := by unfold o5_29_0; go_simp
      refine st_val g5_29_0 rfl (wanted_free rfl) Y fun a445 e => ?_; clear Y
      have g6 := R.at_ e (by decide); replace R := R.put e; replace h3 := so e h3; replace h7 := so e h7; replace h18 := so e h18; clear h110; have h6 := g6; clear g6; clear e
      refine st_end ?_
      change (Code.ret).wp _ _ _ _
      refine wp_ret ?_
      change bodyPost Try.prog Try.f5 (fun e w' => e = .returned (.bool true) ∧ Keep (fun g => g < W.heap.size) W w') .ret a445 w411
      refine ret_one rfl R h6 ?_
      exfalso; rcases HLS.out with h | ⟨h, _⟩ <;> first | omega | exact absurd h (by decide)
    | true =>
      have Y : (execOp a433.eval o5_28_1).run Try.prog w411 = .ok (.value (.bool false)) w411 := by unfold o5_28_1; go_simp
      refine st_val g5_28_1 rfl (wanted_free rfl) Y fun a447 e => ?_; clear Y
      have g106 := R.at_ e (by decide); replace R := R.put e; replace h3 := so e h3; replace h7 := so e h7; replace h18 := so e h18; replace h20 := so e h20; clear h105; have h106 := g106; clear g106; clear e
      have Y : (execOp a447.eval o5_28_2).run Try.prog w411 = .ok (.value (.bool false)) w411 := by unfold o5_28_2; go_simp
      refine st_val g5_28_2 rfl (wanted_free rfl) Y fun a449 e => ?_; clear Y
      have g107 := R.at_ e (by decide); replace R := R.put e; replace h3 := so e h3; replace h7 := so e h7; replace h18 := so e h18; replace h20 := so e h20; clear h106; have h107 := g107; clear g107; clear e
      have Y : (execOp a449.eval o5_28_3).run Try.prog w411 = .ok (.value (.int .i64 er)) w411 := by unfold o5_28_3; go_simp
      refine st_val g5_28_3 rfl (wanted_is (j := 2) (d := 107) rfl rfl h107 rfl) Y fun a451 e => ?_; clear Y
      have g108 := R.at_ e (by decide); replace R := R.put e; replace h3 := so e h3; replace h7 := so e h7; replace h18 := so e h18; replace h107 := so e h107; clear h20; have h108 := g108; clear g108; clear e
      have Y : (execOp a451.eval o5_28_4).run Try.prog w411 = .ok (.value (.bool false)) w411 := by have h0 : er = 0 := (by rcases HLS.out with h | ⟨_, h, _⟩; omega; exact h); unfold o5_28_4; go_simp
      refine st_val g5_28_4 rfl (wanted_is (j := 2) (d := 107) rfl rfl h107 rfl) Y fun a453 e => ?_; clear Y
      have g109 := R.at_ e (by decide); replace R := R.put e; replace h3 := so e h3; replace h7 := so e h7; replace h18 := so e h18; replace h107 := so e h107; clear h108; have h109 := g109; clear g109; clear e
      have Y : (execOp a453.eval o5_28_5).run Try.prog w411 = .ok (.value (.bool false)) w411 := by unfold o5_28_5; go_simp
      refine st_val g5_28_5 rfl (wanted_free rfl) Y fun a455 e => ?_; clear Y
      have g110 := R.at_ e (by decide); replace R := R.put e; replace h3 := so e h3; replace h7 := so e h7; replace h18 := so e h18; clear h107 h109; have h110 := g110; clear g110; clear e
      refine st_end ?_
      change (c5_104).wp _ _ _ _
      refine wp_cond_false (x := c5_105) (y := Code.skip) (eval_slot h110) ?_
      refine wp_skip ?_
      change (c5_109).wp _ _ _ _
      refine wp_seq (x := c5_110) (y := c5_111) ?_
      change (Code.region 30 O5_30 false).wp _ _ _ _
      refine reg_in (l := [0, 1, 2, 3, 4, 5, 6, 7, 8]) rfl ?_
      have Y : (execOp a455.eval o5_30_0).run Try.prog w411 = .ok (.value (.agg #[.int .i64 t.k, .string (str t.nm), .int .i64 t.i, .slice ta t.args.length tc])) w411 := by have qq0 : w411.cell? ⟨b1, 0, none⟩ = some (.int .i64 t.k) := B1.cell 0; have qq1 : w411.cell? ⟨b1, 1, none⟩ = some (.string (str t.nm)) := B1.cell 1; have qq2 : w411.cell? ⟨b1, 2, none⟩ = some (.int .i64 t.i) := B1.cell 2; have qq3 : w411.cell? ⟨b1, 3, none⟩ = some (.slice ta t.args.length tc) := B1.cell 3; unfold o5_30_0; go_simp
      refine st_val g5_30_0 rfl (wanted_free rfl) Y fun a457 e => ?_; clear Y
      have g112 := R.at_ e (by decide); replace R := R.put e; replace h7 := so e h7; replace h18 := so e h18; clear h3 h110; have h112 := g112; clear g112; clear e
      have Y : (execOp a457.eval o5_30_1).run Try.prog w411 = .ok (.value (.slice va5 bs.length vc5)) w411 := by unfold o5_30_1; go_simp
      refine st_val g5_30_1 rfl (wanted_free rfl) Y fun a459 e => ?_; clear Y
      have g113 := R.at_ e (by decide); replace R := R.put e; replace h7 := so e h7; replace h112 := so e h112; clear h18; have h113 := g113; clear g113; clear e
      have Y : (execOp a459.eval o5_30_2).run Try.prog w411 = .ok (.enter 30 #[.agg #[.int .i64 t.k, .string (str t.nm), .int .i64 t.i, .slice ta t.args.length tc], .slice va5 bs.length vc5]) w411 := by unfold o5_30_2; go_simp
      obtain ⟨f, hf⟩ : ∃ f, Sols t u bs f := by rcases HLS.out with h | ⟨_, _, h⟩; omega; exact h
      have HF := Lib.hid hf; clear hf
      have HB := Lib.hid (sol_bsl HS5.out.2.1 HS5.out.2.2 HF.out HT.out HU.out)
      have HBA := Lib.hid (bo_lt HS5.out.2.1)
      obtain ⟨zr, e3, hap⟩ : ∃ q e, apV t bs = (q, e) := ⟨_, _, rfl⟩
      have HAP := Lib.hid (HF.out.ap (right_of.2 HF.out.rt) hap)
      have hca := apply_sx (cap := vc5) (bsl_on HB.out K5) (HT.out.on K1) (Nat.le_trans HF.out.len (by decide)) (fun g off h => Nat.lt_of_lt_of_le (HBA.out g off h) K5.size) hap; clear hap
      refine st_call g5_30_2 rfl (wanted_free rfl) Y ((hca).mono ?_); clear Y
      rintro e9 w461 ⟨az, cz, rfl, hx, kk⟩
      replace K1 := keep_onto K1 kk
      replace K2 := keep_onto K2 kk
      replace K5 := keep_onto K5 kk
      replace B1 := blk_on B1 kk
      replace B2 := blk_on B2 kk
      replace B3 := blk_on B3 kk
      clear kk
      clear hca
      have HZ := Lib.hid hx; clear hx
      have K6 := Keep.refl (fun g => g < w461.heap.size) w461
      refine ⟨_, rfl, fun a462 e => ?_⟩
      have g114 := R.at_ e (by decide); replace R := R.put e; replace h7 := so e h7; clear h112 h113; have h114 := g114; clear g114; clear e
      have Y : (execOp a462.eval o5_30_3).run Try.prog w461 = .ok (.value (.tuple #[.agg #[.int .i64 zr.k, .string (str zr.nm), .int .i64 zr.i, .slice az zr.args.length cz], .int .i64 e3])) w461 := by unfold o5_30_3; go_simp
      refine st_val g5_30_3 rfl (wanted_free rfl) Y fun a464 e => ?_; clear Y
      have g111 := R.at_ e (by decide); replace R := R.put e; replace h7 := so e h7; clear h114; have h111 := g111; clear g111; clear e
      have Y : (execOp a464.eval o5_30_4).run Try.prog w461 = .ok (.value (.agg #[.int .i64 zr.k, .string (str zr.nm), .int .i64 zr.i, .slice az zr.args.length cz])) w461 := by unfold o5_30_4; go_simp
      refine st_val g5_30_4 rfl (wanted_free rfl) Y fun a466 e => ?_; clear Y
      have g115 := R.at_ e (by decide); replace R := R.put e; replace h7 := so e h7; replace h111 := so e h111; have h115 := g115; clear g115; clear e
      have Y : (execOp a466.eval o5_30_5).run Try.prog w461 = .ok (.value (.int .i64 e3)) w461 := by unfold o5_30_5; go_simp
      refine st_val g5_30_5 rfl (wanted_free rfl) Y fun a468 e => ?_; clear Y
      have g116 := R.at_ e (by decide); replace R := R.put e; replace h7 := so e h7; replace h115 := so e h115; clear h111; have h116 := g116; clear g116; clear e
      have MK1 := K1
      have MK2 := K2
      have MK5 := K5
      have MK6 := K6
      have Y : (execOp a468.eval o5_30_6).run Try.prog w461 = .ok (.value (.pointer (some ⟨w461.heap.size, 0, none⟩))) (w461.alloc (.cells #[.int .i64 0, .string (⟨#[]⟩), .int .i64 0, .slice none 0 0] 24)) := by unfold o5_30_6; go_simp
      have B470 := Blk.new w461 24 #[.int .i64 0, .string (⟨#[]⟩), .int .i64 0, .slice none 0 0]
      replace K1 := K1.alloc (.cells #[.int .i64 0, .string (⟨#[]⟩), .int .i64 0, .slice none 0 0] 24)
      replace K2 := K2.alloc (.cells #[.int .i64 0, .string (⟨#[]⟩), .int .i64 0, .slice none 0 0] 24)
      replace K5 := K5.alloc (.cells #[.int .i64 0, .string (⟨#[]⟩), .int .i64 0, .slice none 0 0] 24)
      replace K6 := K6.alloc (.cells #[.int .i64 0, .string (⟨#[]⟩), .int .i64 0, .slice none 0 0] 24)
      have Nb1_b470 := Nat.ne_of_lt B1.lt; replace B1 := B1.alloc (.cells #[.int .i64 0, .string (⟨#[]⟩), .int .i64 0, .slice none 0 0] 24)
      have Nb2_b470 := Nat.ne_of_lt B2.lt; replace B2 := B2.alloc (.cells #[.int .i64 0, .string (⟨#[]⟩), .int .i64 0, .slice none 0 0] 24)
      have Nb3_b470 := Nat.ne_of_lt B3.lt; replace B3 := B3.alloc (.cells #[.int .i64 0, .string (⟨#[]⟩), .int .i64 0, .slice none 0 0] 24)
      obtain ⟨w471, hw471⟩ : ∃ x, x = w461.alloc (.cells #[.int .i64 0, .string (⟨#[]⟩), .int .i64 0, .slice none 0 0] 24) := ⟨_, rfl⟩
      rw [← hw471] at Y B470 K1 K2 K5 K6 B1 B2 B3
      obtain ⟨b470, hb470⟩ : ∃ x, x = w461.heap.size := ⟨_, rfl⟩
      rw [← hb470] at Y B470 Nb1_b470 Nb2_b470 Nb3_b470
      have LK1_b470 : W.heap.size ≤ b470 := by rw [hb470]; first | exact Nat.le_refl _ | exact MK1.size
      have LK2_b470 : V.heap.size ≤ b470 := by rw [hb470]; first | exact Nat.le_refl _ | exact MK2.size
      have LK5_b470 : w411.heap.size ≤ b470 := by rw [hb470]; first | exact Nat.le_refl _ | exact MK5.size
      have LK6_b470 : w461.heap.size ≤ b470 := by rw [hb470]; first | exact Nat.le_refl _ | exact MK6.size
      clear hw471 hb470 MK1 MK2 MK5 MK6
      refine st_val g5_30_6 rfl (wanted_free rfl) Y fun a472 e => ?_; clear Y
      have g21 := R.at_ e (by decide); replace R := R.put e; replace h7 := so e h7; replace h115 := so e h115; replace h116 := so e h116; have h21 := g21; clear g21; clear e
      have Y : (execOp a472.eval o5_30_7).run Try.prog w471 = .ok .skip ((((w471.setCell ⟨b470, 0, none⟩ (.int .i64 zr.k)).setCell ⟨b470, 1, none⟩ (.string (str zr.nm))).setCell ⟨b470, 2, none⟩ (.int .i64 zr.i)).setCell ⟨b470, 3, none⟩ (.slice az zr.args.length cz)) := by have qq0 : w471.cell? ⟨b470, 0, none⟩ = some (.int .i64 0) := B470.cell 0; have qq1 : w471.cell? ⟨b470, 1, none⟩ = some (.string (⟨#[]⟩)) := B470.cell 1; have qq2 : w471.cell? ⟨b470, 2, none⟩ = some (.int .i64 0) := B470.cell 2; have qq3 : w471.cell? ⟨b470, 3, none⟩ = some (.slice none 0 0) := B470.cell 3; have z0 := B470.frozen 0; have z1 := B470.frozen 1; have z2 := B470.frozen 2; have z3 := B470.frozen 3; unfold o5_30_7; go_simp
      replace K1 := ((((K1.setCell (p := ⟨b470, 0, none⟩) (Nat.not_lt.2 LK1_b470) (.int .i64 zr.k)).setCell (p := ⟨b470, 1, none⟩) (Nat.not_lt.2 LK1_b470) (.string (str zr.nm))).setCell (p := ⟨b470, 2, none⟩) (Nat.not_lt.2 LK1_b470) (.int .i64 zr.i)).setCell (p := ⟨b470, 3, none⟩) (Nat.not_lt.2 LK1_b470) (.slice az zr.args.length cz))
      replace K2 := ((((K2.setCell (p := ⟨b470, 0, none⟩) (Nat.not_lt.2 LK2_b470) (.int .i64 zr.k)).setCell (p := ⟨b470, 1, none⟩) (Nat.not_lt.2 LK2_b470) (.string (str zr.nm))).setCell (p := ⟨b470, 2, none⟩) (Nat.not_lt.2 LK2_b470) (.int .i64 zr.i)).setCell (p := ⟨b470, 3, none⟩) (Nat.not_lt.2 LK2_b470) (.slice az zr.args.length cz))
      replace K5 := ((((K5.setCell (p := ⟨b470, 0, none⟩) (Nat.not_lt.2 LK5_b470) (.int .i64 zr.k)).setCell (p := ⟨b470, 1, none⟩) (Nat.not_lt.2 LK5_b470) (.string (str zr.nm))).setCell (p := ⟨b470, 2, none⟩) (Nat.not_lt.2 LK5_b470) (.int .i64 zr.i)).setCell (p := ⟨b470, 3, none⟩) (Nat.not_lt.2 LK5_b470) (.slice az zr.args.length cz))
      replace K6 := ((((K6.setCell (p := ⟨b470, 0, none⟩) (Nat.not_lt.2 LK6_b470) (.int .i64 zr.k)).setCell (p := ⟨b470, 1, none⟩) (Nat.not_lt.2 LK6_b470) (.string (str zr.nm))).setCell (p := ⟨b470, 2, none⟩) (Nat.not_lt.2 LK6_b470) (.int .i64 zr.i)).setCell (p := ⟨b470, 3, none⟩) (Nat.not_lt.2 LK6_b470) (.slice az zr.args.length cz))
      replace B1 := ((((B1.far (p := ⟨b470, 0, none⟩) Nb1_b470 (.int .i64 zr.k)).far (p := ⟨b470, 1, none⟩) Nb1_b470 (.string (str zr.nm))).far (p := ⟨b470, 2, none⟩) Nb1_b470 (.int .i64 zr.i)).far (p := ⟨b470, 3, none⟩) Nb1_b470 (.slice az zr.args.length cz))
      replace B2 := ((((B2.far (p := ⟨b470, 0, none⟩) Nb2_b470 (.int .i64 zr.k)).far (p := ⟨b470, 1, none⟩) Nb2_b470 (.string (str zr.nm))).far (p := ⟨b470, 2, none⟩) Nb2_b470 (.int .i64 zr.i)).far (p := ⟨b470, 3, none⟩) Nb2_b470 (.slice az zr.args.length cz))
      replace B3 := ((((B3.far (p := ⟨b470, 0, none⟩) Nb3_b470 (.int .i64 zr.k)).far (p := ⟨b470, 1, none⟩) Nb3_b470 (.string (str zr.nm))).far (p := ⟨b470, 2, none⟩) Nb3_b470 (.int .i64 zr.i)).far (p := ⟨b470, 3, none⟩) Nb3_b470 (.slice az zr.args.length cz))
      replace B470 : Blk ((((w471.setCell ⟨b470, 0, none⟩ (.int .i64 zr.k)).setCell ⟨b470, 1, none⟩ (.string (str zr.nm))).setCell ⟨b470, 2, none⟩ (.int .i64 zr.i)).setCell ⟨b470, 3, none⟩ (.slice az zr.args.length cz)) b470 24 #[.int .i64 zr.k, .string (str zr.nm), .int .i64 zr.i, .slice az zr.args.length cz] := ((((B470.set_ 0 (.int .i64 zr.k)).set_ 1 (.string (str zr.nm))).set_ 2 (.int .i64 zr.i)).set_ 3 (.slice az zr.args.length cz))
      generalize ((((w471.setCell ⟨b470, 0, none⟩ (.int .i64 zr.k)).setCell ⟨b470, 1, none⟩ (.string (str zr.nm))).setCell ⟨b470, 2, none⟩ (.int .i64 zr.i)).setCell ⟨b470, 3, none⟩ (.slice az zr.args.length cz)) = w474 at Y K1 K2 K5 K6 B1 B2 B3 B470
      refine st_skip g5_30_7 rfl (wanted_free rfl) Y ?_; clear Y
      have Y : (execOp a472.eval o5_30_8).run Try.prog w474 = .ok (.value (.int .i64 e3)) w474 := by unfold o5_30_8; go_simp
      refine st_val g5_30_8 rfl (wanted_free rfl) Y fun a475 e => ?_; clear Y
      have g22 := R.at_ e (by decide); replace R := R.put e; replace h7 := so e h7; replace h21 := so e h21; clear h115 h116; have h22 := g22; clear g22; clear e
      refine st_end ?_
      change (c5_111).wp _ _ _ _
      refine wp_seq (x := c5_112) (y := c5_119) ?_
      refine wp_seq (x := c5_113) (y := c5_114) ?_
      change (Code.region 31 O5_31 false).wp _ _ _ _
      refine reg_in (l := [0, 1]) rfl ?_
      have Y : (execOp a475.eval o5_31_0).run Try.prog w474 = .ok (.value (.int .i64 e3)) w474 := by unfold o5_31_0; go_simp
      refine st_val g5_31_0 rfl (wanted_free rfl) Y fun a477 e => ?_; clear Y
      have g117 := R.at_ e (by decide); replace R := R.put e; replace h7 := so e h7; replace h21 := so e h21; replace h22 := so e h22; have h117 := g117; clear g117; clear e
      obtain ⟨b479, hb479⟩ : ∃ x, (((e3 : Int) != (0 : Int))) = x := ⟨_, rfl⟩
      have Y : (execOp a477.eval o5_31_1).run Try.prog w474 = .ok (.value (.bool b479)) w474 := by rw [← hb479]; unfold o5_31_1; go_simp
      refine st_val g5_31_1 rfl (wanted_free rfl) Y fun a480 e => ?_; clear Y
      have g118 := R.at_ e (by decide); replace R := R.put e; replace h7 := so e h7; replace h21 := so e h21; replace h22 := so e h22; clear h117; have h118 := g118; clear g118; clear e
      refine st_end ?_
      change (c5_114).wp _ _ _ _
      cases b479 with
      | false =>
        have fb479 := hb479; clear hb479
        simp only [decide_eq_true_eq, decide_eq_false_iff_not, bne_iff_ne, bne_eq_false_iff_eq, beq_iff_eq, beq_eq_false_iff_ne, ne_eq, Bool.not_eq_true', Bool.not_eq_false', Bool.not_eq_eq_eq_not, Bool.not_true, Bool.not_false] at fb479
        refine wp_cond_false (x := c5_115) (y := Code.skip) (eval_slot h118) ?_
        refine wp_skip ?_
        change (c5_119).wp _ _ _ _
        refine wp_seq (x := c5_120) (y := c5_121) ?_
        change (Code.region 33 O5_33 false).wp _ _ _ _
        refine reg_in (l := [0, 1, 2, 3, 4, 5, 6, 7, 8, 9]) rfl ?_
        have Y : (execOp a480.eval o5_33_0).run Try.prog w474 = .ok (.value (.agg #[.int .i64 zr.k, .string (str zr.nm), .int .i64 zr.i, .slice az zr.args.length cz])) w474 := by have qq0 : w474.cell? ⟨b470, 0, none⟩ = some (.int .i64 zr.k) := B470.cell 0; have qq1 : w474.cell? ⟨b470, 1, none⟩ = some (.string (str zr.nm)) := B470.cell 1; have qq2 : w474.cell? ⟨b470, 2, none⟩ = some (.int .i64 zr.i) := B470.cell 2; have qq3 : w474.cell? ⟨b470, 3, none⟩ = some (.slice az zr.args.length cz) := B470.cell 3; unfold o5_33_0; go_simp
        refine st_val g5_33_0 rfl (wanted_free rfl) Y fun a482 e => ?_; clear Y
        have g122 := R.at_ e (by decide); replace R := R.put e; replace h7 := so e h7; clear h21 h22 h118; have h122 := g122; clear g122; clear e
        have Y : (execOp a482.eval o5_33_1).run Try.prog w474 = .ok (.enter 32 #[.agg #[.int .i64 zr.k, .string (str zr.nm), .int .i64 zr.i, .slice az zr.args.length cz], .int .i64 1099511627776]) w474 := by unfold o5_33_1; go_simp
        have hzr := (HAP.out.2 (by omega)).1
        have hcr := rename_sx (HZ.out.on K6) (m := 1099511627776) (by decide) (rnV_eq hzr (by decide) (by decide)); clear hzr
        refine st_call g5_33_1 rfl (wanted_free rfl) Y ((hcr).mono ?_); clear Y
        rintro e9 w484 ⟨aw, cw, rfl, hx, kk⟩
        replace K1 := keep_onto K1 kk
        replace K2 := keep_onto K2 kk
        replace K5 := keep_onto K5 kk
        replace K6 := keep_onto K6 kk
        replace B1 := blk_on B1 kk
        replace B2 := blk_on B2 kk
        replace B3 := blk_on B3 kk
        replace B470 := blk_on B470 kk
        clear kk
        clear hcr
        have HW := Lib.hid hx; clear hx
        have K7 := Keep.refl (fun g => g < w484.heap.size) w484
        refine ⟨_, rfl, fun a485 e => ?_⟩
        have g123 := R.at_ e (by decide); replace R := R.put e; replace h7 := so e h7; clear h122; have h123 := g123; clear g123; clear e
        have Y : (execOp a485.eval o5_33_2).run Try.prog w484 = .ok (.value (.tuple #[.agg #[.int .i64 ((zr.tree.ren 1099511627776).tm.k), .string (str (zr.tree.ren 1099511627776).tm.nm), .int .i64 ((zr.tree.ren 1099511627776).tm.i), .slice aw (zr.tree.ren 1099511627776).tm.args.length cw], .int .i64 (1099511627776 + (zr.tree.vars.length : Int)), .int .i64 0])) w484 := by unfold o5_33_2; go_simp
        refine st_val g5_33_2 rfl (wanted_free rfl) Y fun a487 e => ?_; clear Y
        have g121 := R.at_ e (by decide); replace R := R.put e; replace h7 := so e h7; clear h123; have h121 := g121; clear g121; clear e
        have Y : (execOp a487.eval o5_33_3).run Try.prog w484 = .ok (.value (.agg #[.int .i64 ((zr.tree.ren 1099511627776).tm.k), .string (str (zr.tree.ren 1099511627776).tm.nm), .int .i64 ((zr.tree.ren 1099511627776).tm.i), .slice aw (zr.tree.ren 1099511627776).tm.args.length cw])) w484 := by unfold o5_33_3; go_simp
        refine st_val g5_33_3 rfl (wanted_free rfl) Y fun a489 e => ?_; clear Y
        have g124 := R.at_ e (by decide); replace R := R.put e; replace h7 := so e h7; replace h121 := so e h121; have h124 := g124; clear g124; clear e
        have Y : (execOp a489.eval o5_33_4).run Try.prog w484 = .ok (.value (.int .i64 (1099511627776 + (zr.tree.vars.length : Int)))) w484 := by unfold o5_33_4; go_simp
        refine st_val g5_33_4 rfl (wanted_free rfl) Y fun a491 e => ?_; clear Y
        have g125 := R.at_ e (by decide); replace R := R.put e; replace h7 := so e h7; replace h121 := so e h121; replace h124 := so e h124; have h125 := g125; clear g125; clear e
        have Y : (execOp a491.eval o5_33_5).run Try.prog w484 = .ok (.value (.int .i64 0)) w484 := by unfold o5_33_5; go_simp
        refine st_val g5_33_5 rfl (wanted_free rfl) Y fun a493 e => ?_; clear Y
        have g126 := R.at_ e (by decide); replace R := R.put e; replace h7 := so e h7; replace h124 := so e h124; replace h125 := so e h125; clear h121; have h126 := g126; clear g126; clear e
        have MK1 := K1
        have MK2 := K2
        have MK5 := K5
        have MK6 := K6
        have MK7 := K7
        have Y : (execOp a493.eval o5_33_6).run Try.prog w484 = .ok (.value (.pointer (some ⟨w484.heap.size, 0, none⟩))) (w484.alloc (.cells #[.int .i64 0, .string (⟨#[]⟩), .int .i64 0, .slice none 0 0] 24)) := by unfold o5_33_6; go_simp
        have B495 := Blk.new w484 24 #[.int .i64 0, .string (⟨#[]⟩), .int .i64 0, .slice none 0 0]
        replace K1 := K1.alloc (.cells #[.int .i64 0, .string (⟨#[]⟩), .int .i64 0, .slice none 0 0] 24)
        replace K2 := K2.alloc (.cells #[.int .i64 0, .string (⟨#[]⟩), .int .i64 0, .slice none 0 0] 24)
        replace K5 := K5.alloc (.cells #[.int .i64 0, .string (⟨#[]⟩), .int .i64 0, .slice none 0 0] 24)
        replace K6 := K6.alloc (.cells #[.int .i64 0, .string (⟨#[]⟩), .int .i64 0, .slice none 0 0] 24)
        replace K7 := K7.alloc (.cells #[.int .i64 0, .string (⟨#[]⟩), .int .i64 0, .slice none 0 0] 24)
        have Nb1_b495 := Nat.ne_of_lt B1.lt; replace B1 := B1.alloc (.cells #[.int .i64 0, .string (⟨#[]⟩), .int .i64 0, .slice none 0 0] 24)
        have Nb2_b495 := Nat.ne_of_lt B2.lt; replace B2 := B2.alloc (.cells #[.int .i64 0, .string (⟨#[]⟩), .int .i64 0, .slice none 0 0] 24)
        have Nb3_b495 := Nat.ne_of_lt B3.lt; replace B3 := B3.alloc (.cells #[.int .i64 0, .string (⟨#[]⟩), .int .i64 0, .slice none 0 0] 24)
        have Nb470_b495 := Nat.ne_of_lt B470.lt; replace B470 := B470.alloc (.cells #[.int .i64 0, .string (⟨#[]⟩), .int .i64 0, .slice none 0 0] 24)
        obtain ⟨w496, hw496⟩ : ∃ x, x = w484.alloc (.cells #[.int .i64 0, .string (⟨#[]⟩), .int .i64 0, .slice none 0 0] 24) := ⟨_, rfl⟩
        rw [← hw496] at Y B495 K1 K2 K5 K6 K7 B1 B2 B3 B470
        obtain ⟨b495, hb495⟩ : ∃ x, x = w484.heap.size := ⟨_, rfl⟩
        rw [← hb495] at Y B495 Nb1_b495 Nb2_b495 Nb3_b495 Nb470_b495
        have LK1_b495 : W.heap.size ≤ b495 := by rw [hb495]; first | exact Nat.le_refl _ | exact MK1.size
        have LK2_b495 : V.heap.size ≤ b495 := by rw [hb495]; first | exact Nat.le_refl _ | exact MK2.size
        have LK5_b495 : w411.heap.size ≤ b495 := by rw [hb495]; first | exact Nat.le_refl _ | exact MK5.size
        have LK6_b495 : w461.heap.size ≤ b495 := by rw [hb495]; first | exact Nat.le_refl _ | exact MK6.size
        have LK7_b495 : w484.heap.size ≤ b495 := by rw [hb495]; first | exact Nat.le_refl _ | exact MK7.size
        clear hw496 hb495 MK1 MK2 MK5 MK6 MK7
        refine st_val g5_33_6 rfl (wanted_free rfl) Y fun a497 e => ?_; clear Y
        have g23 := R.at_ e (by decide); replace R := R.put e; replace h7 := so e h7; replace h124 := so e h124; replace h125 := so e h125; replace h126 := so e h126; have h23 := g23; clear g23; clear e
        have Y : (execOp a497.eval o5_33_7).run Try.prog w496 = .ok .skip ((((w496.setCell ⟨b495, 0, none⟩ (.int .i64 ((zr.tree.ren 1099511627776).tm.k))).setCell ⟨b495, 1, none⟩ (.string (str (zr.tree.ren 1099511627776).tm.nm))).setCell ⟨b495, 2, none⟩ (.int .i64 ((zr.tree.ren 1099511627776).tm.i))).setCell ⟨b495, 3, none⟩ (.slice aw (zr.tree.ren 1099511627776).tm.args.length cw)) := by have qq0 : w496.cell? ⟨b495, 0, none⟩ = some (.int .i64 0) := B495.cell 0; have qq1 : w496.cell? ⟨b495, 1, none⟩ = some (.string (⟨#[]⟩)) := B495.cell 1; have qq2 : w496.cell? ⟨b495, 2, none⟩ = some (.int .i64 0) := B495.cell 2; have qq3 : w496.cell? ⟨b495, 3, none⟩ = some (.slice none 0 0) := B495.cell 3; have z0 := B495.frozen 0; have z1 := B495.frozen 1; have z2 := B495.frozen 2; have z3 := B495.frozen 3; unfold o5_33_7; go_simp
        replace K1 := ((((K1.setCell (p := ⟨b495, 0, none⟩) (Nat.not_lt.2 LK1_b495) (.int .i64 ((zr.tree.ren 1099511627776).tm.k))).setCell (p := ⟨b495, 1, none⟩) (Nat.not_lt.2 LK1_b495) (.string (str (zr.tree.ren 1099511627776).tm.nm))).setCell (p := ⟨b495, 2, none⟩) (Nat.not_lt.2 LK1_b495) (.int .i64 ((zr.tree.ren 1099511627776).tm.i))).setCell (p := ⟨b495, 3, none⟩) (Nat.not_lt.2 LK1_b495) (.slice aw (zr.tree.ren 1099511627776).tm.args.length cw))
        replace K2 := ((((K2.setCell (p := ⟨b495, 0, none⟩) (Nat.not_lt.2 LK2_b495) (.int .i64 ((zr.tree.ren 1099511627776).tm.k))).setCell (p := ⟨b495, 1, none⟩) (Nat.not_lt.2 LK2_b495) (.string (str (zr.tree.ren 1099511627776).tm.nm))).setCell (p := ⟨b495, 2, none⟩) (Nat.not_lt.2 LK2_b495) (.int .i64 ((zr.tree.ren 1099511627776).tm.i))).setCell (p := ⟨b495, 3, none⟩) (Nat.not_lt.2 LK2_b495) (.slice aw (zr.tree.ren 1099511627776).tm.args.length cw))
        replace K5 := ((((K5.setCell (p := ⟨b495, 0, none⟩) (Nat.not_lt.2 LK5_b495) (.int .i64 ((zr.tree.ren 1099511627776).tm.k))).setCell (p := ⟨b495, 1, none⟩) (Nat.not_lt.2 LK5_b495) (.string (str (zr.tree.ren 1099511627776).tm.nm))).setCell (p := ⟨b495, 2, none⟩) (Nat.not_lt.2 LK5_b495) (.int .i64 ((zr.tree.ren 1099511627776).tm.i))).setCell (p := ⟨b495, 3, none⟩) (Nat.not_lt.2 LK5_b495) (.slice aw (zr.tree.ren 1099511627776).tm.args.length cw))
        replace K6 := ((((K6.setCell (p := ⟨b495, 0, none⟩) (Nat.not_lt.2 LK6_b495) (.int .i64 ((zr.tree.ren 1099511627776).tm.k))).setCell (p := ⟨b495, 1, none⟩) (Nat.not_lt.2 LK6_b495) (.string (str (zr.tree.ren 1099511627776).tm.nm))).setCell (p := ⟨b495, 2, none⟩) (Nat.not_lt.2 LK6_b495) (.int .i64 ((zr.tree.ren 1099511627776).tm.i))).setCell (p := ⟨b495, 3, none⟩) (Nat.not_lt.2 LK6_b495) (.slice aw (zr.tree.ren 1099511627776).tm.args.length cw))
        replace K7 := ((((K7.setCell (p := ⟨b495, 0, none⟩) (Nat.not_lt.2 LK7_b495) (.int .i64 ((zr.tree.ren 1099511627776).tm.k))).setCell (p := ⟨b495, 1, none⟩) (Nat.not_lt.2 LK7_b495) (.string (str (zr.tree.ren 1099511627776).tm.nm))).setCell (p := ⟨b495, 2, none⟩) (Nat.not_lt.2 LK7_b495) (.int .i64 ((zr.tree.ren 1099511627776).tm.i))).setCell (p := ⟨b495, 3, none⟩) (Nat.not_lt.2 LK7_b495) (.slice aw (zr.tree.ren 1099511627776).tm.args.length cw))
        replace B1 := ((((B1.far (p := ⟨b495, 0, none⟩) Nb1_b495 (.int .i64 ((zr.tree.ren 1099511627776).tm.k))).far (p := ⟨b495, 1, none⟩) Nb1_b495 (.string (str (zr.tree.ren 1099511627776).tm.nm))).far (p := ⟨b495, 2, none⟩) Nb1_b495 (.int .i64 ((zr.tree.ren 1099511627776).tm.i))).far (p := ⟨b495, 3, none⟩) Nb1_b495 (.slice aw (zr.tree.ren 1099511627776).tm.args.length cw))
        replace B2 := ((((B2.far (p := ⟨b495, 0, none⟩) Nb2_b495 (.int .i64 ((zr.tree.ren 1099511627776).tm.k))).far (p := ⟨b495, 1, none⟩) Nb2_b495 (.string (str (zr.tree.ren 1099511627776).tm.nm))).far (p := ⟨b495, 2, none⟩) Nb2_b495 (.int .i64 ((zr.tree.ren 1099511627776).tm.i))).far (p := ⟨b495, 3, none⟩) Nb2_b495 (.slice aw (zr.tree.ren 1099511627776).tm.args.length cw))
        replace B3 := ((((B3.far (p := ⟨b495, 0, none⟩) Nb3_b495 (.int .i64 ((zr.tree.ren 1099511627776).tm.k))).far (p := ⟨b495, 1, none⟩) Nb3_b495 (.string (str (zr.tree.ren 1099511627776).tm.nm))).far (p := ⟨b495, 2, none⟩) Nb3_b495 (.int .i64 ((zr.tree.ren 1099511627776).tm.i))).far (p := ⟨b495, 3, none⟩) Nb3_b495 (.slice aw (zr.tree.ren 1099511627776).tm.args.length cw))
        replace B470 := ((((B470.far (p := ⟨b495, 0, none⟩) Nb470_b495 (.int .i64 ((zr.tree.ren 1099511627776).tm.k))).far (p := ⟨b495, 1, none⟩) Nb470_b495 (.string (str (zr.tree.ren 1099511627776).tm.nm))).far (p := ⟨b495, 2, none⟩) Nb470_b495 (.int .i64 ((zr.tree.ren 1099511627776).tm.i))).far (p := ⟨b495, 3, none⟩) Nb470_b495 (.slice aw (zr.tree.ren 1099511627776).tm.args.length cw))
        replace B495 : Blk ((((w496.setCell ⟨b495, 0, none⟩ (.int .i64 ((zr.tree.ren 1099511627776).tm.k))).setCell ⟨b495, 1, none⟩ (.string (str (zr.tree.ren 1099511627776).tm.nm))).setCell ⟨b495, 2, none⟩ (.int .i64 ((zr.tree.ren 1099511627776).tm.i))).setCell ⟨b495, 3, none⟩ (.slice aw (zr.tree.ren 1099511627776).tm.args.length cw)) b495 24 #[.int .i64 ((zr.tree.ren 1099511627776).tm.k), .string (str (zr.tree.ren 1099511627776).tm.nm), .int .i64 ((zr.tree.ren 1099511627776).tm.i), .slice aw (zr.tree.ren 1099511627776).tm.args.length cw] := ((((B495.set_ 0 (.int .i64 ((zr.tree.ren 1099511627776).tm.k))).set_ 1 (.string (str (zr.tree.ren 1099511627776).tm.nm))).set_ 2 (.int .i64 ((zr.tree.ren 1099511627776).tm.i))).set_ 3 (.slice aw (zr.tree.ren 1099511627776).tm.args.length cw))
        generalize ((((w496.setCell ⟨b495, 0, none⟩ (.int .i64 ((zr.tree.ren 1099511627776).tm.k))).setCell ⟨b495, 1, none⟩ (.string (str (zr.tree.ren 1099511627776).tm.nm))).setCell ⟨b495, 2, none⟩ (.int .i64 ((zr.tree.ren 1099511627776).tm.i))).setCell ⟨b495, 3, none⟩ (.slice aw (zr.tree.ren 1099511627776).tm.args.length cw)) = w499 at Y K1 K2 K5 K6 K7 B1 B2 B3 B470 B495
        refine st_skip g5_33_7 rfl (wanted_free rfl) Y ?_; clear Y
        have Y : (execOp a497.eval o5_33_8).run Try.prog w499 = .ok (.value (.int .i64 (1099511627776 + (zr.tree.vars.length : Int)))) w499 := by unfold o5_33_8; go_simp
        refine st_val g5_33_8 rfl (wanted_free rfl) Y fun a500 e => ?_; clear Y
        replace R := R.put e; replace h7 := so e h7; replace h23 := so e h23; replace h126 := so e h126; clear h124 h125; clear e
        have Y : (execOp a500.eval o5_33_9).run Try.prog w499 = .ok (.value (.int .i64 0)) w499 := by unfold o5_33_9; go_simp
        refine st_val g5_33_9 rfl (wanted_free rfl) Y fun a502 e => ?_; clear Y
        have g25 := R.at_ e (by decide); replace R := R.put e; replace h7 := so e h7; replace h23 := so e h23; clear h126; have h25 := g25; clear g25; clear e
        refine st_end ?_
        change (c5_121).wp _ _ _ _
        refine wp_seq (x := c5_122) (y := c5_129) ?_
        refine wp_seq (x := c5_123) (y := c5_124) ?_
        change (Code.region 34 O5_34 false).wp _ _ _ _
        refine reg_in (l := [0, 1]) rfl ?_
        have Y : (execOp a502.eval o5_34_0).run Try.prog w499 = .ok (.value (.int .i64 0)) w499 := by unfold o5_34_0; go_simp
        refine st_val g5_34_0 rfl (wanted_free rfl) Y fun a504 e => ?_; clear Y
        have g127 := R.at_ e (by decide); replace R := R.put e; replace h7 := so e h7; replace h23 := so e h23; clear h25; have h127 := g127; clear g127; clear e
        have Y : (execOp a504.eval o5_34_1).run Try.prog w499 = .ok (.value (.bool false)) w499 := by unfold o5_34_1; go_simp
        refine st_val g5_34_1 rfl (wanted_free rfl) Y fun a506 e => ?_; clear Y
        have g128 := R.at_ e (by decide); replace R := R.put e; replace h7 := so e h7; replace h23 := so e h23; clear h127; have h128 := g128; clear g128; clear e
        refine st_end ?_
        change (c5_124).wp _ _ _ _
        refine wp_cond_false (x := c5_125) (y := Code.skip) (eval_slot h128) ?_
        refine wp_skip ?_
        change (c5_129).wp _ _ _ _
        refine wp_seq (x := c5_130) (y := c5_131) ?_
        change (Code.region 36 O5_36 false).wp _ _ _ _
        refine reg_in (l := [0, 1, 2, 3, 4, 5, 6, 7, 8, 9]) rfl ?_
        have Y : (execOp a506.eval o5_36_0).run Try.prog w499 = .ok (.value (.agg #[.int .i64 ((zr.tree.ren 1099511627776).tm.k), .string (str (zr.tree.ren 1099511627776).tm.nm), .int .i64 ((zr.tree.ren 1099511627776).tm.i), .slice aw (zr.tree.ren 1099511627776).tm.args.length cw])) w499 := by have qq0 : w499.cell? ⟨b495, 0, none⟩ = some (.int .i64 ((zr.tree.ren 1099511627776).tm.k)) := B495.cell 0; have qq1 : w499.cell? ⟨b495, 1, none⟩ = some (.string (str (zr.tree.ren 1099511627776).tm.nm)) := B495.cell 1; have qq2 : w499.cell? ⟨b495, 2, none⟩ = some (.int .i64 ((zr.tree.ren 1099511627776).tm.i)) := B495.cell 2; have qq3 : w499.cell? ⟨b495, 3, none⟩ = some (.slice aw (zr.tree.ren 1099511627776).tm.args.length cw) := B495.cell 3; unfold o5_36_0; go_simp
        refine st_val g5_36_0 rfl (wanted_free rfl) Y fun a508 e => ?_; clear Y
        have g130 := R.at_ e (by decide); replace R := R.put e; replace h7 := so e h7; clear h23 h128; have h130 := g130; clear g130; clear e
        have Y : (execOp a508.eval o5_36_1).run Try.prog w499 = .ok (.value (.agg #[.int .i64 xr.k, .string (str xr.nm), .int .i64 xr.i, .slice ax xr.args.length cx])) w499 := by have qq0 : w499.cell? ⟨b3, 0, none⟩ = some (.int .i64 xr.k) := B3.cell 0; have qq1 : w499.cell? ⟨b3, 1, none⟩ = some (.string (str xr.nm)) := B3.cell 1; have qq2 : w499.cell? ⟨b3, 2, none⟩ = some (.int .i64 xr.i) := B3.cell 2; have qq3 : w499.cell? ⟨b3, 3, none⟩ = some (.slice ax xr.args.length cx) := B3.cell 3; unfold o5_36_1; go_simp
        refine st_val g5_36_1 rfl (wanted_free rfl) Y fun a510 e => ?_; clear Y
        have g131 := R.at_ e (by decide); replace R := R.put e; replace h130 := so e h130; clear h7; have h131 := g131; clear g131; clear e
        have Y : (execOp a510.eval o5_36_2).run Try.prog w499 = .ok (.enter 28 #[.agg #[.int .i64 ((zr.tree.ren 1099511627776).tm.k), .string (str (zr.tree.ren 1099511627776).tm.nm), .int .i64 ((zr.tree.ren 1099511627776).tm.i), .slice aw (zr.tree.ren 1099511627776).tm.args.length cw], .agg #[.int .i64 xr.k, .string (str xr.nm), .int .i64 xr.i, .slice ax xr.args.length cx]]) w499 := by unfold o5_36_2; go_simp
        refine st_call g5_36_2 rfl (wanted_free rfl) Y ((solve_sx (HW.out.on K7) (HX.out.on K2)).mono ?_); clear Y
        rintro e9 w512 ⟨va6, vc6, ds, ok6, er6, rfl, hs, kk⟩
        replace K1 := keep_onto K1 kk
        replace K2 := keep_onto K2 kk
        replace K5 := keep_onto K5 kk
        replace K6 := keep_onto K6 kk
        replace K7 := keep_onto K7 kk
        replace B1 := blk_on B1 kk
        replace B2 := blk_on B2 kk
        replace B3 := blk_on B3 kk
        replace B470 := blk_on B470 kk
        replace B495 := blk_on B495 kk
        clear kk
        have he1 : e1 = 0 := by omega
        have he2 : e2 = 0 := by omega
        have hzz := HAP.out.2 (by omega)
        have HFT := Lib.hid (least_fits (by rw [← he1]; exact HA1.out) (by rw [← he2]; exact HA2.out) HZS.out HF.out hzz.2 hzz.1 (by decide) HBX.out hs.1); clear hs he1 he2 hzz
        refine ⟨_, rfl, fun a513 e => ?_⟩
        have g132 := R.at_ e (by decide); replace R := R.put e; clear h130 h131; have h132 := g132; clear g132; clear e
        have Y : (execOp a513.eval o5_36_3).run Try.prog w512 = .ok (.value (.tuple #[.slice va6 ds.length vc6, .bool ok6, .int .i64 er6])) w512 := by unfold o5_36_3; go_simp
        refine st_val g5_36_3 rfl (wanted_free rfl) Y fun a515 e => ?_; clear Y
        have g129 := R.at_ e (by decide); replace R := R.put e; clear h132; have h129 := g129; clear g129; clear e
        have Y : (execOp a515.eval o5_36_4).run Try.prog w512 = .ok (.value (.slice va6 ds.length vc6)) w512 := by unfold o5_36_4; go_simp
        refine st_val g5_36_4 rfl (wanted_free rfl) Y fun a517 e => ?_; clear Y
        have g133 := R.at_ e (by decide); replace R := R.put e; replace h129 := so e h129; have h133 := g133; clear g133; clear e
        have Y : (execOp a517.eval o5_36_5).run Try.prog w512 = .ok (.value (.bool ok6)) w512 := by unfold o5_36_5; go_simp
        refine st_val g5_36_5 rfl (wanted_free rfl) Y fun a519 e => ?_; clear Y
        have g134 := R.at_ e (by decide); replace R := R.put e; replace h129 := so e h129; replace h133 := so e h133; have h134 := g134; clear g134; clear e
        have Y : (execOp a519.eval o5_36_6).run Try.prog w512 = .ok (.value (.int .i64 er6)) w512 := by unfold o5_36_6; go_simp
        refine st_val g5_36_6 rfl (wanted_free rfl) Y fun a521 e => ?_; clear Y
        have g135 := R.at_ e (by decide); replace R := R.put e; replace h133 := so e h133; replace h134 := so e h134; clear h129; have h135 := g135; clear g135; clear e
        have Y : (execOp a521.eval o5_36_7).run Try.prog w512 = .ok (.value (.slice va6 ds.length vc6)) w512 := by unfold o5_36_7; go_simp
        refine st_val g5_36_7 rfl (wanted_free rfl) Y fun a523 e => ?_; clear Y
        replace R := R.put e; replace h134 := so e h134; replace h135 := so e h135; clear h133; clear e
        have Y : (execOp a523.eval o5_36_8).run Try.prog w512 = .ok (.value (.bool ok6)) w512 := by unfold o5_36_8; go_simp
        refine st_val g5_36_8 rfl (wanted_free rfl) Y fun a525 e => ?_; clear Y
        have g27 := R.at_ e (by decide); replace R := R.put e; replace h135 := so e h135; clear h134; have h27 := g27; clear g27; clear e
        have Y : (execOp a525.eval o5_36_9).run Try.prog w512 = .ok (.value (.int .i64 er6)) w512 := by unfold o5_36_9; go_simp
        refine st_val g5_36_9 rfl (wanted_free rfl) Y fun a527 e => ?_; clear Y
        have g28 := R.at_ e (by decide); replace R := R.put e; replace h27 := so e h27; clear h135; have h28 := g28; clear g28; clear e
        refine st_end ?_
        change (c5_131).wp _ _ _ _
        refine wp_seq (x := c5_132) (y := Code.ret) ?_
        change (Code.region 37 O5_37 false).wp _ _ _ _
        refine reg_in (l := [0, 1, 2, 3, 4, 5]) rfl ?_
        have Y : (execOp a527.eval o5_37_0).run Try.prog w512 = .ok (.value (.bool ok6)) w512 := by unfold o5_37_0; go_simp
        refine st_val g5_37_0 rfl (wanted_free rfl) Y fun a529 e => ?_; clear Y
        have g136 := R.at_ e (by decide); replace R := R.put e; replace h28 := so e h28; clear h27; have h136 := g136; clear g136; clear e
        have Y : (execOp a529.eval o5_37_1).run Try.prog w512 = .ok (.value (.bool ok6)) w512 := by unfold o5_37_1; go_simp
        refine st_val g5_37_1 rfl (wanted_free rfl) Y fun a531 e => ?_; clear Y
        have g137 := R.at_ e (by decide); replace R := R.put e; replace h28 := so e h28; clear h136; have h137 := g137; clear g137; clear e
        cases ok6 with
        | false =>
          have Y : (execOp a531.eval o5_37_2).run Try.prog w512 = .ok (.value (.int .i64 er6)) w512 := by unfold o5_37_2; go_simp
          refine st_val g5_37_2 rfl (wanted_is (j := 1) (d := 137) rfl rfl h137 rfl) Y fun a533 e => ?_; clear Y
          have g138 := R.at_ e (by decide); replace R := R.put e; replace h137 := so e h137; clear h28; have h138 := g138; clear g138; clear e
          have Y : (execOp a533.eval o5_37_3).run Try.prog w512 = .ok (.value (.bool true)) w512 := by have h2 : er6 = 2 := (by rcases HFT.out with h | h; exact absurd h (by decide); exact h); unfold o5_37_3; go_simp
          refine st_val g5_37_3 rfl (wanted_is (j := 1) (d := 137) rfl rfl h137 rfl) Y fun a535 e => ?_; clear Y
          have g139 := R.at_ e (by decide); replace R := R.put e; replace h137 := so e h137; clear h138; have h139 := g139; clear g139; clear e
          have Y : (execOp a535.eval o5_37_4).run Try.prog w512 = .ok (.value (.bool true)) w512 := by unfold o5_37_4; go_simp
          refine st_val g5_37_4 rfl (wanted_free rfl) Y fun a537 e => ?_; clear Y
          have g140 := R.at_ e (by decide); replace R := R.put e; clear h137 h139; have h140 := g140; clear g140; clear e
          have Y : (execOp a537.eval o5_37_5).run Try.prog w512 = .ok (.value (.bool true)) w512 := by unfold o5_37_5; go_simp
          refine st_val g5_37_5 rfl (wanted_free rfl) Y fun a539 e => ?_; clear Y
          have g6 := R.at_ e (by decide); replace R := R.put e; clear h140; have h6 := g6; clear g6; clear e
          refine st_end ?_
          change (Code.ret).wp _ _ _ _
          refine wp_ret ?_
          change bodyPost Try.prog Try.f5 (fun e w' => e = .returned (.bool true) ∧ Keep (fun g => g < W.heap.size) W w') .ret a539 w512
          refine ret_one rfl R h6 ?_
          exact ⟨rfl, K1⟩
        | true =>
          refine st_not g5_37_2 rfl (wanted_is (j := 1) (d := 137) rfl rfl h137 rfl) fun a541 e => ?_
          have g138 := R.at_ e (by decide); replace R := R.put e; replace h137 := so e h137; clear h28; have h138 := g138; clear g138; clear e
          refine st_not g5_37_3 rfl (wanted_is (j := 1) (d := 137) rfl rfl h137 rfl) fun a543 e => ?_
          have g139 := R.at_ e (by decide); replace R := R.put e; replace h137 := so e h137; clear h138; have h139 := g139; clear g139; clear e
          have Y : (execOp a543.eval o5_37_4).run Try.prog w512 = .ok (.value (.bool true)) w512 := by unfold o5_37_4; go_simp
          refine st_val g5_37_4 rfl (wanted_free rfl) Y fun a545 e => ?_; clear Y
          have g140 := R.at_ e (by decide); replace R := R.put e; clear h137 h139; have h140 := g140; clear g140; clear e
          have Y : (execOp a545.eval o5_37_5).run Try.prog w512 = .ok (.value (.bool true)) w512 := by unfold o5_37_5; go_simp
          refine st_val g5_37_5 rfl (wanted_free rfl) Y fun a547 e => ?_; clear Y
          have g6 := R.at_ e (by decide); replace R := R.put e; clear h140; have h6 := g6; clear g6; clear e
          refine st_end ?_
          change (Code.ret).wp _ _ _ _
          refine wp_ret ?_
          change bodyPost Try.prog Try.f5 (fun e w' => e = .returned (.bool true) ∧ Keep (fun g => g < W.heap.size) W w') .ret a547 w512
          refine ret_one rfl R h6 ?_
          exact ⟨rfl, K1⟩
      | true =>
        have fb479 := hb479; clear hb479
        simp only [decide_eq_true_eq, decide_eq_false_iff_not, bne_iff_ne, bne_eq_false_iff_eq, beq_iff_eq, beq_eq_false_iff_ne, ne_eq, Bool.not_eq_true', Bool.not_eq_false', Bool.not_eq_eq_eq_not, Bool.not_true, Bool.not_false] at fb479
        refine wp_cond_true (x := c5_115) (y := Code.skip) (eval_slot h118) ?_
        refine wp_seq (x := c5_116) (y := Code.ret) ?_
        change (Code.region 32 O5_32 false).wp _ _ _ _
        refine reg_in (l := [0, 1, 2]) rfl ?_
        have Y : (execOp a480.eval o5_32_0).run Try.prog w474 = .ok (.value (.int .i64 e3)) w474 := by unfold o5_32_0; go_simp
        refine st_val g5_32_0 rfl (wanted_free rfl) Y fun a549 e => ?_; clear Y
        have g119 := R.at_ e (by decide); replace R := R.put e; replace h7 := so e h7; replace h21 := so e h21; clear h22 h118; have h119 := g119; clear g119; clear e
        have Y : (execOp a549.eval o5_32_1).run Try.prog w474 = .ok (.value (.bool true)) w474 := by have h2 : e3 = 2 := (by rcases HAP.out.1 with h | h; exact h; omega); unfold o5_32_1; go_simp
        refine st_val g5_32_1 rfl (wanted_free rfl) Y fun a551 e => ?_; clear Y
        have g120 := R.at_ e (by decide); replace R := R.put e; replace h7 := so e h7; replace h21 := so e h21; clear h119; have h120 := g120; clear g120; clear e
        have Y : (execOp a551.eval o5_32_2).run Try.prog w474 = .ok (.value (.bool true)) w474 := by unfold o5_32_2; go_simp
        refine st_val g5_32_2 rfl (wanted_free rfl) Y fun a553 e => ?_; clear Y
        have g6 := R.at_ e (by decide); replace R := R.put e; replace h7 := so e h7; replace h21 := so e h21; clear h120; have h6 := g6; clear g6; clear e
        refine st_end ?_
        change (Code.ret).wp _ _ _ _
        refine wp_ret ?_
        change bodyPost Try.prog Try.f5 (fun e w' => e = .returned (.bool true) ∧ Keep (fun g => g < W.heap.size) W w') .ret a553 w474
        refine ret_one rfl R h6 ?_
        exact ⟨rfl, K1⟩
  | true =>
    have fb430 := hb430; clear hb430
    simp only [decide_eq_true_eq, decide_eq_false_iff_not, bne_iff_ne, bne_eq_false_iff_eq, beq_iff_eq, beq_eq_false_iff_ne, ne_eq, Bool.not_eq_true', Bool.not_eq_false', Bool.not_eq_eq_eq_not, Bool.not_true, Bool.not_false] at fb430
    refine wp_cond_true (x := c5_97) (y := Code.skip) (eval_slot h104) ?_
    refine wp_seq (x := c5_98) (y := Code.ret) ?_
    change (Code.region 27 O5_27 false).wp _ _ _ _
    refine reg_in (l := [0]) rfl ?_
    have Y : (execOp a431.eval o5_27_0).run Try.prog w411 = .ok (.value (.bool true)) w411 := by unfold o5_27_0; go_simp
    refine st_val g5_27_0 rfl (wanted_free rfl) Y fun a555 e => ?_; clear Y
    have g6 := R.at_ e (by decide); replace R := R.put e; replace h3 := so e h3; replace h7 := so e h7; replace h18 := so e h18; replace h19 := so e h19; replace h20 := so e h20; clear h104; have h6 := g6; clear g6; clear e
    refine st_end ?_
    change (Code.ret).wp _ _ _ _
    refine wp_ret ?_
    change bodyPost Try.prog Try.f5 (fun e w' => e = .returned (.bool true) ∧ Keep (fun g => g < W.heap.size) W w') .ret a555 w411
    refine ret_one rfl R h6 ?_
    exact ⟨rfl, K1⟩

end Go.Proofs.Ythbofkffklejoaa
