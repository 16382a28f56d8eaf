/-
  The law of renamings: walked with letter frames. No condition but where the terms lie.
-/
import Derived.Test.YtaaodgkbopficaaSx2
import Derived.Test.YtaaodgkbopficaaTp1
namespace Go.Proofs.Ytaaodgkbopficaa
open Go.RowKit Go.Maps
set_option linter.unusedVariables false
set_option linter.unusedSimpArgs false

def o11_0_0 : Oper := { dst := some 3, op := Go.Op.box 24 (Go.Operand.tmp 0), type := 0, pos := "law.go:340", after := #[], guard := none }
def o11_0_1 : Oper := { dst := some 6, op := Go.Op.assign (Go.Operand.const (Go.Value.bool false)), type := 4, pos := "law.go:340", after := #[], guard := none }
def O11_0 : Array Oper := List.toArray (o11_0_0 :: o11_0_1 :: [])
theorem g11_0_0 : O11_0[0]? = some o11_0_0 := rfl
theorem g11_0_1 : O11_0[1]? = some o11_0_1 := rfl
def c11_1 : Code := Code.region 0 O11_0 false
def o11_1_0 : Oper := { dst := some 22, op := Go.Op.call { callee := Go.Callee.value (Go.Operand.func 13), args := #[], argTypes := #[] }, type := 4, pos := "law.go:341", after := #[], guard := none }
def o11_1_1 : Oper := { dst := some 23, op := Go.Op.unOp Go.UnOp.not 4 (Go.Operand.tmp 22), type := 4, pos := "law.go:341", after := #[{ on := 0, ground := Go.Ground.data }], guard := none }
def O11_1 : Array Oper := List.toArray (o11_1_0 :: o11_1_1 :: [])
theorem g11_1_0 : O11_1[0]? = some o11_1_0 := rfl
theorem g11_1_1 : O11_1[1]? = some o11_1_1 := rfl
def c11_4 : Code := Code.region 1 O11_1 false
def o11_2_0 : Oper := { dst := some 6, op := Go.Op.assign (Go.Operand.const (Go.Value.bool false)), type := 4, pos := "law.go:342", after := #[], guard := none }
def O11_2 : Array Oper := List.toArray (o11_2_0 :: [])
theorem g11_2_0 : O11_2[0]? = some o11_2_0 := rfl
def c11_7 : Code := Code.region 2 O11_2 false
def c11_6 : Code := Code.seq c11_7 Code.ret
def c11_5 : Code := Code.cond (Go.Operand.tmp 23) c11_6 Code.skip
def c11_3 : Code := Code.seq c11_4 c11_5
def o11_3_0 : Oper := { dst := some 24, op := Go.Op.load 24 (Go.Operand.tmp 3), type := 24, pos := "law.go:344", after := #[], guard := none }
def o11_3_1 : Oper := { dst := some 25, op := Go.Op.call { callee := Go.Callee.value (Go.Operand.func 15), args := #[Go.Operand.tmp 24], argTypes := #[24] }, type := 27, pos := "law.go:344", after := #[{ on := 0, ground := Go.Ground.data }], guard := none }
def o11_3_2 : Oper := { dst := some 26, op := Go.Op.binOp Go.BinOp.neq 27 (Go.Operand.tmp 25) (Go.Operand.const (Go.Value.int Go.IntKind.i64 0)) 27, type := 4, pos := "law.go:344", after := #[{ on := 1, ground := Go.Ground.data }], guard := none }
def o11_3_3 : Oper := { dst := some 27, op := Go.Op.move (Go.Operand.tmp 26), type := 4, pos := "law.go:344", after := #[{ on := 2, ground := Go.Ground.data }, { on := 1, ground := Go.Ground.chain }], guard := none }
def o11_3_4 : Oper := { dst := some 28, op := Go.Op.move (Go.Operand.tmp 1), type := 2, pos := "law.go:344", after := #[{ on := 3, ground := Go.Ground.guard }], guard := some (3, false) }
def o11_3_5 : Oper := { dst := some 29, op := Go.Op.binOp Go.BinOp.lss 2 (Go.Operand.tmp 28) (Go.Operand.const (Go.Value.int Go.IntKind.i64 1)) 2, type := 4, pos := "law.go:344", after := #[{ on := 4, ground := Go.Ground.data }, { on := 3, ground := Go.Ground.guard }], guard := some (3, false) }
def o11_3_6 : Oper := { dst := some 30, op := Go.Op.pick (Go.Operand.tmp 27) (Go.Operand.const (Go.Value.bool true)) (Go.Operand.tmp 29), type := 4, pos := "law.go:344", after := #[{ on := 3, ground := Go.Ground.data }, { on := 5, ground := Go.Ground.data }], guard := none }
def o11_3_7 : Oper := { dst := some 31, op := Go.Op.move (Go.Operand.tmp 30), type := 4, pos := "law.go:344", after := #[{ on := 6, ground := Go.Ground.data }, { on := 3, ground := Go.Ground.chain }], guard := none }
def o11_3_8 : Oper := { dst := some 32, op := Go.Op.move (Go.Operand.tmp 2), type := 2, pos := "law.go:344", after := #[{ on := 7, ground := Go.Ground.guard }], guard := some (7, false) }
def o11_3_9 : Oper := { dst := some 33, op := Go.Op.binOp Go.BinOp.lss 2 (Go.Operand.tmp 32) (Go.Operand.const (Go.Value.int Go.IntKind.i64 1)) 2, type := 4, pos := "law.go:344", after := #[{ on := 8, ground := Go.Ground.data }, { on := 7, ground := Go.Ground.guard }], guard := some (7, false) }
def o11_3_10 : Oper := { dst := some 34, op := Go.Op.pick (Go.Operand.tmp 31) (Go.Operand.const (Go.Value.bool true)) (Go.Operand.tmp 33), type := 4, pos := "law.go:344", after := #[{ on := 7, ground := Go.Ground.data }, { on := 9, ground := Go.Ground.data }], guard := none }
def o11_3_11 : Oper := { dst := some 35, op := Go.Op.move (Go.Operand.tmp 34), type := 4, pos := "law.go:344", after := #[{ on := 10, ground := Go.Ground.data }, { on := 7, ground := Go.Ground.chain }], guard := none }
def o11_3_12 : Oper := { dst := some 36, op := Go.Op.move (Go.Operand.tmp 1), type := 2, pos := "law.go:344", after := #[{ on := 11, ground := Go.Ground.guard }], guard := some (11, false) }
def o11_3_13 : Oper := { dst := some 37, op := Go.Op.binOp Go.BinOp.gtr 2 (Go.Operand.tmp 36) (Go.Operand.const (Go.Value.int Go.IntKind.i64 1152921504606846976)) 2, type := 4, pos := "law.go:344", after := #[{ on := 12, ground := Go.Ground.data }, { on := 11, ground := Go.Ground.guard }], guard := some (11, false) }
def o11_3_14 : Oper := { dst := some 38, op := Go.Op.pick (Go.Operand.tmp 35) (Go.Operand.const (Go.Value.bool true)) (Go.Operand.tmp 37), type := 4, pos := "law.go:344", after := #[{ on := 11, ground := Go.Ground.data }, { on := 13, ground := Go.Ground.data }], guard := none }
def o11_3_15 : Oper := { dst := some 39, op := Go.Op.move (Go.Operand.tmp 38), type := 4, pos := "law.go:344", after := #[{ on := 14, ground := Go.Ground.data }, { on := 11, ground := Go.Ground.chain }], guard := none }
def o11_3_16 : Oper := { dst := some 40, op := Go.Op.move (Go.Operand.tmp 2), type := 2, pos := "law.go:344", after := #[{ on := 15, ground := Go.Ground.guard }], guard := some (15, false) }
def o11_3_17 : Oper := { dst := some 41, op := Go.Op.binOp Go.BinOp.gtr 2 (Go.Operand.tmp 40) (Go.Operand.const (Go.Value.int Go.IntKind.i64 1152921504606846976)) 2, type := 4, pos := "law.go:344", after := #[{ on := 16, ground := Go.Ground.data }, { on := 15, ground := Go.Ground.guard }], guard := some (15, false) }
def o11_3_18 : Oper := { dst := some 42, op := Go.Op.pick (Go.Operand.tmp 39) (Go.Operand.const (Go.Value.bool true)) (Go.Operand.tmp 41), type := 4, pos := "law.go:344", after := #[{ on := 15, ground := Go.Ground.data }, { on := 17, ground := Go.Ground.data }], guard := none }
def O11_3 : Array Oper := List.toArray (o11_3_0 :: o11_3_1 :: o11_3_2 :: o11_3_3 :: o11_3_4 :: o11_3_5 :: o11_3_6 :: o11_3_7 :: o11_3_8 :: o11_3_9 :: o11_3_10 :: o11_3_11 :: o11_3_12 :: o11_3_13 :: o11_3_14 :: o11_3_15 :: o11_3_16 :: o11_3_17 :: o11_3_18 :: [])
theorem g11_3_0 : O11_3[0]? = some o11_3_0 := rfl
theorem g11_3_1 : O11_3[1]? = some o11_3_1 := rfl
theorem g11_3_2 : O11_3[2]? = some o11_3_2 := rfl
theorem g11_3_3 : O11_3[3]? = some o11_3_3 := rfl
theorem g11_3_4 : O11_3[4]? = some o11_3_4 := rfl
theorem g11_3_5 : O11_3[5]? = some o11_3_5 := rfl
theorem g11_3_6 : O11_3[6]? = some o11_3_6 := rfl
theorem g11_3_7 : O11_3[7]? = some o11_3_7 := rfl
theorem g11_3_8 : O11_3[8]? = some o11_3_8 := rfl
theorem g11_3_9 : O11_3[9]? = some o11_3_9 := rfl
theorem g11_3_10 : O11_3[10]? = some o11_3_10 := rfl
theorem g11_3_11 : O11_3[11]? = some o11_3_11 := rfl
theorem g11_3_12 : O11_3[12]? = some o11_3_12 := rfl
theorem g11_3_13 : O11_3[13]? = some o11_3_13 := rfl
theorem g11_3_14 : O11_3[14]? = some o11_3_14 := rfl
theorem g11_3_15 : O11_3[15]? = some o11_3_15 := rfl
theorem g11_3_16 : O11_3[16]? = some o11_3_16 := rfl
theorem g11_3_17 : O11_3[17]? = some o11_3_17 := rfl
theorem g11_3_18 : O11_3[18]? = some o11_3_18 := rfl
def c11_12 : Code := Code.region 3 O11_3 false
def o11_4_0 : Oper := { dst := some 6, op := Go.Op.assign (Go.Operand.const (Go.Value.bool true)), type := 4, pos := "law.go:345", after := #[], guard := none }
def O11_4 : Array Oper := List.toArray (o11_4_0 :: [])
theorem g11_4_0 : O11_4[0]? = some o11_4_0 := rfl
def c11_15 : Code := Code.region 4 O11_4 false
def c11_14 : Code := Code.seq c11_15 Code.ret
def c11_13 : Code := Code.cond (Go.Operand.tmp 42) c11_14 Code.skip
def c11_11 : Code := Code.seq c11_12 c11_13
def o11_5_0 : Oper := { dst := some 44, op := Go.Op.load 24 (Go.Operand.tmp 3), type := 24, pos := "law.go:347", after := #[], guard := none }
def o11_5_1 : Oper := { dst := some 45, op := Go.Op.move (Go.Operand.tmp 1), type := 2, pos := "law.go:347", after := #[], guard := none }
def o11_5_2 : Oper := { dst := some 46, op := Go.Op.call { callee := Go.Callee.value (Go.Operand.func 32), args := #[Go.Operand.tmp 44, Go.Operand.tmp 45], argTypes := #[24, 2] }, type := 45, pos := "law.go:347", after := #[{ on := 0, ground := Go.Ground.data }, { on := 1, ground := Go.Ground.data }], guard := none }
def o11_5_3 : Oper := { dst := some 43, op := Go.Op.move (Go.Operand.tmp 46), type := 45, pos := "law.go:347", after := #[{ on := 2, ground := Go.Ground.data }], guard := none }
def o11_5_4 : Oper := { dst := some 47, op := Go.Op.extract (Go.Operand.tmp 43) 0, type := 24, pos := "law.go:347", after := #[{ on := 3, ground := Go.Ground.data }], guard := none }
def o11_5_5 : Oper := { dst := some 48, op := Go.Op.extract (Go.Operand.tmp 43) 1, type := 2, pos := "law.go:347", after := #[{ on := 3, ground := Go.Ground.data }, { on := 8, ground := Go.Ground.gcOnly Go.Departure.lateStores }], guard := none }
def o11_5_6 : Oper := { dst := some 49, op := Go.Op.extract (Go.Operand.tmp 43) 2, type := 27, pos := "law.go:347", after := #[{ on := 3, ground := Go.Ground.data }, { on := 9, ground := Go.Ground.gcOnly Go.Departure.lateStores }], guard := none }
def o11_5_7 : Oper := { dst := some 7, op := Go.Op.alloc 24, type := 0, pos := "law.go:347", after := #[], guard := none }
def o11_5_8 : Oper := { dst := none, op := Go.Op.store 24 (Go.Operand.tmp 7) (Go.Operand.tmp 47), type := 0, pos := "law.go:347", after := #[{ on := 7, ground := Go.Ground.data }, { on := 4, ground := Go.Ground.data }, { on := 2, ground := Go.Ground.chain }, { on := 0, ground := Go.Ground.phase }, { on := 1, ground := Go.Ground.phase }, { on := 2, ground := Go.Ground.phase }, { on := 3, ground := Go.Ground.phase }, { on := 4, ground := Go.Ground.phase }, { on := 5, ground := Go.Ground.textOnly Go.Departure.lateStores }, { on := 6, ground := Go.Ground.textOnly Go.Departure.lateStores }, { on := 7, ground := Go.Ground.phase }], guard := none }
def o11_5_9 : Oper := { dst := some 8, op := Go.Op.assign (Go.Operand.tmp 48), type := 2, pos := "law.go:347", after := #[{ on := 5, ground := Go.Ground.data }, { on := 8, ground := Go.Ground.chain }, { on := 0, ground := Go.Ground.phase }, { on := 1, ground := Go.Ground.phase }, { on := 2, ground := Go.Ground.phase }, { on := 3, ground := Go.Ground.phase }, { on := 4, ground := Go.Ground.phase }, { on := 5, ground := Go.Ground.phase }, { on := 6, ground := Go.Ground.textOnly Go.Departure.lateStores }, { on := 7, ground := Go.Ground.phase }, { on := 8, ground := Go.Ground.phase }], guard := none }
def o11_5_10 : Oper := { dst := some 9, op := Go.Op.assign (Go.Operand.tmp 49), type := 27, pos := "law.go:347", after := #[{ on := 6, ground := Go.Ground.data }, { on := 9, ground := Go.Ground.chain }, { on := 0, ground := Go.Ground.phase }, { on := 1, ground := Go.Ground.phase }, { on := 2, ground := Go.Ground.phase }, { on := 3, ground := Go.Ground.phase }, { on := 4, ground := Go.Ground.phase }, { on := 5, ground := Go.Ground.phase }, { on := 6, ground := Go.Ground.phase }, { on := 7, ground := Go.Ground.phase }, { on := 8, ground := Go.Ground.phase }, { on := 9, ground := Go.Ground.phase }], guard := none }
def O11_5 : Array Oper := List.toArray (o11_5_0 :: o11_5_1 :: o11_5_2 :: o11_5_3 :: o11_5_4 :: o11_5_5 :: o11_5_6 :: o11_5_7 :: o11_5_8 :: o11_5_9 :: o11_5_10 :: [])
theorem g11_5_0 : O11_5[0]? = some o11_5_0 := rfl
theorem g11_5_1 : O11_5[1]? = some o11_5_1 := rfl
theorem g11_5_2 : O11_5[2]? = some o11_5_2 := rfl
theorem g11_5_3 : O11_5[3]? = some o11_5_3 := rfl
theorem g11_5_4 : O11_5[4]? = some o11_5_4 := rfl
theorem g11_5_5 : O11_5[5]? = some o11_5_5 := rfl
theorem g11_5_6 : O11_5[6]? = some o11_5_6 := rfl
theorem g11_5_7 : O11_5[7]? = some o11_5_7 := rfl
theorem g11_5_8 : O11_5[8]? = some o11_5_8 := rfl
theorem g11_5_9 : O11_5[9]? = some o11_5_9 := rfl
theorem g11_5_10 : O11_5[10]? = some o11_5_10 := rfl
def c11_19 : Code := Code.region 5 O11_5 false
def o11_6_0 : Oper := { dst := some 51, op := Go.Op.load 24 (Go.Operand.tmp 7), type := 24, pos := "law.go:348", after := #[], guard := none }
def o11_6_1 : Oper := { dst := some 52, op := Go.Op.move (Go.Operand.tmp 2), type := 2, pos := "law.go:348", after := #[], guard := none }
def o11_6_2 : Oper := { dst := some 53, op := Go.Op.call { callee := Go.Callee.value (Go.Operand.func 32), args := #[Go.Operand.tmp 51, Go.Operand.tmp 52], argTypes := #[24, 2] }, type := 45, pos := "law.go:348", after := #[{ on := 0, ground := Go.Ground.data }, { on := 1, ground := Go.Ground.data }], guard := none }
def o11_6_3 : Oper := { dst := some 50, op := Go.Op.move (Go.Operand.tmp 53), type := 45, pos := "law.go:348", after := #[{ on := 2, ground := Go.Ground.data }], guard := none }
def o11_6_4 : Oper := { dst := some 54, op := Go.Op.extract (Go.Operand.tmp 50) 0, type := 24, pos := "law.go:348", after := #[{ on := 3, ground := Go.Ground.data }], guard := none }
def o11_6_5 : Oper := { dst := some 55, op := Go.Op.extract (Go.Operand.tmp 50) 1, type := 2, pos := "law.go:348", after := #[{ on := 3, ground := Go.Ground.data }, { on := 8, ground := Go.Ground.gcOnly Go.Departure.lateStores }], guard := none }
def o11_6_6 : Oper := { dst := some 56, op := Go.Op.extract (Go.Operand.tmp 50) 2, type := 27, pos := "law.go:348", after := #[{ on := 3, ground := Go.Ground.data }, { on := 9, ground := Go.Ground.gcOnly Go.Departure.lateStores }], guard := none }
def o11_6_7 : Oper := { dst := some 10, op := Go.Op.alloc 24, type := 0, pos := "law.go:348", after := #[], guard := none }
def o11_6_8 : Oper := { dst := none, op := Go.Op.store 24 (Go.Operand.tmp 10) (Go.Operand.tmp 54), type := 0, pos := "law.go:348", after := #[{ on := 7, ground := Go.Ground.data }, { on := 4, ground := Go.Ground.data }, { on := 2, ground := Go.Ground.chain }, { on := 0, ground := Go.Ground.phase }, { on := 1, ground := Go.Ground.phase }, { on := 2, ground := Go.Ground.phase }, { on := 3, ground := Go.Ground.phase }, { on := 4, ground := Go.Ground.phase }, { on := 5, ground := Go.Ground.textOnly Go.Departure.lateStores }, { on := 6, ground := Go.Ground.textOnly Go.Departure.lateStores }, { on := 7, ground := Go.Ground.phase }], guard := none }
def o11_6_9 : Oper := { dst := some 11, op := Go.Op.assign (Go.Operand.tmp 55), type := 2, pos := "law.go:348", after := #[{ on := 5, ground := Go.Ground.data }, { on := 8, ground := Go.Ground.chain }, { on := 0, ground := Go.Ground.phase }, { on := 1, ground := Go.Ground.phase }, { on := 2, ground := Go.Ground.phase }, { on := 3, ground := Go.Ground.phase }, { on := 4, ground := Go.Ground.phase }, { on := 5, ground := Go.Ground.phase }, { on := 6, ground := Go.Ground.textOnly Go.Departure.lateStores }, { on := 7, ground := Go.Ground.phase }, { on := 8, ground := Go.Ground.phase }], guard := none }
def o11_6_10 : Oper := { dst := some 12, op := Go.Op.assign (Go.Operand.tmp 56), type := 27, pos := "law.go:348", after := #[{ on := 6, ground := Go.Ground.data }, { on := 9, ground := Go.Ground.chain }, { on := 0, ground := Go.Ground.phase }, { on := 1, ground := Go.Ground.phase }, { on := 2, ground := Go.Ground.phase }, { on := 3, ground := Go.Ground.phase }, { on := 4, ground := Go.Ground.phase }, { on := 5, ground := Go.Ground.phase }, { on := 6, ground := Go.Ground.phase }, { on := 7, ground := Go.Ground.phase }, { on := 8, ground := Go.Ground.phase }, { on := 9, ground := Go.Ground.phase }], guard := none }
def O11_6 : Array Oper := List.toArray (o11_6_0 :: o11_6_1 :: o11_6_2 :: o11_6_3 :: o11_6_4 :: o11_6_5 :: o11_6_6 :: o11_6_7 :: o11_6_8 :: o11_6_9 :: o11_6_10 :: [])
theorem g11_6_0 : O11_6[0]? = some o11_6_0 := rfl
theorem g11_6_1 : O11_6[1]? = some o11_6_1 := rfl
theorem g11_6_2 : O11_6[2]? = some o11_6_2 := rfl
theorem g11_6_3 : O11_6[3]? = some o11_6_3 := rfl
theorem g11_6_4 : O11_6[4]? = some o11_6_4 := rfl
theorem g11_6_5 : O11_6[5]? = some o11_6_5 := rfl
theorem g11_6_6 : O11_6[6]? = some o11_6_6 := rfl
theorem g11_6_7 : O11_6[7]? = some o11_6_7 := rfl
theorem g11_6_8 : O11_6[8]? = some o11_6_8 := rfl
theorem g11_6_9 : O11_6[9]? = some o11_6_9 := rfl
theorem g11_6_10 : O11_6[10]? = some o11_6_10 := rfl
def c11_21 : Code := Code.region 6 O11_6 false
def o11_7_0 : Oper := { dst := some 58, op := Go.Op.load 24 (Go.Operand.tmp 3), type := 24, pos := "law.go:349", after := #[], guard := none }
def o11_7_1 : Oper := { dst := some 59, op := Go.Op.move (Go.Operand.tmp 2), type := 2, pos := "law.go:349", after := #[], guard := none }
def o11_7_2 : Oper := { dst := some 60, op := Go.Op.call { callee := Go.Callee.value (Go.Operand.func 32), args := #[Go.Operand.tmp 58, Go.Operand.tmp 59], argTypes := #[24, 2] }, type := 45, pos := "law.go:349", after := #[{ on := 0, ground := Go.Ground.data }, { on := 1, ground := Go.Ground.data }], guard := none }
def o11_7_3 : Oper := { dst := some 57, op := Go.Op.move (Go.Operand.tmp 60), type := 45, pos := "law.go:349", after := #[{ on := 2, ground := Go.Ground.data }], guard := none }
def o11_7_4 : Oper := { dst := some 61, op := Go.Op.extract (Go.Operand.tmp 57) 0, type := 24, pos := "law.go:349", after := #[{ on := 3, ground := Go.Ground.data }], guard := none }
def o11_7_5 : Oper := { dst := some 62, op := Go.Op.extract (Go.Operand.tmp 57) 1, type := 2, pos := "law.go:349", after := #[{ on := 3, ground := Go.Ground.data }, { on := 8, ground := Go.Ground.gcOnly Go.Departure.lateStores }], guard := none }
def o11_7_6 : Oper := { dst := some 63, op := Go.Op.extract (Go.Operand.tmp 57) 2, type := 27, pos := "law.go:349", after := #[{ on := 3, ground := Go.Ground.data }, { on := 9, ground := Go.Ground.gcOnly Go.Departure.lateStores }], guard := none }
def o11_7_7 : Oper := { dst := some 13, op := Go.Op.alloc 24, type := 0, pos := "law.go:349", after := #[], guard := none }
def o11_7_8 : Oper := { dst := none, op := Go.Op.store 24 (Go.Operand.tmp 13) (Go.Operand.tmp 61), type := 0, pos := "law.go:349", after := #[{ on := 7, ground := Go.Ground.data }, { on := 4, ground := Go.Ground.data }, { on := 2, ground := Go.Ground.chain }, { on := 0, ground := Go.Ground.phase }, { on := 1, ground := Go.Ground.phase }, { on := 2, ground := Go.Ground.phase }, { on := 3, ground := Go.Ground.phase }, { on := 4, ground := Go.Ground.phase }, { on := 5, ground := Go.Ground.textOnly Go.Departure.lateStores }, { on := 6, ground := Go.Ground.textOnly Go.Departure.lateStores }, { on := 7, ground := Go.Ground.phase }], guard := none }
def o11_7_9 : Oper := { dst := some 14, op := Go.Op.assign (Go.Operand.tmp 62), type := 2, pos := "law.go:349", after := #[{ on := 5, ground := Go.Ground.data }, { on := 8, ground := Go.Ground.chain }, { on := 0, ground := Go.Ground.phase }, { on := 1, ground := Go.Ground.phase }, { on := 2, ground := Go.Ground.phase }, { on := 3, ground := Go.Ground.phase }, { on := 4, ground := Go.Ground.phase }, { on := 5, ground := Go.Ground.phase }, { on := 6, ground := Go.Ground.textOnly Go.Departure.lateStores }, { on := 7, ground := Go.Ground.phase }, { on := 8, ground := Go.Ground.phase }], guard := none }
def o11_7_10 : Oper := { dst := some 15, op := Go.Op.assign (Go.Operand.tmp 63), type := 27, pos := "law.go:349", after := #[{ on := 6, ground := Go.Ground.data }, { on := 9, ground := Go.Ground.chain }, { on := 0, ground := Go.Ground.phase }, { on := 1, ground := Go.Ground.phase }, { on := 2, ground := Go.Ground.phase }, { on := 3, ground := Go.Ground.phase }, { on := 4, ground := Go.Ground.phase }, { on := 5, ground := Go.Ground.phase }, { on := 6, ground := Go.Ground.phase }, { on := 7, ground := Go.Ground.phase }, { on := 8, ground := Go.Ground.phase }, { on := 9, ground := Go.Ground.phase }], guard := none }
def O11_7 : Array Oper := List.toArray (o11_7_0 :: o11_7_1 :: o11_7_2 :: o11_7_3 :: o11_7_4 :: o11_7_5 :: o11_7_6 :: o11_7_7 :: o11_7_8 :: o11_7_9 :: o11_7_10 :: [])
theorem g11_7_0 : O11_7[0]? = some o11_7_0 := rfl
theorem g11_7_1 : O11_7[1]? = some o11_7_1 := rfl
theorem g11_7_2 : O11_7[2]? = some o11_7_2 := rfl
theorem g11_7_3 : O11_7[3]? = some o11_7_3 := rfl
theorem g11_7_4 : O11_7[4]? = some o11_7_4 := rfl
theorem g11_7_5 : O11_7[5]? = some o11_7_5 := rfl
theorem g11_7_6 : O11_7[6]? = some o11_7_6 := rfl
theorem g11_7_7 : O11_7[7]? = some o11_7_7 := rfl
theorem g11_7_8 : O11_7[8]? = some o11_7_8 := rfl
theorem g11_7_9 : O11_7[9]? = some o11_7_9 := rfl
theorem g11_7_10 : O11_7[10]? = some o11_7_10 := rfl
def c11_23 : Code := Code.region 7 O11_7 false
def o11_8_0 : Oper := { dst := some 64, op := Go.Op.move (Go.Operand.tmp 9), type := 27, pos := "law.go:350", after := #[], guard := none }
def o11_8_1 : Oper := { dst := some 65, op := Go.Op.binOp Go.BinOp.neq 27 (Go.Operand.tmp 64) (Go.Operand.const (Go.Value.int Go.IntKind.i64 0)) 27, type := 4, pos := "law.go:350", after := #[{ on := 0, ground := Go.Ground.data }], guard := none }
def o11_8_2 : Oper := { dst := some 66, op := Go.Op.move (Go.Operand.tmp 65), type := 4, pos := "law.go:350", after := #[{ on := 1, ground := Go.Ground.data }], guard := none }
def o11_8_3 : Oper := { dst := some 67, op := Go.Op.move (Go.Operand.tmp 12), type := 27, pos := "law.go:350", after := #[{ on := 2, ground := Go.Ground.guard }], guard := some (2, false) }
def o11_8_4 : Oper := { dst := some 68, op := Go.Op.binOp Go.BinOp.neq 27 (Go.Operand.tmp 67) (Go.Operand.const (Go.Value.int Go.IntKind.i64 0)) 27, type := 4, pos := "law.go:350", after := #[{ on := 3, ground := Go.Ground.data }, { on := 2, ground := Go.Ground.guard }], guard := some (2, false) }
def o11_8_5 : Oper := { dst := some 69, op := Go.Op.pick (Go.Operand.tmp 66) (Go.Operand.const (Go.Value.bool true)) (Go.Operand.tmp 68), type := 4, pos := "law.go:350", after := #[{ on := 2, ground := Go.Ground.data }, { on := 4, ground := Go.Ground.data }], guard := none }
def o11_8_6 : Oper := { dst := some 70, op := Go.Op.move (Go.Operand.tmp 69), type := 4, pos := "law.go:350", after := #[{ on := 5, ground := Go.Ground.data }, { on := 2, ground := Go.Ground.chain }], guard := none }
def o11_8_7 : Oper := { dst := some 71, op := Go.Op.move (Go.Operand.tmp 15), type := 27, pos := "law.go:350", after := #[{ on := 6, ground := Go.Ground.guard }], guard := some (6, false) }
def o11_8_8 : Oper := { dst := some 72, op := Go.Op.binOp Go.BinOp.neq 27 (Go.Operand.tmp 71) (Go.Operand.const (Go.Value.int Go.IntKind.i64 0)) 27, type := 4, pos := "law.go:350", after := #[{ on := 7, ground := Go.Ground.data }, { on := 6, ground := Go.Ground.guard }], guard := some (6, false) }
def o11_8_9 : Oper := { dst := some 73, op := Go.Op.pick (Go.Operand.tmp 70) (Go.Operand.const (Go.Value.bool true)) (Go.Operand.tmp 72), type := 4, pos := "law.go:350", after := #[{ on := 6, ground := Go.Ground.data }, { on := 8, ground := Go.Ground.data }], guard := none }
def o11_8_10 : Oper := { dst := some 74, op := Go.Op.move (Go.Operand.tmp 73), type := 4, pos := "law.go:350", after := #[{ on := 9, ground := Go.Ground.data }, { on := 6, ground := Go.Ground.chain }], guard := none }
def o11_8_11 : Oper := { dst := some 75, op := Go.Op.move (Go.Operand.tmp 11), type := 2, pos := "law.go:350", after := #[{ on := 10, ground := Go.Ground.guard }], guard := some (10, false) }
def o11_8_12 : Oper := { dst := some 76, op := Go.Op.move (Go.Operand.tmp 14), type := 2, pos := "law.go:350", after := #[{ on := 10, ground := Go.Ground.guard }], guard := some (10, false) }
def o11_8_13 : Oper := { dst := some 77, op := Go.Op.binOp Go.BinOp.neq 2 (Go.Operand.tmp 75) (Go.Operand.tmp 76) 2, type := 4, pos := "law.go:350", after := #[{ on := 11, ground := Go.Ground.data }, { on := 12, ground := Go.Ground.data }, { on := 10, ground := Go.Ground.guard }], guard := some (10, false) }
def o11_8_14 : Oper := { dst := some 78, op := Go.Op.pick (Go.Operand.tmp 74) (Go.Operand.const (Go.Value.bool true)) (Go.Operand.tmp 77), type := 4, pos := "law.go:350", after := #[{ on := 10, ground := Go.Ground.data }, { on := 13, ground := Go.Ground.data }], guard := none }
def o11_8_15 : Oper := { dst := some 79, op := Go.Op.move (Go.Operand.tmp 78), type := 4, pos := "law.go:350", after := #[{ on := 14, ground := Go.Ground.data }, { on := 10, ground := Go.Ground.chain }], guard := none }
def o11_8_16 : Oper := { dst := some 80, op := Go.Op.load 24 (Go.Operand.tmp 10), type := 24, pos := "law.go:350", after := #[{ on := 15, ground := Go.Ground.guard }], guard := some (15, false) }
def o11_8_17 : Oper := { dst := some 81, op := Go.Op.load 24 (Go.Operand.tmp 13), type := 24, pos := "law.go:350", after := #[{ on := 15, ground := Go.Ground.guard }], guard := some (15, false) }
def o11_8_18 : Oper := { dst := some 82, op := Go.Op.call { callee := Go.Callee.value (Go.Operand.func 19), args := #[Go.Operand.tmp 80, Go.Operand.tmp 81], argTypes := #[24, 24] }, type := 4, pos := "law.go:350", after := #[{ on := 16, ground := Go.Ground.data }, { on := 17, ground := Go.Ground.data }, { on := 15, ground := Go.Ground.chain }, { on := 15, ground := Go.Ground.guard }], guard := some (15, false) }
def o11_8_19 : Oper := { dst := some 83, op := Go.Op.unOp Go.UnOp.not 4 (Go.Operand.tmp 82), type := 4, pos := "law.go:350", after := #[{ on := 18, ground := Go.Ground.data }, { on := 15, ground := Go.Ground.guard }], guard := some (15, false) }
def o11_8_20 : Oper := { dst := some 84, op := Go.Op.pick (Go.Operand.tmp 79) (Go.Operand.const (Go.Value.bool true)) (Go.Operand.tmp 83), type := 4, pos := "law.go:350", after := #[{ on := 15, ground := Go.Ground.data }, { on := 19, ground := Go.Ground.data }], guard := none }
def o11_8_21 : Oper := { dst := some 85, op := Go.Op.move (Go.Operand.tmp 84), type := 4, pos := "law.go:350", after := #[{ on := 20, ground := Go.Ground.data }, { on := 18, ground := Go.Ground.chain }], guard := none }
def o11_8_22 : Oper := { dst := some 86, op := Go.Op.move (Go.Operand.tmp 8), type := 2, pos := "law.go:350", after := #[{ on := 21, ground := Go.Ground.guard }], guard := some (21, false) }
def o11_8_23 : Oper := { dst := some 87, op := Go.Op.move (Go.Operand.tmp 1), type := 2, pos := "law.go:350", after := #[{ on := 21, ground := Go.Ground.guard }], guard := some (21, false) }
def o11_8_24 : Oper := { dst := some 88, op := Go.Op.binOp Go.BinOp.sub 2 (Go.Operand.tmp 86) (Go.Operand.tmp 87) 2, type := 2, pos := "law.go:350", after := #[{ on := 22, ground := Go.Ground.data }, { on := 23, ground := Go.Ground.data }, { on := 21, ground := Go.Ground.guard }], guard := some (21, false) }
def o11_8_25 : Oper := { dst := some 89, op := Go.Op.move (Go.Operand.tmp 14), type := 2, pos := "law.go:350", after := #[{ on := 21, ground := Go.Ground.guard }], guard := some (21, false) }
def o11_8_26 : Oper := { dst := some 90, op := Go.Op.move (Go.Operand.tmp 2), type := 2, pos := "law.go:350", after := #[{ on := 21, ground := Go.Ground.guard }], guard := some (21, false) }
def o11_8_27 : Oper := { dst := some 91, op := Go.Op.binOp Go.BinOp.sub 2 (Go.Operand.tmp 89) (Go.Operand.tmp 90) 2, type := 2, pos := "law.go:350", after := #[{ on := 25, ground := Go.Ground.data }, { on := 26, ground := Go.Ground.data }, { on := 21, ground := Go.Ground.guard }], guard := some (21, false) }
def o11_8_28 : Oper := { dst := some 92, op := Go.Op.binOp Go.BinOp.neq 2 (Go.Operand.tmp 88) (Go.Operand.tmp 91) 2, type := 4, pos := "law.go:350", after := #[{ on := 24, ground := Go.Ground.data }, { on := 27, ground := Go.Ground.data }, { on := 21, ground := Go.Ground.guard }], guard := some (21, false) }
def o11_8_29 : Oper := { dst := some 93, op := Go.Op.pick (Go.Operand.tmp 85) (Go.Operand.const (Go.Value.bool true)) (Go.Operand.tmp 92), type := 4, pos := "law.go:350", after := #[{ on := 21, ground := Go.Ground.data }, { on := 28, ground := Go.Ground.data }], guard := none }
def O11_8 : Array Oper := List.toArray (o11_8_0 :: o11_8_1 :: o11_8_2 :: o11_8_3 :: o11_8_4 :: o11_8_5 :: o11_8_6 :: o11_8_7 :: o11_8_8 :: o11_8_9 :: o11_8_10 :: o11_8_11 :: o11_8_12 :: o11_8_13 :: o11_8_14 :: o11_8_15 :: o11_8_16 :: o11_8_17 :: o11_8_18 :: o11_8_19 :: o11_8_20 :: o11_8_21 :: o11_8_22 :: o11_8_23 :: o11_8_24 :: o11_8_25 :: o11_8_26 :: o11_8_27 :: o11_8_28 :: o11_8_29 :: [])
theorem g11_8_0 : O11_8[0]? = some o11_8_0 := rfl
theorem g11_8_1 : O11_8[1]? = some o11_8_1 := rfl
theorem g11_8_2 : O11_8[2]? = some o11_8_2 := rfl
theorem g11_8_3 : O11_8[3]? = some o11_8_3 := rfl
theorem g11_8_4 : O11_8[4]? = some o11_8_4 := rfl
theorem g11_8_5 : O11_8[5]? = some o11_8_5 := rfl
theorem g11_8_6 : O11_8[6]? = some o11_8_6 := rfl
theorem g11_8_7 : O11_8[7]? = some o11_8_7 := rfl
theorem g11_8_8 : O11_8[8]? = some o11_8_8 := rfl
theorem g11_8_9 : O11_8[9]? = some o11_8_9 := rfl
theorem g11_8_10 : O11_8[10]? = some o11_8_10 := rfl
theorem g11_8_11 : O11_8[11]? = some o11_8_11 := rfl
theorem g11_8_12 : O11_8[12]? = some o11_8_12 := rfl
theorem g11_8_13 : O11_8[13]? = some o11_8_13 := rfl
theorem g11_8_14 : O11_8[14]? = some o11_8_14 := rfl
theorem g11_8_15 : O11_8[15]? = some o11_8_15 := rfl
theorem g11_8_16 : O11_8[16]? = some o11_8_16 := rfl
theorem g11_8_17 : O11_8[17]? = some o11_8_17 := rfl
theorem g11_8_18 : O11_8[18]? = some o11_8_18 := rfl
theorem g11_8_19 : O11_8[19]? = some o11_8_19 := rfl
theorem g11_8_20 : O11_8[20]? = some o11_8_20 := rfl
theorem g11_8_21 : O11_8[21]? = some o11_8_21 := rfl
theorem g11_8_22 : O11_8[22]? = some o11_8_22 := rfl
theorem g11_8_23 : O11_8[23]? = some o11_8_23 := rfl
theorem g11_8_24 : O11_8[24]? = some o11_8_24 := rfl
theorem g11_8_25 : O11_8[25]? = some o11_8_25 := rfl
theorem g11_8_26 : O11_8[26]? = some o11_8_26 := rfl
theorem g11_8_27 : O11_8[27]? = some o11_8_27 := rfl
theorem g11_8_28 : O11_8[28]? = some o11_8_28 := rfl
theorem g11_8_29 : O11_8[29]? = some o11_8_29 := rfl
def c11_26 : Code := Code.region 8 O11_8 false
def o11_9_0 : Oper := { dst := some 6, op := Go.Op.assign (Go.Operand.const (Go.Value.bool false)), type := 4, pos := "law.go:351", after := #[], guard := none }
def O11_9 : Array Oper := List.toArray (o11_9_0 :: [])
theorem g11_9_0 : O11_9[0]? = some o11_9_0 := rfl
def c11_29 : Code := Code.region 9 O11_9 false
def c11_28 : Code := Code.seq c11_29 Code.ret
def c11_27 : Code := Code.cond (Go.Operand.tmp 93) c11_28 Code.skip
def c11_25 : Code := Code.seq c11_26 c11_27
def o11_10_0 : Oper := { dst := some 95, op := Go.Op.load 24 (Go.Operand.tmp 3), type := 24, pos := "law.go:353", after := #[], guard := none }
def o11_10_1 : Oper := { dst := some 96, op := Go.Op.move (Go.Operand.tmp 8), type := 2, pos := "law.go:353", after := #[], guard := none }
def o11_10_2 : Oper := { dst := some 97, op := Go.Op.move (Go.Operand.tmp 14), type := 2, pos := "law.go:353", after := #[], guard := none }
def o11_10_3 : Oper := { dst := some 98, op := Go.Op.call { callee := Go.Callee.builtin Go.Builtin.max, args := #[Go.Operand.tmp 96, Go.Operand.tmp 97], argTypes := #[2, 2] }, type := 2, pos := "law.go:353", after := #[{ on := 1, ground := Go.Ground.data }, { on := 2, ground := Go.Ground.data }], guard := none }
def o11_10_4 : Oper := { dst := some 99, op := Go.Op.call { callee := Go.Callee.value (Go.Operand.func 32), args := #[Go.Operand.tmp 95, Go.Operand.tmp 98], argTypes := #[24, 2] }, type := 45, pos := "law.go:353", after := #[{ on := 0, ground := Go.Ground.data }, { on := 3, ground := Go.Ground.data }], guard := none }
def o11_10_5 : Oper := { dst := some 94, op := Go.Op.move (Go.Operand.tmp 99), type := 45, pos := "law.go:353", after := #[{ on := 4, ground := Go.Ground.data }], guard := none }
def o11_10_6 : Oper := { dst := some 100, op := Go.Op.extract (Go.Operand.tmp 94) 0, type := 24, pos := "law.go:353", after := #[{ on := 5, ground := Go.Ground.data }], guard := none }
def o11_10_7 : Oper := { dst := some 101, op := Go.Op.extract (Go.Operand.tmp 94) 1, type := 2, pos := "law.go:353", after := #[{ on := 5, ground := Go.Ground.data }, { on := 10, ground := Go.Ground.gcOnly Go.Departure.lateStores }], guard := none }
def o11_10_8 : Oper := { dst := some 102, op := Go.Op.extract (Go.Operand.tmp 94) 2, type := 27, pos := "law.go:353", after := #[{ on := 5, ground := Go.Ground.data }, { on := 11, ground := Go.Ground.gcOnly Go.Departure.lateStores }], guard := none }
def o11_10_9 : Oper := { dst := some 16, op := Go.Op.alloc 24, type := 0, pos := "law.go:353", after := #[], guard := none }
def o11_10_10 : Oper := { dst := none, op := Go.Op.store 24 (Go.Operand.tmp 16) (Go.Operand.tmp 100), type := 0, pos := "law.go:353", after := #[{ on := 9, ground := Go.Ground.data }, { on := 6, ground := Go.Ground.data }, { on := 4, ground := Go.Ground.chain }, { on := 0, ground := Go.Ground.phase }, { on := 1, ground := Go.Ground.phase }, { on := 2, ground := Go.Ground.phase }, { on := 3, ground := Go.Ground.phase }, { on := 4, ground := Go.Ground.phase }, { on := 5, ground := Go.Ground.phase }, { on := 6, ground := Go.Ground.phase }, { on := 7, ground := Go.Ground.textOnly Go.Departure.lateStores }, { on := 8, ground := Go.Ground.textOnly Go.Departure.lateStores }, { on := 9, ground := Go.Ground.phase }], guard := none }
def o11_10_11 : Oper := { dst := some 17, op := Go.Op.assign (Go.Operand.tmp 101), type := 2, pos := "law.go:353", after := #[{ on := 7, ground := Go.Ground.data }, { on := 10, ground := Go.Ground.chain }, { on := 0, ground := Go.Ground.phase }, { on := 1, ground := Go.Ground.phase }, { on := 2, ground := Go.Ground.phase }, { on := 3, ground := Go.Ground.phase }, { on := 4, ground := Go.Ground.phase }, { on := 5, ground := Go.Ground.phase }, { on := 6, ground := Go.Ground.phase }, { on := 7, ground := Go.Ground.phase }, { on := 8, ground := Go.Ground.textOnly Go.Departure.lateStores }, { on := 9, ground := Go.Ground.phase }, { on := 10, ground := Go.Ground.phase }], guard := none }
def o11_10_12 : Oper := { dst := some 18, op := Go.Op.assign (Go.Operand.tmp 102), type := 27, pos := "law.go:353", after := #[{ on := 8, ground := Go.Ground.data }, { on := 11, ground := Go.Ground.chain }, { on := 0, ground := Go.Ground.phase }, { on := 1, ground := Go.Ground.phase }, { on := 2, ground := Go.Ground.phase }, { on := 3, ground := Go.Ground.phase }, { on := 4, ground := Go.Ground.phase }, { on := 5, ground := Go.Ground.phase }, { on := 6, ground := Go.Ground.phase }, { on := 7, ground := Go.Ground.phase }, { on := 8, ground := Go.Ground.phase }, { on := 9, ground := Go.Ground.phase }, { on := 10, ground := Go.Ground.phase }, { on := 11, ground := Go.Ground.phase }], guard := none }
def O11_10 : Array Oper := List.toArray (o11_10_0 :: o11_10_1 :: o11_10_2 :: o11_10_3 :: o11_10_4 :: o11_10_5 :: o11_10_6 :: o11_10_7 :: o11_10_8 :: o11_10_9 :: o11_10_10 :: o11_10_11 :: o11_10_12 :: [])
theorem g11_10_0 : O11_10[0]? = some o11_10_0 := rfl
theorem g11_10_1 : O11_10[1]? = some o11_10_1 := rfl
theorem g11_10_2 : O11_10[2]? = some o11_10_2 := rfl
theorem g11_10_3 : O11_10[3]? = some o11_10_3 := rfl
theorem g11_10_4 : O11_10[4]? = some o11_10_4 := rfl
theorem g11_10_5 : O11_10[5]? = some o11_10_5 := rfl
theorem g11_10_6 : O11_10[6]? = some o11_10_6 := rfl
theorem g11_10_7 : O11_10[7]? = some o11_10_7 := rfl
theorem g11_10_8 : O11_10[8]? = some o11_10_8 := rfl
theorem g11_10_9 : O11_10[9]? = some o11_10_9 := rfl
theorem g11_10_10 : O11_10[10]? = some o11_10_10 := rfl
theorem g11_10_11 : O11_10[11]? = some o11_10_11 := rfl
theorem g11_10_12 : O11_10[12]? = some o11_10_12 := rfl
def c11_33 : Code := Code.region 10 O11_10 false
def o11_11_0 : Oper := { dst := some 103, op := Go.Op.move (Go.Operand.tmp 18), type := 27, pos := "law.go:354", after := #[], guard := none }
def o11_11_1 : Oper := { dst := some 104, op := Go.Op.binOp Go.BinOp.neq 27 (Go.Operand.tmp 103) (Go.Operand.const (Go.Value.int Go.IntKind.i64 0)) 27, type := 4, pos := "law.go:354", after := #[{ on := 0, ground := Go.Ground.data }], guard := none }
def o11_11_2 : Oper := { dst := some 105, op := Go.Op.move (Go.Operand.tmp 104), type := 4, pos := "law.go:354", after := #[{ on := 1, ground := Go.Ground.data }], guard := none }
def o11_11_3 : Oper := { dst := some 106, op := Go.Op.load 24 (Go.Operand.tmp 16), type := 24, pos := "law.go:354", after := #[{ on := 2, ground := Go.Ground.guard }], guard := some (2, false) }
def o11_11_4 : Oper := { dst := some 107, op := Go.Op.load 24 (Go.Operand.tmp 3), type := 24, pos := "law.go:354", after := #[{ on := 2, ground := Go.Ground.guard }], guard := some (2, false) }
def o11_11_5 : Oper := { dst := some 108, op := Go.Op.call { callee := Go.Callee.value (Go.Operand.func 21), args := #[Go.Operand.tmp 106, Go.Operand.tmp 107], argTypes := #[24, 24] }, type := 4, pos := "law.go:354", after := #[{ on := 3, ground := Go.Ground.data }, { on := 4, ground := Go.Ground.data }, { on := 2, ground := Go.Ground.chain }, { on := 2, ground := Go.Ground.guard }], guard := some (2, false) }
def o11_11_6 : Oper := { dst := some 109, op := Go.Op.unOp Go.UnOp.not 4 (Go.Operand.tmp 108), type := 4, pos := "law.go:354", after := #[{ on := 5, ground := Go.Ground.data }, { on := 2, ground := Go.Ground.guard }], guard := some (2, false) }
def o11_11_7 : Oper := { dst := some 110, op := Go.Op.pick (Go.Operand.tmp 105) (Go.Operand.const (Go.Value.bool true)) (Go.Operand.tmp 109), type := 4, pos := "law.go:354", after := #[{ on := 2, ground := Go.Ground.data }, { on := 6, ground := Go.Ground.data }], guard := none }
def o11_11_8 : Oper := { dst := some 111, op := Go.Op.move (Go.Operand.tmp 110), type := 4, pos := "law.go:354", after := #[{ on := 7, ground := Go.Ground.data }, { on := 5, ground := Go.Ground.chain }], guard := none }
def o11_11_9 : Oper := { dst := some 112, op := Go.Op.load 24 (Go.Operand.tmp 7), type := 24, pos := "law.go:354", after := #[{ on := 8, ground := Go.Ground.guard }], guard := some (8, false) }
def o11_11_10 : Oper := { dst := some 113, op := Go.Op.load 24 (Go.Operand.tmp 13), type := 24, pos := "law.go:354", after := #[{ on := 8, ground := Go.Ground.guard }], guard := some (8, false) }
def o11_11_11 : Oper := { dst := some 114, op := Go.Op.call { callee := Go.Callee.value (Go.Operand.func 21), args := #[Go.Operand.tmp 112, Go.Operand.tmp 113], argTypes := #[24, 24] }, type := 4, pos := "law.go:354", after := #[{ on := 9, ground := Go.Ground.data }, { on := 10, ground := Go.Ground.data }, { on := 8, ground := Go.Ground.chain }, { on := 8, ground := Go.Ground.guard }], guard := some (8, false) }
def o11_11_12 : Oper := { dst := some 115, op := Go.Op.unOp Go.UnOp.not 4 (Go.Operand.tmp 114), type := 4, pos := "law.go:354", after := #[{ on := 11, ground := Go.Ground.data }, { on := 8, ground := Go.Ground.guard }], guard := some (8, false) }
def o11_11_13 : Oper := { dst := some 116, op := Go.Op.pick (Go.Operand.tmp 111) (Go.Operand.const (Go.Value.bool true)) (Go.Operand.tmp 115), type := 4, pos := "law.go:354", after := #[{ on := 8, ground := Go.Ground.data }, { on := 12, ground := Go.Ground.data }], guard := none }
def O11_11 : Array Oper := List.toArray (o11_11_0 :: o11_11_1 :: o11_11_2 :: o11_11_3 :: o11_11_4 :: o11_11_5 :: o11_11_6 :: o11_11_7 :: o11_11_8 :: o11_11_9 :: o11_11_10 :: o11_11_11 :: o11_11_12 :: o11_11_13 :: [])
theorem g11_11_0 : O11_11[0]? = some o11_11_0 := rfl
theorem g11_11_1 : O11_11[1]? = some o11_11_1 := rfl
theorem g11_11_2 : O11_11[2]? = some o11_11_2 := rfl
theorem g11_11_3 : O11_11[3]? = some o11_11_3 := rfl
theorem g11_11_4 : O11_11[4]? = some o11_11_4 := rfl
theorem g11_11_5 : O11_11[5]? = some o11_11_5 := rfl
theorem g11_11_6 : O11_11[6]? = some o11_11_6 := rfl
theorem g11_11_7 : O11_11[7]? = some o11_11_7 := rfl
theorem g11_11_8 : O11_11[8]? = some o11_11_8 := rfl
theorem g11_11_9 : O11_11[9]? = some o11_11_9 := rfl
theorem g11_11_10 : O11_11[10]? = some o11_11_10 := rfl
theorem g11_11_11 : O11_11[11]? = some o11_11_11 := rfl
theorem g11_11_12 : O11_11[12]? = some o11_11_12 := rfl
theorem g11_11_13 : O11_11[13]? = some o11_11_13 := rfl
def c11_36 : Code := Code.region 11 O11_11 false
def o11_12_0 : Oper := { dst := some 6, op := Go.Op.assign (Go.Operand.const (Go.Value.bool false)), type := 4, pos := "law.go:355", after := #[], guard := none }
def O11_12 : Array Oper := List.toArray (o11_12_0 :: [])
theorem g11_12_0 : O11_12[0]? = some o11_12_0 := rfl
def c11_39 : Code := Code.region 12 O11_12 false
def c11_38 : Code := Code.seq c11_39 Code.ret
def c11_37 : Code := Code.cond (Go.Operand.tmp 116) c11_38 Code.skip
def c11_35 : Code := Code.seq c11_36 c11_37
def o11_13_0 : Oper := { dst := some 118, op := Go.Op.load 24 (Go.Operand.tmp 16), type := 24, pos := "law.go:357", after := #[], guard := none }
def o11_13_1 : Oper := { dst := some 119, op := Go.Op.load 24 (Go.Operand.tmp 13), type := 24, pos := "law.go:357", after := #[], guard := none }
def o11_13_2 : Oper := { dst := some 120, op := Go.Op.call { callee := Go.Callee.value (Go.Operand.func 28), args := #[Go.Operand.tmp 118, Go.Operand.tmp 119], argTypes := #[24, 24] }, type := 37, pos := "law.go:357", after := #[{ on := 0, ground := Go.Ground.data }, { on := 1, ground := Go.Ground.data }], guard := none }
def o11_13_3 : Oper := { dst := some 117, op := Go.Op.move (Go.Operand.tmp 120), type := 37, pos := "law.go:357", after := #[{ on := 2, ground := Go.Ground.data }], guard := none }
def o11_13_4 : Oper := { dst := some 121, op := Go.Op.extract (Go.Operand.tmp 117) 0, type := 36, pos := "law.go:357", after := #[{ on := 3, ground := Go.Ground.data }], guard := none }
def o11_13_5 : Oper := { dst := some 122, op := Go.Op.extract (Go.Operand.tmp 117) 1, type := 4, pos := "law.go:357", after := #[{ on := 3, ground := Go.Ground.data }, { on := 7, ground := Go.Ground.gcOnly Go.Departure.lateStores }], guard := none }
def o11_13_6 : Oper := { dst := some 123, op := Go.Op.extract (Go.Operand.tmp 117) 2, type := 27, pos := "law.go:357", after := #[{ on := 3, ground := Go.Ground.data }, { on := 8, ground := Go.Ground.gcOnly Go.Departure.lateStores }], guard := none }
def o11_13_7 : Oper := { dst := some 19, op := Go.Op.assign (Go.Operand.tmp 121), type := 36, pos := "law.go:357", after := #[{ on := 4, ground := Go.Ground.data }, { on := 2, ground := Go.Ground.chain }, { on := 0, ground := Go.Ground.phase }, { on := 1, ground := Go.Ground.phase }, { on := 2, ground := Go.Ground.phase }, { on := 3, ground := Go.Ground.phase }, { on := 4, ground := Go.Ground.phase }, { on := 5, ground := Go.Ground.textOnly Go.Departure.lateStores }, { on := 6, ground := Go.Ground.textOnly Go.Departure.lateStores }], guard := none }
def o11_13_8 : Oper := { dst := some 20, op := Go.Op.assign (Go.Operand.tmp 122), type := 4, pos := "law.go:357", after := #[{ on := 5, ground := Go.Ground.data }, { on := 7, ground := Go.Ground.chain }, { on := 0, ground := Go.Ground.phase }, { on := 1, ground := Go.Ground.phase }, { on := 2, ground := Go.Ground.phase }, { on := 3, ground := Go.Ground.phase }, { on := 4, ground := Go.Ground.phase }, { on := 5, ground := Go.Ground.phase }, { on := 6, ground := Go.Ground.textOnly Go.Departure.lateStores }, { on := 7, ground := Go.Ground.phase }], guard := none }
def o11_13_9 : Oper := { dst := some 21, op := Go.Op.assign (Go.Operand.tmp 123), type := 27, pos := "law.go:357", after := #[{ on := 6, ground := Go.Ground.data }, { on := 8, ground := Go.Ground.chain }, { on := 0, ground := Go.Ground.phase }, { on := 1, ground := Go.Ground.phase }, { on := 2, ground := Go.Ground.phase }, { on := 3, ground := Go.Ground.phase }, { on := 4, ground := Go.Ground.phase }, { on := 5, ground := Go.Ground.phase }, { on := 6, ground := Go.Ground.phase }, { on := 7, ground := Go.Ground.phase }, { on := 8, ground := Go.Ground.phase }], guard := none }
def O11_13 : Array Oper := List.toArray (o11_13_0 :: o11_13_1 :: o11_13_2 :: o11_13_3 :: o11_13_4 :: o11_13_5 :: o11_13_6 :: o11_13_7 :: o11_13_8 :: o11_13_9 :: [])
theorem g11_13_0 : O11_13[0]? = some o11_13_0 := rfl
theorem g11_13_1 : O11_13[1]? = some o11_13_1 := rfl
theorem g11_13_2 : O11_13[2]? = some o11_13_2 := rfl
theorem g11_13_3 : O11_13[3]? = some o11_13_3 := rfl
theorem g11_13_4 : O11_13[4]? = some o11_13_4 := rfl
theorem g11_13_5 : O11_13[5]? = some o11_13_5 := rfl
theorem g11_13_6 : O11_13[6]? = some o11_13_6 := rfl
theorem g11_13_7 : O11_13[7]? = some o11_13_7 := rfl
theorem g11_13_8 : O11_13[8]? = some o11_13_8 := rfl
theorem g11_13_9 : O11_13[9]? = some o11_13_9 := rfl
def c11_43 : Code := Code.region 13 O11_13 false
def o11_14_0 : Oper := { dst := some 124, op := Go.Op.move (Go.Operand.tmp 21), type := 27, pos := "law.go:358", after := #[], guard := none }
def o11_14_1 : Oper := { dst := some 125, op := Go.Op.binOp Go.BinOp.eql 27 (Go.Operand.tmp 124) (Go.Operand.const (Go.Value.int Go.IntKind.i64 0)) 27, type := 4, pos := "law.go:358", after := #[{ on := 0, ground := Go.Ground.data }], guard := none }
def o11_14_2 : Oper := { dst := some 126, op := Go.Op.move (Go.Operand.tmp 125), type := 4, pos := "law.go:358", after := #[{ on := 1, ground := Go.Ground.data }], guard := none }
def o11_14_3 : Oper := { dst := some 127, op := Go.Op.move (Go.Operand.tmp 20), type := 4, pos := "law.go:358", after := #[{ on := 2, ground := Go.Ground.guard }], guard := some (2, true) }
def o11_14_4 : Oper := { dst := some 128, op := Go.Op.pick (Go.Operand.tmp 126) (Go.Operand.tmp 127) (Go.Operand.const (Go.Value.bool false)), type := 4, pos := "law.go:358", after := #[{ on := 2, ground := Go.Ground.data }, { on := 3, ground := Go.Ground.data }], guard := none }
def o11_14_5 : Oper := { dst := some 129, op := Go.Op.move (Go.Operand.tmp 128), type := 4, pos := "law.go:358", after := #[{ on := 4, ground := Go.Ground.data }, { on := 2, ground := Go.Ground.chain }], guard := none }
def o11_14_6 : Oper := { dst := some 130, op := Go.Op.move (Go.Operand.tmp 19), type := 36, pos := "law.go:358", after := #[{ on := 5, ground := Go.Ground.guard }], guard := some (5, true) }
def o11_14_7 : Oper := { dst := some 131, op := Go.Op.call { callee := Go.Callee.builtin Go.Builtin.len, args := #[Go.Operand.tmp 130], argTypes := #[36] }, type := 3, pos := "law.go:358", after := #[{ on := 6, ground := Go.Ground.data }, { on := 5, ground := Go.Ground.guard }], guard := some (5, true) }
def o11_14_8 : Oper := { dst := some 132, op := Go.Op.load 24 (Go.Operand.tmp 3), type := 24, pos := "law.go:358", after := #[{ on := 5, ground := Go.Ground.guard }], guard := some (5, true) }
def o11_14_9 : Oper := { dst := some 133, op := Go.Op.call { callee := Go.Callee.value (Go.Operand.func 18), args := #[Go.Operand.tmp 132], argTypes := #[24] }, type := 30, pos := "law.go:358", after := #[{ on := 8, ground := Go.Ground.data }, { on := 5, ground := Go.Ground.chain }, { on := 5, ground := Go.Ground.guard }], guard := some (5, true) }
def o11_14_10 : Oper := { dst := some 134, op := Go.Op.call { callee := Go.Callee.builtin Go.Builtin.len, args := #[Go.Operand.tmp 133], argTypes := #[30] }, type := 3, pos := "law.go:358", after := #[{ on := 9, ground := Go.Ground.data }, { on := 5, ground := Go.Ground.guard }], guard := some (5, true) }
def o11_14_11 : Oper := { dst := some 135, op := Go.Op.binOp Go.BinOp.eql 3 (Go.Operand.tmp 131) (Go.Operand.tmp 134) 3, type := 4, pos := "law.go:358", after := #[{ on := 7, ground := Go.Ground.data }, { on := 10, ground := Go.Ground.data }, { on := 5, ground := Go.Ground.guard }], guard := some (5, true) }
def o11_14_12 : Oper := { dst := some 136, op := Go.Op.pick (Go.Operand.tmp 129) (Go.Operand.tmp 135) (Go.Operand.const (Go.Value.bool false)), type := 4, pos := "law.go:358", after := #[{ on := 5, ground := Go.Ground.data }, { on := 11, ground := Go.Ground.data }], guard := none }
def o11_14_13 : Oper := { dst := some 6, op := Go.Op.assign (Go.Operand.tmp 136), type := 4, pos := "law.go:358", after := #[{ on := 12, ground := Go.Ground.data }, { on := 9, ground := Go.Ground.chain }, { on := 0, ground := Go.Ground.phase }, { on := 1, ground := Go.Ground.phase }, { on := 2, ground := Go.Ground.phase }, { on := 3, ground := Go.Ground.phase }, { on := 4, ground := Go.Ground.phase }, { on := 5, ground := Go.Ground.phase }, { on := 6, ground := Go.Ground.phase }, { on := 7, ground := Go.Ground.phase }, { on := 8, ground := Go.Ground.phase }, { on := 9, ground := Go.Ground.phase }, { on := 10, ground := Go.Ground.phase }, { on := 11, ground := Go.Ground.phase }, { on := 12, ground := Go.Ground.phase }], guard := none }
def O11_14 : Array Oper := List.toArray (o11_14_0 :: o11_14_1 :: o11_14_2 :: o11_14_3 :: o11_14_4 :: o11_14_5 :: o11_14_6 :: o11_14_7 :: o11_14_8 :: o11_14_9 :: o11_14_10 :: o11_14_11 :: o11_14_12 :: o11_14_13 :: [])
theorem g11_14_0 : O11_14[0]? = some o11_14_0 := rfl
theorem g11_14_1 : O11_14[1]? = some o11_14_1 := rfl
theorem g11_14_2 : O11_14[2]? = some o11_14_2 := rfl
theorem g11_14_3 : O11_14[3]? = some o11_14_3 := rfl
theorem g11_14_4 : O11_14[4]? = some o11_14_4 := rfl
theorem g11_14_5 : O11_14[5]? = some o11_14_5 := rfl
theorem g11_14_6 : O11_14[6]? = some o11_14_6 := rfl
theorem g11_14_7 : O11_14[7]? = some o11_14_7 := rfl
theorem g11_14_8 : O11_14[8]? = some o11_14_8 := rfl
theorem g11_14_9 : O11_14[9]? = some o11_14_9 := rfl
theorem g11_14_10 : O11_14[10]? = some o11_14_10 := rfl
theorem g11_14_11 : O11_14[11]? = some o11_14_11 := rfl
theorem g11_14_12 : O11_14[12]? = some o11_14_12 := rfl
theorem g11_14_13 : O11_14[13]? = some o11_14_13 := rfl
def c11_45 : Code := Code.region 14 O11_14 false
def c11_44 : Code := Code.seq c11_45 Code.ret
def c11_42 : Code := Code.seq c11_43 c11_44
def c11_34 : Code := Code.seq c11_35 c11_42
def c11_32 : Code := Code.seq c11_33 c11_34
def c11_24 : Code := Code.seq c11_25 c11_32
def c11_22 : Code := Code.seq c11_23 c11_24
def c11_20 : Code := Code.seq c11_21 c11_22
def c11_18 : Code := Code.seq c11_19 c11_20
def c11_10 : Code := Code.seq c11_11 c11_18
def c11_2 : Code := Code.seq c11_3 c11_10
def c11_0 : Code := Code.seq c11_1 c11_2
theorem body11 : Try.f11.body = some c11_0 := by kernel_rfl

set_option maxRecDepth 100000 in
set_option maxHeartbeats 4000000 in
theorem rw_t {W : World} {t xa zb um : Tm} {ta : Option Addr} {tc L : Nat} {ma mb M : Int} {f0 : Act} {w0 : World} (R : FrS 137 f0) (h0 : f0.tmps[0]? = some (.agg #[.int .i64 t.k, .string (str t.nm), .int .i64 t.i, .slice ta t.args.length tc])) (h1 : f0.tmps[1]? = some (.int .i64 ma)) (h2 : f0.tmps[2]? = some (.int .i64 mb)) (K1 : Keep (fun g => g < W.heap.size) W w0)  (HT : Hid (TmAt W.heap.size W t ta tc)) (HR : Hid (t.right = true)) (HW : Hid ((ik ma).wf = true ∧ (ik mb).wf = true)) (HP : Hid (1 ≤ ma → 1 ≤ mb → ma ≤ 1152921504606846976 → mb ≤ 1152921504606846976 → Hid (rnV t ma = (xa, ma + (L : Int), 0)) ∧ Hid (rnV xa mb = (zb, mb + (L : Int), 0)) ∧ Hid (rnV t mb = (zb, mb + (L : Int), 0)) ∧ Hid (rnV t M = (um, M + (L : Int), 0)) ∧ Hid ((ik M).wf = true) ∧ Hid (L ≤ 2000) ∧ Hid (max ma mb + (L : Int) = M) ∧ Hid (sameV zb zb = true) ∧ Hid (vtV um t = true) ∧ Hid (vtV xa zb = true) ∧ Hid ((vaV t).length = L) ∧ Hid (∀ bs ok er, SolR um zb bs ok er → ok = true ∧ er = 0 ∧ bs.length = L))) : c11_0.wp Try.prog (bodyPost Try.prog Try.f11 (fun e w' => e = .returned (.bool true) ∧ Keep (fun g => g < W.heap.size) W w')) f0 w0 := by
  refine wp_seq (x := c11_1) (y := c11_2) ?_
  change (Code.region 0 O11_0 false).wp _ _ _ _
  refine reg_in (l := [0, 1]) rfl ?_
  have MK1 := K1
  have Y : (execOp f0.eval o11_0_0).run Try.prog w0 = .ok (.value (.pointer (some ⟨w0.heap.size, 0, none⟩))) (w0.alloc (.cells #[.int .i64 t.k, .string (str t.nm), .int .i64 t.i, .slice ta t.args.length tc] 24)) := by unfold o11_0_0; go_simp
  have B1 := Blk.new w0 24 #[.int .i64 t.k, .string (str t.nm), .int .i64 t.i, .slice ta t.args.length tc]
  replace K1 := K1.alloc (.cells #[.int .i64 t.k, .string (str t.nm), .int .i64 t.i, .slice ta t.args.length tc] 24)
  obtain ⟨w2, hw2⟩ : ∃ x, x = w0.alloc (.cells #[.int .i64 t.k, .string (str t.nm), .int .i64 t.i, .slice ta t.args.length tc] 24) := ⟨_, rfl⟩
  rw [← hw2] at Y B1 K1
  obtain ⟨b1, hb1⟩ : ∃ x, x = w0.heap.size := ⟨_, rfl⟩
  rw [← hb1] at Y B1
  have LK1_b1 : W.heap.size ≤ b1 := by rw [hb1]; first | exact Nat.le_refl _ | exact MK1.size
  clear hw2 hb1 MK1
  refine st_val g11_0_0 rfl (wanted_free rfl) Y fun a3 e => ?_; clear Y
  have g3 := R.at_ e (by decide); replace R := R.put e; replace h1 := slot_on e h1 (by decide); replace h2 := slot_on e h2 (by decide); clear h0; have h3 := g3; clear g3; clear e
  have Y : (execOp a3.eval o11_0_1).run Try.prog w2 = .ok (.value (.bool false)) w2 := by unfold o11_0_1; go_simp
  refine st_val g11_0_1 rfl (wanted_free rfl) Y fun a5 e => ?_; clear Y
  have g6 := R.at_ e (by decide); replace R := R.put e; replace h1 := slot_on e h1 (by decide); replace h2 := slot_on e h2 (by decide); replace h3 := slot_on e h3 (by decide); have h6 := g6; clear g6; clear e
  refine st_end ?_
  change (c11_2).wp _ _ _ _
  refine wp_seq (x := c11_3) (y := c11_10) ?_
  refine wp_seq (x := c11_4) (y := c11_5) ?_
  change (Code.region 1 O11_1 false).wp _ _ _ _
  refine reg_in (l := [0, 1]) rfl ?_
  have Y : (execOp a5.eval o11_1_0).run Try.prog w2 = .ok (.enter 13 #[]) w2 := by unfold o11_1_0; go_simp
  refine st_call g11_1_0 rfl (wanted_free rfl) Y ((alive_any (w := w2)).mono ?_); clear Y
  rintro e9 w7 ⟨rfl, kk⟩
  replace K1 := keep_onto K1 kk
  replace B1 := blk_on B1 kk
  clear kk
  refine ⟨_, rfl, fun a8 e => ?_⟩
  have g22 := R.at_ e (by decide); replace R := R.put e; replace h1 := slot_on e h1 (by decide); replace h2 := slot_on e h2 (by decide); replace h3 := slot_on e h3 (by decide); replace h6 := slot_on e h6 (by decide); have h22 := g22; clear g22; clear e
  have Y : (execOp a8.eval o11_1_1).run Try.prog w7 = .ok (.value (.bool false)) w7 := by unfold o11_1_1; go_simp
  refine st_val g11_1_1 rfl (wanted_free rfl) Y fun a10 e => ?_; clear Y
  have g23 := R.at_ e (by decide); replace R := R.put e; replace h1 := slot_on e h1 (by decide); replace h2 := slot_on e h2 (by decide); replace h3 := slot_on e h3 (by decide); replace h6 := slot_on e h6 (by decide); clear h22; have h23 := g23; clear g23; clear e
  refine st_end ?_
  change (c11_5).wp _ _ _ _
  refine wp_cond_false (x := c11_6) (y := Code.skip) (eval_slot h23) ?_
  refine wp_skip ?_
  change (c11_10).wp _ _ _ _
  refine wp_seq (x := c11_11) (y := c11_18) ?_
  refine wp_seq (x := c11_12) (y := c11_13) ?_
  change (Code.region 3 O11_3 false).wp _ _ _ _
  refine reg_in (l := [0, 1, 2, 3, 4, 5, 6, 7, 8, 9, 10, 11, 12, 13, 14, 15, 16, 17, 18]) rfl ?_
  have Y : (execOp a10.eval o11_3_0).run Try.prog w7 = .ok (.value (.agg #[.int .i64 t.k, .string (str t.nm), .int .i64 t.i, .slice ta t.args.length tc])) w7 := by have qq0 : w7.cell? ⟨b1, 0, none⟩ = some (.int .i64 t.k) := B1.cell 0; have qq1 : w7.cell? ⟨b1, 1, none⟩ = some (.string (str t.nm)) := B1.cell 1; have qq2 : w7.cell? ⟨b1, 2, none⟩ = some (.int .i64 t.i) := B1.cell 2; have qq3 : w7.cell? ⟨b1, 3, none⟩ = some (.slice ta t.args.length tc) := B1.cell 3; unfold o11_3_0; go_simp
  refine st_val g11_3_0 rfl (wanted_free rfl) Y fun a12 e => ?_; clear Y
  have g24 := R.at_ e (by decide); replace R := R.put e; replace h1 := slot_on e h1 (by decide); replace h2 := slot_on e h2 (by decide); replace h3 := slot_on e h3 (by decide); replace h6 := slot_on e h6 (by decide); clear h23; have h24 := g24; clear g24; clear e
  have Y : (execOp a12.eval o11_3_1).run Try.prog w7 = .ok (.enter 15 #[.agg #[.int .i64 t.k, .string (str t.nm), .int .i64 t.i, .slice ta t.args.length tc]]) w7 := by unfold o11_3_1; go_simp
  refine st_call g11_3_1 rfl (wanted_free rfl) Y ((check_t (HT.out.on K1) HR.out).mono ?_); clear Y
  rintro e9 w14 ⟨rfl, kk⟩
  replace K1 := keep_onto K1 kk
  replace B1 := blk_on B1 kk
  clear kk
  refine ⟨_, rfl, fun a15 e => ?_⟩
  have g25 := R.at_ e (by decide); replace R := R.put e; replace h1 := slot_on e h1 (by decide); replace h2 := slot_on e h2 (by decide); replace h3 := slot_on e h3 (by decide); replace h6 := slot_on e h6 (by decide); clear h24; have h25 := g25; clear g25; clear e
  have Y : (execOp a15.eval o11_3_2).run Try.prog w14 = .ok (.value (.bool false)) w14 := by unfold o11_3_2; go_simp
  refine st_val g11_3_2 rfl (wanted_free rfl) Y fun a17 e => ?_; clear Y
  have g26 := R.at_ e (by decide); replace R := R.put e; replace h1 := slot_on e h1 (by decide); replace h2 := slot_on e h2 (by decide); replace h3 := slot_on e h3 (by decide); replace h6 := slot_on e h6 (by decide); clear h25; have h26 := g26; clear g26; clear e
  have Y : (execOp a17.eval o11_3_3).run Try.prog w14 = .ok (.value (.bool false)) w14 := by unfold o11_3_3; go_simp
  refine st_val g11_3_3 rfl (wanted_free rfl) Y fun a19 e => ?_; clear Y
  have g27 := R.at_ e (by decide); replace R := R.put e; replace h1 := slot_on e h1 (by decide); replace h2 := slot_on e h2 (by decide); replace h3 := slot_on e h3 (by decide); replace h6 := slot_on e h6 (by decide); clear h26; have h27 := g27; clear g27; clear e
  have Y : (execOp a19.eval o11_3_4).run Try.prog w14 = .ok (.value (.int .i64 ma)) w14 := by unfold o11_3_4; go_simp
  refine st_val g11_3_4 rfl (wanted_is (j := 3) (d := 27) rfl rfl h27 rfl) Y fun a21 e => ?_; clear Y
  have g28 := R.at_ e (by decide); replace R := R.put e; replace h1 := slot_on e h1 (by decide); replace h2 := slot_on e h2 (by decide); replace h3 := slot_on e h3 (by decide); replace h6 := slot_on e h6 (by decide); replace h27 := slot_on e h27 (by decide); have h28 := g28; clear g28; clear e
  obtain ⟨b23, hb23⟩ : ∃ x, (decide ((ma : Int) < (1 : Int))) = x := ⟨_, rfl⟩
  have Y : (execOp a21.eval o11_3_5).run Try.prog w14 = .ok (.value (.bool b23)) w14 := by rw [← hb23]; unfold o11_3_5; go_simp
  refine st_val g11_3_5 rfl (wanted_is (j := 3) (d := 27) rfl rfl h27 rfl) Y fun a24 e => ?_; clear Y
  have g29 := R.at_ e (by decide); replace R := R.put e; replace h1 := slot_on e h1 (by decide); replace h2 := slot_on e h2 (by decide); replace h3 := slot_on e h3 (by decide); replace h6 := slot_on e h6 (by decide); replace h27 := slot_on e h27 (by decide); clear h28; have h29 := g29; clear g29; clear e
  have Y : (execOp a24.eval o11_3_6).run Try.prog w14 = .ok (.value (.bool b23)) w14 := by unfold o11_3_6; go_simp
  refine st_val g11_3_6 rfl (wanted_free rfl) Y fun a26 e => ?_; clear Y
  have g30 := R.at_ e (by decide); replace R := R.put e; replace h1 := slot_on e h1 (by decide); replace h2 := slot_on e h2 (by decide); replace h3 := slot_on e h3 (by decide); replace h6 := slot_on e h6 (by decide); clear h27 h29; have h30 := g30; clear g30; clear e
  have Y : (execOp a26.eval o11_3_7).run Try.prog w14 = .ok (.value (.bool b23)) w14 := by unfold o11_3_7; go_simp
  refine st_val g11_3_7 rfl (wanted_free rfl) Y fun a28 e => ?_; clear Y
  have g31 := R.at_ e (by decide); replace R := R.put e; replace h1 := slot_on e h1 (by decide); replace h2 := slot_on e h2 (by decide); replace h3 := slot_on e h3 (by decide); replace h6 := slot_on e h6 (by decide); clear h30; have h31 := g31; clear g31; clear e
  cases b23 with
  | false =>
    have fb23 := hb23; clear hb23
    simp only [decide_eq_true_eq, decide_eq_false_iff_not, Bool.not_eq_true', Bool.not_eq_false', Bool.not_eq_eq_eq_not, Bool.not_true, Bool.not_false] at fb23
    have Y : (execOp a28.eval o11_3_8).run Try.prog w14 = .ok (.value (.int .i64 mb)) w14 := by unfold o11_3_8; go_simp
    refine st_val g11_3_8 rfl (wanted_is (j := 7) (d := 31) rfl rfl h31 rfl) Y fun a30 e => ?_; clear Y
    have g32 := R.at_ e (by decide); replace R := R.put e; replace h1 := slot_on e h1 (by decide); replace h2 := slot_on e h2 (by decide); replace h3 := slot_on e h3 (by decide); replace h6 := slot_on e h6 (by decide); replace h31 := slot_on e h31 (by decide); have h32 := g32; clear g32; clear e
    obtain ⟨b32, hb32⟩ : ∃ x, (decide ((mb : Int) < (1 : Int))) = x := ⟨_, rfl⟩
    have Y : (execOp a30.eval o11_3_9).run Try.prog w14 = .ok (.value (.bool b32)) w14 := by rw [← hb32]; unfold o11_3_9; go_simp
    refine st_val g11_3_9 rfl (wanted_is (j := 7) (d := 31) rfl rfl h31 rfl) Y fun a33 e => ?_; clear Y
    have g33 := R.at_ e (by decide); replace R := R.put e; replace h1 := slot_on e h1 (by decide); replace h2 := slot_on e h2 (by decide); replace h3 := slot_on e h3 (by decide); replace h6 := slot_on e h6 (by decide); replace h31 := slot_on e h31 (by decide); clear h32; have h33 := g33; clear g33; clear e
    have Y : (execOp a33.eval o11_3_10).run Try.prog w14 = .ok (.value (.bool b32)) w14 := by unfold o11_3_10; go_simp
    refine st_val g11_3_10 rfl (wanted_free rfl) Y fun a35 e => ?_; clear Y
    have g34 := R.at_ e (by decide); replace R := R.put e; replace h1 := slot_on e h1 (by decide); replace h2 := slot_on e h2 (by decide); replace h3 := slot_on e h3 (by decide); replace h6 := slot_on e h6 (by decide); clear h31 h33; have h34 := g34; clear g34; clear e
    have Y : (execOp a35.eval o11_3_11).run Try.prog w14 = .ok (.value (.bool b32)) w14 := by unfold o11_3_11; go_simp
    refine st_val g11_3_11 rfl (wanted_free rfl) Y fun a37 e => ?_; clear Y
    have g35 := R.at_ e (by decide); replace R := R.put e; replace h1 := slot_on e h1 (by decide); replace h2 := slot_on e h2 (by decide); replace h3 := slot_on e h3 (by decide); replace h6 := slot_on e h6 (by decide); clear h34; have h35 := g35; clear g35; clear e
    cases b32 with
    | false =>
      have fb32 := hb32; clear hb32
      simp only [decide_eq_true_eq, decide_eq_false_iff_not, Bool.not_eq_true', Bool.not_eq_false', Bool.not_eq_eq_eq_not, Bool.not_true, Bool.not_false] at fb32
      have Y : (execOp a37.eval o11_3_12).run Try.prog w14 = .ok (.value (.int .i64 ma)) w14 := by unfold o11_3_12; go_simp
      refine st_val g11_3_12 rfl (wanted_is (j := 11) (d := 35) rfl rfl h35 rfl) Y fun a39 e => ?_; clear Y
      have g36 := R.at_ e (by decide); replace R := R.put e; replace h1 := slot_on e h1 (by decide); replace h2 := slot_on e h2 (by decide); replace h3 := slot_on e h3 (by decide); replace h6 := slot_on e h6 (by decide); replace h35 := slot_on e h35 (by decide); have h36 := g36; clear g36; clear e
      obtain ⟨b41, hb41⟩ : ∃ x, (decide ((1152921504606846976 : Int) < (ma : Int))) = x := ⟨_, rfl⟩
      have Y : (execOp a39.eval o11_3_13).run Try.prog w14 = .ok (.value (.bool b41)) w14 := by rw [← hb41]; unfold o11_3_13; go_simp
      refine st_val g11_3_13 rfl (wanted_is (j := 11) (d := 35) rfl rfl h35 rfl) Y fun a42 e => ?_; clear Y
      have g37 := R.at_ e (by decide); replace R := R.put e; replace h1 := slot_on e h1 (by decide); replace h2 := slot_on e h2 (by decide); replace h3 := slot_on e h3 (by decide); replace h6 := slot_on e h6 (by decide); replace h35 := slot_on e h35 (by decide); clear h36; have h37 := g37; clear g37; clear e
      have Y : (execOp a42.eval o11_3_14).run Try.prog w14 = .ok (.value (.bool b41)) w14 := by unfold o11_3_14; go_simp
      refine st_val g11_3_14 rfl (wanted_free rfl) Y fun a44 e => ?_; clear Y
      have g38 := R.at_ e (by decide); replace R := R.put e; replace h1 := slot_on e h1 (by decide); replace h2 := slot_on e h2 (by decide); replace h3 := slot_on e h3 (by decide); replace h6 := slot_on e h6 (by decide); clear h35 h37; have h38 := g38; clear g38; clear e
      have Y : (execOp a44.eval o11_3_15).run Try.prog w14 = .ok (.value (.bool b41)) w14 := by unfold o11_3_15; go_simp
      refine st_val g11_3_15 rfl (wanted_free rfl) Y fun a46 e => ?_; clear Y
      have g39 := R.at_ e (by decide); replace R := R.put e; replace h1 := slot_on e h1 (by decide); replace h2 := slot_on e h2 (by decide); replace h3 := slot_on e h3 (by decide); replace h6 := slot_on e h6 (by decide); clear h38; have h39 := g39; clear g39; clear e
      cases b41 with
      | false =>
        have fb41 := hb41; clear hb41
        simp only [decide_eq_true_eq, decide_eq_false_iff_not, Bool.not_eq_true', Bool.not_eq_false', Bool.not_eq_eq_eq_not, Bool.not_true, Bool.not_false] at fb41
        have Y : (execOp a46.eval o11_3_16).run Try.prog w14 = .ok (.value (.int .i64 mb)) w14 := by unfold o11_3_16; go_simp
        refine st_val g11_3_16 rfl (wanted_is (j := 15) (d := 39) rfl rfl h39 rfl) Y fun a48 e => ?_; clear Y
        have g40 := R.at_ e (by decide); replace R := R.put e; replace h1 := slot_on e h1 (by decide); replace h2 := slot_on e h2 (by decide); replace h3 := slot_on e h3 (by decide); replace h6 := slot_on e h6 (by decide); replace h39 := slot_on e h39 (by decide); have h40 := g40; clear g40; clear e
        obtain ⟨b50, hb50⟩ : ∃ x, (decide ((1152921504606846976 : Int) < (mb : Int))) = x := ⟨_, rfl⟩
        have Y : (execOp a48.eval o11_3_17).run Try.prog w14 = .ok (.value (.bool b50)) w14 := by rw [← hb50]; unfold o11_3_17; go_simp
        refine st_val g11_3_17 rfl (wanted_is (j := 15) (d := 39) rfl rfl h39 rfl) Y fun a51 e => ?_; clear Y
        have g41 := R.at_ e (by decide); replace R := R.put e; replace h1 := slot_on e h1 (by decide); replace h2 := slot_on e h2 (by decide); replace h3 := slot_on e h3 (by decide); replace h6 := slot_on e h6 (by decide); replace h39 := slot_on e h39 (by decide); clear h40; have h41 := g41; clear g41; clear e
        have Y : (execOp a51.eval o11_3_18).run Try.prog w14 = .ok (.value (.bool b50)) w14 := by unfold o11_3_18; go_simp
        refine st_val g11_3_18 rfl (wanted_free rfl) Y fun a53 e => ?_; clear Y
        have g42 := R.at_ e (by decide); replace R := R.put e; replace h1 := slot_on e h1 (by decide); replace h2 := slot_on e h2 (by decide); replace h3 := slot_on e h3 (by decide); replace h6 := slot_on e h6 (by decide); clear h39 h41; have h42 := g42; clear g42; clear e
        refine st_end ?_
        change (c11_13).wp _ _ _ _
        cases b50 with
        | false =>
          have fb50 := hb50; clear hb50
          simp only [decide_eq_true_eq, decide_eq_false_iff_not, Bool.not_eq_true', Bool.not_eq_false', Bool.not_eq_eq_eq_not, Bool.not_true, Bool.not_false] at fb50
          refine wp_cond_false (x := c11_14) (y := Code.skip) (eval_slot h42) ?_
          refine wp_skip ?_
          change (c11_18).wp _ _ _ _
          refine wp_seq (x := c11_19) (y := c11_20) ?_
          change (Code.region 5 O11_5 false).wp _ _ _ _
          refine reg_in (l := [0, 1, 2, 3, 4, 5, 6, 7, 8, 9, 10]) rfl ?_
          have Y : (execOp a53.eval o11_5_0).run Try.prog w14 = .ok (.value (.agg #[.int .i64 t.k, .string (str t.nm), .int .i64 t.i, .slice ta t.args.length tc])) w14 := by have qq0 : w14.cell? ⟨b1, 0, none⟩ = some (.int .i64 t.k) := B1.cell 0; have qq1 : w14.cell? ⟨b1, 1, none⟩ = some (.string (str t.nm)) := B1.cell 1; have qq2 : w14.cell? ⟨b1, 2, none⟩ = some (.int .i64 t.i) := B1.cell 2; have qq3 : w14.cell? ⟨b1, 3, none⟩ = some (.slice ta t.args.length tc) := B1.cell 3; unfold o11_5_0; go_simp
          refine st_val g11_5_0 rfl (wanted_free rfl) Y fun a55 e => ?_; clear Y
          have g44 := R.at_ e (by decide); replace R := R.put e; replace h1 := slot_on e h1 (by decide); replace h2 := slot_on e h2 (by decide); replace h3 := slot_on e h3 (by decide); replace h6 := slot_on e h6 (by decide); clear h42; have h44 := g44; clear g44; clear e
          have Y : (execOp a55.eval o11_5_1).run Try.prog w14 = .ok (.value (.int .i64 ma)) w14 := by unfold o11_5_1; go_simp
          refine st_val g11_5_1 rfl (wanted_free rfl) Y fun a57 e => ?_; clear Y
          have g45 := R.at_ e (by decide); replace R := R.put e; replace h1 := slot_on e h1 (by decide); replace h2 := slot_on e h2 (by decide); replace h3 := slot_on e h3 (by decide); replace h6 := slot_on e h6 (by decide); replace h44 := slot_on e h44 (by decide); have h45 := g45; clear g45; clear e
          have Y : (execOp a57.eval o11_5_2).run Try.prog w14 = .ok (.enter 32 #[.agg #[.int .i64 t.k, .string (str t.nm), .int .i64 t.i, .slice ta t.args.length tc], .int .i64 ma]) w14 := by unfold o11_5_2; go_simp
          obtain ⟨V1, V2, V3, V4, WM, HL, HM, HS, HV1, HV2, HVA, HSO⟩ := HP.out (by omega) (by omega) (by omega) (by omega)
          refine st_call g11_5_2 rfl (wanted_free rfl) Y ((rename_sx (HT.out.on K1) HW.out.1 V1.out).mono ?_); clear Y
          rintro e9 w59 ⟨p1, q1, rfl, hx, kk⟩
          replace K1 := keep_onto K1 kk
          replace B1 := blk_on B1 kk
          clear kk
          have HX1 := Lib.hid hx; clear hx
          have KX1 := Keep.refl (fun g => g < w59.heap.size) w59
          refine ⟨_, rfl, fun a60 e => ?_⟩
          have g46 := R.at_ e (by decide); replace R := R.put e; replace h1 := slot_on e h1 (by decide); replace h2 := slot_on e h2 (by decide); replace h3 := slot_on e h3 (by decide); replace h6 := slot_on e h6 (by decide); clear h44 h45; have h46 := g46; clear g46; clear e
          have Y : (execOp a60.eval o11_5_3).run Try.prog w59 = .ok (.value (.tuple #[.agg #[.int .i64 xa.k, .string (str xa.nm), .int .i64 xa.i, .slice p1 xa.args.length q1], .int .i64 (ma + (L : Int)), .int .i64 0])) w59 := by unfold o11_5_3; go_simp
          refine st_val g11_5_3 rfl (wanted_free rfl) Y fun a62 e => ?_; clear Y
          have g43 := R.at_ e (by decide); replace R := R.put e; replace h1 := slot_on e h1 (by decide); replace h2 := slot_on e h2 (by decide); replace h3 := slot_on e h3 (by decide); replace h6 := slot_on e h6 (by decide); clear h46; have h43 := g43; clear g43; clear e
          have Y : (execOp a62.eval o11_5_4).run Try.prog w59 = .ok (.value (.agg #[.int .i64 xa.k, .string (str xa.nm), .int .i64 xa.i, .slice p1 xa.args.length q1])) w59 := by unfold o11_5_4; go_simp
          refine st_val g11_5_4 rfl (wanted_free rfl) Y fun a64 e => ?_; clear Y
          have g47 := R.at_ e (by decide); replace R := R.put e; replace h1 := slot_on e h1 (by decide); replace h2 := slot_on e h2 (by decide); replace h3 := slot_on e h3 (by decide); replace h6 := slot_on e h6 (by decide); replace h43 := slot_on e h43 (by decide); have h47 := g47; clear g47; clear e
          have Y : (execOp a64.eval o11_5_5).run Try.prog w59 = .ok (.value (.int .i64 (ma + (L : Int)))) w59 := by unfold o11_5_5; go_simp
          refine st_val g11_5_5 rfl (wanted_free rfl) Y fun a66 e => ?_; clear Y
          have g48 := R.at_ e (by decide); replace R := R.put e; replace h1 := slot_on e h1 (by decide); replace h2 := slot_on e h2 (by decide); replace h3 := slot_on e h3 (by decide); replace h6 := slot_on e h6 (by decide); replace h43 := slot_on e h43 (by decide); replace h47 := slot_on e h47 (by decide); have h48 := g48; clear g48; clear e
          have Y : (execOp a66.eval o11_5_6).run Try.prog w59 = .ok (.value (.int .i64 0)) w59 := by unfold o11_5_6; go_simp
          refine st_val g11_5_6 rfl (wanted_free rfl) Y fun a68 e => ?_; clear Y
          have g49 := R.at_ e (by decide); replace R := R.put e; replace h1 := slot_on e h1 (by decide); replace h2 := slot_on e h2 (by decide); replace h3 := slot_on e h3 (by decide); replace h6 := slot_on e h6 (by decide); replace h47 := slot_on e h47 (by decide); replace h48 := slot_on e h48 (by decide); clear h43; have h49 := g49; clear g49; clear e
          have MK1 := K1
          have MKX1 := KX1
          have Y : (execOp a68.eval o11_5_7).run Try.prog w59 = .ok (.value (.pointer (some ⟨w59.heap.size, 0, none⟩))) (w59.alloc (.cells #[.int .i64 0, .string (⟨#[]⟩), .int .i64 0, .slice none 0 0] 24)) := by unfold o11_5_7; go_simp
          have B70 := Blk.new w59 24 #[.int .i64 0, .string (⟨#[]⟩), .int .i64 0, .slice none 0 0]
          replace K1 := K1.alloc (.cells #[.int .i64 0, .string (⟨#[]⟩), .int .i64 0, .slice none 0 0] 24)
          replace KX1 := KX1.alloc (.cells #[.int .i64 0, .string (⟨#[]⟩), .int .i64 0, .slice none 0 0] 24)
          have Nb1_b70 := Nat.ne_of_lt B1.lt; replace B1 := B1.alloc (.cells #[.int .i64 0, .string (⟨#[]⟩), .int .i64 0, .slice none 0 0] 24)
          obtain ⟨w71, hw71⟩ : ∃ x, x = w59.alloc (.cells #[.int .i64 0, .string (⟨#[]⟩), .int .i64 0, .slice none 0 0] 24) := ⟨_, rfl⟩
          rw [← hw71] at Y B70 K1 KX1 B1
          obtain ⟨b70, hb70⟩ : ∃ x, x = w59.heap.size := ⟨_, rfl⟩
          rw [← hb70] at Y B70 Nb1_b70
          have LK1_b70 : W.heap.size ≤ b70 := by rw [hb70]; first | exact Nat.le_refl _ | exact MK1.size
          have LKX1_b70 : w59.heap.size ≤ b70 := by rw [hb70]; first | exact Nat.le_refl _ | exact MKX1.size
          clear hw71 hb70 MK1 MKX1
          refine st_val g11_5_7 rfl (wanted_free rfl) Y fun a72 e => ?_; clear Y
          have g7 := R.at_ e (by decide); replace R := R.put e; replace h1 := slot_on e h1 (by decide); replace h2 := slot_on e h2 (by decide); replace h3 := slot_on e h3 (by decide); replace h6 := slot_on e h6 (by decide); replace h47 := slot_on e h47 (by decide); replace h48 := slot_on e h48 (by decide); replace h49 := slot_on e h49 (by decide); have h7 := g7; clear g7; clear e
          have Y : (execOp a72.eval o11_5_8).run Try.prog w71 = .ok .skip ((((w71.setCell ⟨b70, 0, none⟩ (.int .i64 xa.k)).setCell ⟨b70, 1, none⟩ (.string (str xa.nm))).setCell ⟨b70, 2, none⟩ (.int .i64 xa.i)).setCell ⟨b70, 3, none⟩ (.slice p1 xa.args.length q1)) := by have qq0 : w71.cell? ⟨b70, 0, none⟩ = some (.int .i64 0) := B70.cell 0; have qq1 : w71.cell? ⟨b70, 1, none⟩ = some (.string (⟨#[]⟩)) := B70.cell 1; have qq2 : w71.cell? ⟨b70, 2, none⟩ = some (.int .i64 0) := B70.cell 2; have qq3 : w71.cell? ⟨b70, 3, none⟩ = some (.slice none 0 0) := B70.cell 3; have z0 := B70.frozen 0; have z1 := B70.frozen 1; have z2 := B70.frozen 2; have z3 := B70.frozen 3; unfold o11_5_8; go_simp
          replace K1 := ((((K1.setCell (p := ⟨b70, 0, none⟩) (Nat.not_lt.2 LK1_b70) (.int .i64 xa.k)).setCell (p := ⟨b70, 1, none⟩) (Nat.not_lt.2 LK1_b70) (.string (str xa.nm))).setCell (p := ⟨b70, 2, none⟩) (Nat.not_lt.2 LK1_b70) (.int .i64 xa.i)).setCell (p := ⟨b70, 3, none⟩) (Nat.not_lt.2 LK1_b70) (.slice p1 xa.args.length q1))
          replace KX1 := ((((KX1.setCell (p := ⟨b70, 0, none⟩) (Nat.not_lt.2 LKX1_b70) (.int .i64 xa.k)).setCell (p := ⟨b70, 1, none⟩) (Nat.not_lt.2 LKX1_b70) (.string (str xa.nm))).setCell (p := ⟨b70, 2, none⟩) (Nat.not_lt.2 LKX1_b70) (.int .i64 xa.i)).setCell (p := ⟨b70, 3, none⟩) (Nat.not_lt.2 LKX1_b70) (.slice p1 xa.args.length q1))
          replace B1 := ((((B1.far (p := ⟨b70, 0, none⟩) Nb1_b70 (.int .i64 xa.k)).far (p := ⟨b70, 1, none⟩) Nb1_b70 (.string (str xa.nm))).far (p := ⟨b70, 2, none⟩) Nb1_b70 (.int .i64 xa.i)).far (p := ⟨b70, 3, none⟩) Nb1_b70 (.slice p1 xa.args.length q1))
          replace B70 : Blk ((((w71.setCell ⟨b70, 0, none⟩ (.int .i64 xa.k)).setCell ⟨b70, 1, none⟩ (.string (str xa.nm))).setCell ⟨b70, 2, none⟩ (.int .i64 xa.i)).setCell ⟨b70, 3, none⟩ (.slice p1 xa.args.length q1)) b70 24 #[.int .i64 xa.k, .string (str xa.nm), .int .i64 xa.i, .slice p1 xa.args.length q1] := ((((B70.set_ 0 (.int .i64 xa.k)).set_ 1 (.string (str xa.nm))).set_ 2 (.int .i64 xa.i)).set_ 3 (.slice p1 xa.args.length q1))
          generalize ((((w71.setCell ⟨b70, 0, none⟩ (.int .i64 xa.k)).setCell ⟨b70, 1, none⟩ (.string (str xa.nm))).setCell ⟨b70, 2, none⟩ (.int .i64 xa.i)).setCell ⟨b70, 3, none⟩ (.slice p1 xa.args.length q1)) = w74 at Y K1 KX1 B1 B70
          refine st_skip g11_5_8 rfl (wanted_free rfl) Y ?_; clear Y
          have Y : (execOp a72.eval o11_5_9).run Try.prog w74 = .ok (.value (.int .i64 (ma + (L : Int)))) w74 := by unfold o11_5_9; go_simp
          refine st_val g11_5_9 rfl (wanted_free rfl) Y fun a75 e => ?_; clear Y
          have g8 := R.at_ e (by decide); replace R := R.put e; replace h1 := slot_on e h1 (by decide); replace h2 := slot_on e h2 (by decide); replace h3 := slot_on e h3 (by decide); replace h6 := slot_on e h6 (by decide); replace h7 := slot_on e h7 (by decide); replace h49 := slot_on e h49 (by decide); clear h47 h48; have h8 := g8; clear g8; clear e
          have Y : (execOp a75.eval o11_5_10).run Try.prog w74 = .ok (.value (.int .i64 0)) w74 := by unfold o11_5_10; go_simp
          refine st_val g11_5_10 rfl (wanted_free rfl) Y fun a77 e => ?_; clear Y
          have g9 := R.at_ e (by decide); replace R := R.put e; replace h1 := slot_on e h1 (by decide); replace h2 := slot_on e h2 (by decide); replace h3 := slot_on e h3 (by decide); replace h6 := slot_on e h6 (by decide); replace h7 := slot_on e h7 (by decide); replace h8 := slot_on e h8 (by decide); clear h49; have h9 := g9; clear g9; clear e
          refine st_end ?_
          change (c11_20).wp _ _ _ _
          refine wp_seq (x := c11_21) (y := c11_22) ?_
          change (Code.region 6 O11_6 false).wp _ _ _ _
          refine reg_in (l := [0, 1, 2, 3, 4, 5, 6, 7, 8, 9, 10]) rfl ?_
          have Y : (execOp a77.eval o11_6_0).run Try.prog w74 = .ok (.value (.agg #[.int .i64 xa.k, .string (str xa.nm), .int .i64 xa.i, .slice p1 xa.args.length q1])) w74 := by have qq0 : w74.cell? ⟨b70, 0, none⟩ = some (.int .i64 xa.k) := B70.cell 0; have qq1 : w74.cell? ⟨b70, 1, none⟩ = some (.string (str xa.nm)) := B70.cell 1; have qq2 : w74.cell? ⟨b70, 2, none⟩ = some (.int .i64 xa.i) := B70.cell 2; have qq3 : w74.cell? ⟨b70, 3, none⟩ = some (.slice p1 xa.args.length q1) := B70.cell 3; unfold o11_6_0; go_simp
          refine st_val g11_6_0 rfl (wanted_free rfl) Y fun a79 e => ?_; clear Y
          have g51 := R.at_ e (by decide); replace R := R.put e; replace h1 := slot_on e h1 (by decide); replace h2 := slot_on e h2 (by decide); replace h3 := slot_on e h3 (by decide); replace h6 := slot_on e h6 (by decide); replace h7 := slot_on e h7 (by decide); replace h8 := slot_on e h8 (by decide); replace h9 := slot_on e h9 (by decide); have h51 := g51; clear g51; clear e
          have Y : (execOp a79.eval o11_6_1).run Try.prog w74 = .ok (.value (.int .i64 mb)) w74 := by unfold o11_6_1; go_simp
          refine st_val g11_6_1 rfl (wanted_free rfl) Y fun a81 e => ?_; clear Y
          have g52 := R.at_ e (by decide); replace R := R.put e; replace h1 := slot_on e h1 (by decide); replace h2 := slot_on e h2 (by decide); replace h3 := slot_on e h3 (by decide); replace h6 := slot_on e h6 (by decide); replace h7 := slot_on e h7 (by decide); replace h8 := slot_on e h8 (by decide); replace h9 := slot_on e h9 (by decide); replace h51 := slot_on e h51 (by decide); have h52 := g52; clear g52; clear e
          have Y : (execOp a81.eval o11_6_2).run Try.prog w74 = .ok (.enter 32 #[.agg #[.int .i64 xa.k, .string (str xa.nm), .int .i64 xa.i, .slice p1 xa.args.length q1], .int .i64 mb]) w74 := by unfold o11_6_2; go_simp
          refine st_call g11_6_2 rfl (wanted_free rfl) Y ((rename_sx (HX1.out.on KX1) HW.out.2 V2.out).mono ?_); clear Y
          rintro e9 w83 ⟨p2, q2, rfl, hx, kk⟩
          replace K1 := keep_onto K1 kk
          replace KX1 := keep_onto KX1 kk
          replace B1 := blk_on B1 kk
          replace B70 := blk_on B70 kk
          clear kk
          have HX2 := Lib.hid hx; clear hx
          have KX2 := Keep.refl (fun g => g < w83.heap.size) w83
          refine ⟨_, rfl, fun a84 e => ?_⟩
          have g53 := R.at_ e (by decide); replace R := R.put e; replace h1 := slot_on e h1 (by decide); replace h2 := slot_on e h2 (by decide); replace h3 := slot_on e h3 (by decide); replace h6 := slot_on e h6 (by decide); replace h7 := slot_on e h7 (by decide); replace h8 := slot_on e h8 (by decide); replace h9 := slot_on e h9 (by decide); clear h51 h52; have h53 := g53; clear g53; clear e
          have Y : (execOp a84.eval o11_6_3).run Try.prog w83 = .ok (.value (.tuple #[.agg #[.int .i64 zb.k, .string (str zb.nm), .int .i64 zb.i, .slice p2 zb.args.length q2], .int .i64 (mb + (L : Int)), .int .i64 0])) w83 := by unfold o11_6_3; go_simp
          refine st_val g11_6_3 rfl (wanted_free rfl) Y fun a86 e => ?_; clear Y
          have g50 := R.at_ e (by decide); replace R := R.put e; replace h1 := slot_on e h1 (by decide); replace h2 := slot_on e h2 (by decide); replace h3 := slot_on e h3 (by decide); replace h6 := slot_on e h6 (by decide); replace h7 := slot_on e h7 (by decide); replace h8 := slot_on e h8 (by decide); replace h9 := slot_on e h9 (by decide); clear h53; have h50 := g50; clear g50; clear e
          have Y : (execOp a86.eval o11_6_4).run Try.prog w83 = .ok (.value (.agg #[.int .i64 zb.k, .string (str zb.nm), .int .i64 zb.i, .slice p2 zb.args.length q2])) w83 := by unfold o11_6_4; go_simp
          refine st_val g11_6_4 rfl (wanted_free rfl) Y fun a88 e => ?_; clear Y
          have g54 := R.at_ e (by decide); replace R := R.put e; replace h1 := slot_on e h1 (by decide); replace h2 := slot_on e h2 (by decide); replace h3 := slot_on e h3 (by decide); replace h6 := slot_on e h6 (by decide); replace h7 := slot_on e h7 (by decide); replace h8 := slot_on e h8 (by decide); replace h9 := slot_on e h9 (by decide); replace h50 := slot_on e h50 (by decide); have h54 := g54; clear g54; clear e
          have Y : (execOp a88.eval o11_6_5).run Try.prog w83 = .ok (.value (.int .i64 (mb + (L : Int)))) w83 := by unfold o11_6_5; go_simp
          refine st_val g11_6_5 rfl (wanted_free rfl) Y fun a90 e => ?_; clear Y
          have g55 := R.at_ e (by decide); replace R := R.put e; replace h1 := slot_on e h1 (by decide); replace h2 := slot_on e h2 (by decide); replace h3 := slot_on e h3 (by decide); replace h6 := slot_on e h6 (by decide); replace h7 := slot_on e h7 (by decide); replace h8 := slot_on e h8 (by decide); replace h9 := slot_on e h9 (by decide); replace h50 := slot_on e h50 (by decide); replace h54 := slot_on e h54 (by decide); have h55 := g55; clear g55; clear e
          have Y : (execOp a90.eval o11_6_6).run Try.prog w83 = .ok (.value (.int .i64 0)) w83 := by unfold o11_6_6; go_simp
          refine st_val g11_6_6 rfl (wanted_free rfl) Y fun a92 e => ?_; clear Y
          have g56 := R.at_ e (by decide); replace R := R.put e; replace h1 := slot_on e h1 (by decide); replace h2 := slot_on e h2 (by decide); replace h3 := slot_on e h3 (by decide); replace h6 := slot_on e h6 (by decide); replace h7 := slot_on e h7 (by decide); replace h8 := slot_on e h8 (by decide); replace h9 := slot_on e h9 (by decide); replace h54 := slot_on e h54 (by decide); replace h55 := slot_on e h55 (by decide); clear h50; have h56 := g56; clear g56; clear e
          have MK1 := K1
          have MKX1 := KX1
          have MKX2 := KX2
          have Y : (execOp a92.eval o11_6_7).run Try.prog w83 = .ok (.value (.pointer (some ⟨w83.heap.size, 0, none⟩))) (w83.alloc (.cells #[.int .i64 0, .string (⟨#[]⟩), .int .i64 0, .slice none 0 0] 24)) := by unfold o11_6_7; go_simp
          have B94 := Blk.new w83 24 #[.int .i64 0, .string (⟨#[]⟩), .int .i64 0, .slice none 0 0]
          replace K1 := K1.alloc (.cells #[.int .i64 0, .string (⟨#[]⟩), .int .i64 0, .slice none 0 0] 24)
          replace KX1 := KX1.alloc (.cells #[.int .i64 0, .string (⟨#[]⟩), .int .i64 0, .slice none 0 0] 24)
          replace KX2 := KX2.alloc (.cells #[.int .i64 0, .string (⟨#[]⟩), .int .i64 0, .slice none 0 0] 24)
          have Nb1_b94 := Nat.ne_of_lt B1.lt; replace B1 := B1.alloc (.cells #[.int .i64 0, .string (⟨#[]⟩), .int .i64 0, .slice none 0 0] 24)
          have Nb70_b94 := Nat.ne_of_lt B70.lt; replace B70 := B70.alloc (.cells #[.int .i64 0, .string (⟨#[]⟩), .int .i64 0, .slice none 0 0] 24)
          obtain ⟨w95, hw95⟩ : ∃ x, x = w83.alloc (.cells #[.int .i64 0, .string (⟨#[]⟩), .int .i64 0, .slice none 0 0] 24) := ⟨_, rfl⟩
          rw [← hw95] at Y B94 K1 KX1 KX2 B1 B70
          obtain ⟨b94, hb94⟩ : ∃ x, x = w83.heap.size := ⟨_, rfl⟩
          rw [← hb94] at Y B94 Nb1_b94 Nb70_b94
          have LK1_b94 : W.heap.size ≤ b94 := by rw [hb94]; first | exact Nat.le_refl _ | exact MK1.size
          have LKX1_b94 : w59.heap.size ≤ b94 := by rw [hb94]; first | exact Nat.le_refl _ | exact MKX1.size
          have LKX2_b94 : w83.heap.size ≤ b94 := by rw [hb94]; first | exact Nat.le_refl _ | exact MKX2.size
          clear hw95 hb94 MK1 MKX1 MKX2
          refine st_val g11_6_7 rfl (wanted_free rfl) Y fun a96 e => ?_; clear Y
          have g10 := R.at_ e (by decide); replace R := R.put e; replace h1 := slot_on e h1 (by decide); replace h2 := slot_on e h2 (by decide); replace h3 := slot_on e h3 (by decide); replace h6 := slot_on e h6 (by decide); replace h7 := slot_on e h7 (by decide); replace h8 := slot_on e h8 (by decide); replace h9 := slot_on e h9 (by decide); replace h54 := slot_on e h54 (by decide); replace h55 := slot_on e h55 (by decide); replace h56 := slot_on e h56 (by decide); have h10 := g10; clear g10; clear e
          have Y : (execOp a96.eval o11_6_8).run Try.prog w95 = .ok .skip ((((w95.setCell ⟨b94, 0, none⟩ (.int .i64 zb.k)).setCell ⟨b94, 1, none⟩ (.string (str zb.nm))).setCell ⟨b94, 2, none⟩ (.int .i64 zb.i)).setCell ⟨b94, 3, none⟩ (.slice p2 zb.args.length q2)) := by have qq0 : w95.cell? ⟨b94, 0, none⟩ = some (.int .i64 0) := B94.cell 0; have qq1 : w95.cell? ⟨b94, 1, none⟩ = some (.string (⟨#[]⟩)) := B94.cell 1; have qq2 : w95.cell? ⟨b94, 2, none⟩ = some (.int .i64 0) := B94.cell 2; have qq3 : w95.cell? ⟨b94, 3, none⟩ = some (.slice none 0 0) := B94.cell 3; have z0 := B94.frozen 0; have z1 := B94.frozen 1; have z2 := B94.frozen 2; have z3 := B94.frozen 3; unfold o11_6_8; go_simp
          replace K1 := ((((K1.setCell (p := ⟨b94, 0, none⟩) (Nat.not_lt.2 LK1_b94) (.int .i64 zb.k)).setCell (p := ⟨b94, 1, none⟩) (Nat.not_lt.2 LK1_b94) (.string (str zb.nm))).setCell (p := ⟨b94, 2, none⟩) (Nat.not_lt.2 LK1_b94) (.int .i64 zb.i)).setCell (p := ⟨b94, 3, none⟩) (Nat.not_lt.2 LK1_b94) (.slice p2 zb.args.length q2))
          replace KX1 := ((((KX1.setCell (p := ⟨b94, 0, none⟩) (Nat.not_lt.2 LKX1_b94) (.int .i64 zb.k)).setCell (p := ⟨b94, 1, none⟩) (Nat.not_lt.2 LKX1_b94) (.string (str zb.nm))).setCell (p := ⟨b94, 2, none⟩) (Nat.not_lt.2 LKX1_b94) (.int .i64 zb.i)).setCell (p := ⟨b94, 3, none⟩) (Nat.not_lt.2 LKX1_b94) (.slice p2 zb.args.length q2))
          replace KX2 := ((((KX2.setCell (p := ⟨b94, 0, none⟩) (Nat.not_lt.2 LKX2_b94) (.int .i64 zb.k)).setCell (p := ⟨b94, 1, none⟩) (Nat.not_lt.2 LKX2_b94) (.string (str zb.nm))).setCell (p := ⟨b94, 2, none⟩) (Nat.not_lt.2 LKX2_b94) (.int .i64 zb.i)).setCell (p := ⟨b94, 3, none⟩) (Nat.not_lt.2 LKX2_b94) (.slice p2 zb.args.length q2))
          replace B1 := ((((B1.far (p := ⟨b94, 0, none⟩) Nb1_b94 (.int .i64 zb.k)).far (p := ⟨b94, 1, none⟩) Nb1_b94 (.string (str zb.nm))).far (p := ⟨b94, 2, none⟩) Nb1_b94 (.int .i64 zb.i)).far (p := ⟨b94, 3, none⟩) Nb1_b94 (.slice p2 zb.args.length q2))
          replace B70 := ((((B70.far (p := ⟨b94, 0, none⟩) Nb70_b94 (.int .i64 zb.k)).far (p := ⟨b94, 1, none⟩) Nb70_b94 (.string (str zb.nm))).far (p := ⟨b94, 2, none⟩) Nb70_b94 (.int .i64 zb.i)).far (p := ⟨b94, 3, none⟩) Nb70_b94 (.slice p2 zb.args.length q2))
          replace B94 : Blk ((((w95.setCell ⟨b94, 0, none⟩ (.int .i64 zb.k)).setCell ⟨b94, 1, none⟩ (.string (str zb.nm))).setCell ⟨b94, 2, none⟩ (.int .i64 zb.i)).setCell ⟨b94, 3, none⟩ (.slice p2 zb.args.length q2)) b94 24 #[.int .i64 zb.k, .string (str zb.nm), .int .i64 zb.i, .slice p2 zb.args.length q2] := ((((B94.set_ 0 (.int .i64 zb.k)).set_ 1 (.string (str zb.nm))).set_ 2 (.int .i64 zb.i)).set_ 3 (.slice p2 zb.args.length q2))
          generalize ((((w95.setCell ⟨b94, 0, none⟩ (.int .i64 zb.k)).setCell ⟨b94, 1, none⟩ (.string (str zb.nm))).setCell ⟨b94, 2, none⟩ (.int .i64 zb.i)).setCell ⟨b94, 3, none⟩ (.slice p2 zb.args.length q2)) = w98 at Y K1 KX1 KX2 B1 B70 B94
          refine st_skip g11_6_8 rfl (wanted_free rfl) Y ?_; clear Y
          have Y : (execOp a96.eval o11_6_9).run Try.prog w98 = .ok (.value (.int .i64 (mb + (L : Int)))) w98 := by unfold o11_6_9; go_simp
          refine st_val g11_6_9 rfl (wanted_free rfl) Y fun a99 e => ?_; clear Y
          have g11 := R.at_ e (by decide); replace R := R.put e; replace h1 := slot_on e h1 (by decide); replace h2 := slot_on e h2 (by decide); replace h3 := slot_on e h3 (by decide); replace h6 := slot_on e h6 (by decide); replace h7 := slot_on e h7 (by decide); replace h8 := slot_on e h8 (by decide); replace h9 := slot_on e h9 (by decide); replace h10 := slot_on e h10 (by decide); replace h56 := slot_on e h56 (by decide); clear h54 h55; have h11 := g11; clear g11; clear e
          have Y : (execOp a99.eval o11_6_10).run Try.prog w98 = .ok (.value (.int .i64 0)) w98 := by unfold o11_6_10; go_simp
          refine st_val g11_6_10 rfl (wanted_free rfl) Y fun a101 e => ?_; clear Y
          have g12 := R.at_ e (by decide); replace R := R.put e; replace h1 := slot_on e h1 (by decide); replace h2 := slot_on e h2 (by decide); replace h3 := slot_on e h3 (by decide); replace h6 := slot_on e h6 (by decide); replace h7 := slot_on e h7 (by decide); replace h8 := slot_on e h8 (by decide); replace h9 := slot_on e h9 (by decide); replace h10 := slot_on e h10 (by decide); replace h11 := slot_on e h11 (by decide); clear h56; have h12 := g12; clear g12; clear e
          refine st_end ?_
          change (c11_22).wp _ _ _ _
          refine wp_seq (x := c11_23) (y := c11_24) ?_
          change (Code.region 7 O11_7 false).wp _ _ _ _
          refine reg_in (l := [0, 1, 2, 3, 4, 5, 6, 7, 8, 9, 10]) rfl ?_
          have Y : (execOp a101.eval o11_7_0).run Try.prog w98 = .ok (.value (.agg #[.int .i64 t.k, .string (str t.nm), .int .i64 t.i, .slice ta t.args.length tc])) w98 := by have qq0 : w98.cell? ⟨b1, 0, none⟩ = some (.int .i64 t.k) := B1.cell 0; have qq1 : w98.cell? ⟨b1, 1, none⟩ = some (.string (str t.nm)) := B1.cell 1; have qq2 : w98.cell? ⟨b1, 2, none⟩ = some (.int .i64 t.i) := B1.cell 2; have qq3 : w98.cell? ⟨b1, 3, none⟩ = some (.slice ta t.args.length tc) := B1.cell 3; unfold o11_7_0; go_simp
          refine st_val g11_7_0 rfl (wanted_free rfl) Y fun a103 e => ?_; clear Y
          have g58 := R.at_ e (by decide); replace R := R.put e; replace h1 := slot_on e h1 (by decide); replace h2 := slot_on e h2 (by decide); replace h3 := slot_on e h3 (by decide); replace h6 := slot_on e h6 (by decide); replace h7 := slot_on e h7 (by decide); replace h8 := slot_on e h8 (by decide); replace h9 := slot_on e h9 (by decide); replace h10 := slot_on e h10 (by decide); replace h11 := slot_on e h11 (by decide); replace h12 := slot_on e h12 (by decide); have h58 := g58; clear g58; clear e
          have Y : (execOp a103.eval o11_7_1).run Try.prog w98 = .ok (.value (.int .i64 mb)) w98 := by unfold o11_7_1; go_simp
          refine st_val g11_7_1 rfl (wanted_free rfl) Y fun a105 e => ?_; clear Y
          have g59 := R.at_ e (by decide); replace R := R.put e; replace h1 := slot_on e h1 (by decide); replace h2 := slot_on e h2 (by decide); replace h3 := slot_on e h3 (by decide); replace h6 := slot_on e h6 (by decide); replace h7 := slot_on e h7 (by decide); replace h8 := slot_on e h8 (by decide); replace h9 := slot_on e h9 (by decide); replace h10 := slot_on e h10 (by decide); replace h11 := slot_on e h11 (by decide); replace h12 := slot_on e h12 (by decide); replace h58 := slot_on e h58 (by decide); have h59 := g59; clear g59; clear e
          have Y : (execOp a105.eval o11_7_2).run Try.prog w98 = .ok (.enter 32 #[.agg #[.int .i64 t.k, .string (str t.nm), .int .i64 t.i, .slice ta t.args.length tc], .int .i64 mb]) w98 := by unfold o11_7_2; go_simp
          refine st_call g11_7_2 rfl (wanted_free rfl) Y ((rename_sx (HT.out.on K1) HW.out.2 V3.out).mono ?_); clear Y
          rintro e9 w107 ⟨p3, q3, rfl, hx, kk⟩
          replace K1 := keep_onto K1 kk
          replace KX1 := keep_onto KX1 kk
          replace KX2 := keep_onto KX2 kk
          replace B1 := blk_on B1 kk
          replace B70 := blk_on B70 kk
          replace B94 := blk_on B94 kk
          clear kk
          have HX3 := Lib.hid hx; clear hx
          have KX3 := Keep.refl (fun g => g < w107.heap.size) w107
          refine ⟨_, rfl, fun a108 e => ?_⟩
          have g60 := R.at_ e (by decide); replace R := R.put e; replace h1 := slot_on e h1 (by decide); replace h2 := slot_on e h2 (by decide); replace h3 := slot_on e h3 (by decide); replace h6 := slot_on e h6 (by decide); replace h7 := slot_on e h7 (by decide); replace h8 := slot_on e h8 (by decide); replace h9 := slot_on e h9 (by decide); replace h10 := slot_on e h10 (by decide); replace h11 := slot_on e h11 (by decide); replace h12 := slot_on e h12 (by decide); clear h58 h59; have h60 := g60; clear g60; clear e
          have Y : (execOp a108.eval o11_7_3).run Try.prog w107 = .ok (.value (.tuple #[.agg #[.int .i64 zb.k, .string (str zb.nm), .int .i64 zb.i, .slice p3 zb.args.length q3], .int .i64 (mb + (L : Int)), .int .i64 0])) w107 := by unfold o11_7_3; go_simp
          refine st_val g11_7_3 rfl (wanted_free rfl) Y fun a110 e => ?_; clear Y
          have g57 := R.at_ e (by decide); replace R := R.put e; replace h1 := slot_on e h1 (by decide); replace h2 := slot_on e h2 (by decide); replace h3 := slot_on e h3 (by decide); replace h6 := slot_on e h6 (by decide); replace h7 := slot_on e h7 (by decide); replace h8 := slot_on e h8 (by decide); replace h9 := slot_on e h9 (by decide); replace h10 := slot_on e h10 (by decide); replace h11 := slot_on e h11 (by decide); replace h12 := slot_on e h12 (by decide); clear h60; have h57 := g57; clear g57; clear e
          have Y : (execOp a110.eval o11_7_4).run Try.prog w107 = .ok (.value (.agg #[.int .i64 zb.k, .string (str zb.nm), .int .i64 zb.i, .slice p3 zb.args.length q3])) w107 := by unfold o11_7_4; go_simp
          refine st_val g11_7_4 rfl (wanted_free rfl) Y fun a112 e => ?_; clear Y
          have g61 := R.at_ e (by decide); replace R := R.put e; replace h1 := slot_on e h1 (by decide); replace h2 := slot_on e h2 (by decide); replace h3 := slot_on e h3 (by decide); replace h6 := slot_on e h6 (by decide); replace h7 := slot_on e h7 (by decide); replace h8 := slot_on e h8 (by decide); replace h9 := slot_on e h9 (by decide); replace h10 := slot_on e h10 (by decide); replace h11 := slot_on e h11 (by decide); replace h12 := slot_on e h12 (by decide); replace h57 := slot_on e h57 (by decide); have h61 := g61; clear g61; clear e
          have Y : (execOp a112.eval o11_7_5).run Try.prog w107 = .ok (.value (.int .i64 (mb + (L : Int)))) w107 := by unfold o11_7_5; go_simp
          refine st_val g11_7_5 rfl (wanted_free rfl) Y fun a114 e => ?_; clear Y
          have g62 := R.at_ e (by decide); replace R := R.put e; replace h1 := slot_on e h1 (by decide); replace h2 := slot_on e h2 (by decide); replace h3 := slot_on e h3 (by decide); replace h6 := slot_on e h6 (by decide); replace h7 := slot_on e h7 (by decide); replace h8 := slot_on e h8 (by decide); replace h9 := slot_on e h9 (by decide); replace h10 := slot_on e h10 (by decide); replace h11 := slot_on e h11 (by decide); replace h12 := slot_on e h12 (by decide); replace h57 := slot_on e h57 (by decide); replace h61 := slot_on e h61 (by decide); have h62 := g62; clear g62; clear e
          have Y : (execOp a114.eval o11_7_6).run Try.prog w107 = .ok (.value (.int .i64 0)) w107 := by unfold o11_7_6; go_simp
          refine st_val g11_7_6 rfl (wanted_free rfl) Y fun a116 e => ?_; clear Y
          have g63 := R.at_ e (by decide); replace R := R.put e; replace h1 := slot_on e h1 (by decide); replace h2 := slot_on e h2 (by decide); replace h3 := slot_on e h3 (by decide); replace h6 := slot_on e h6 (by decide); replace h7 := slot_on e h7 (by decide); replace h8 := slot_on e h8 (by decide); replace h9 := slot_on e h9 (by decide); replace h10 := slot_on e h10 (by decide); replace h11 := slot_on e h11 (by decide); replace h12 := slot_on e h12 (by decide); replace h61 := slot_on e h61 (by decide); replace h62 := slot_on e h62 (by decide); clear h57; have h63 := g63; clear g63; clear e
          have MK1 := K1
          have MKX1 := KX1
          have MKX2 := KX2
          have MKX3 := KX3
          have Y : (execOp a116.eval o11_7_7).run Try.prog w107 = .ok (.value (.pointer (some ⟨w107.heap.size, 0, none⟩))) (w107.alloc (.cells #[.int .i64 0, .string (⟨#[]⟩), .int .i64 0, .slice none 0 0] 24)) := by unfold o11_7_7; go_simp
          have B118 := Blk.new w107 24 #[.int .i64 0, .string (⟨#[]⟩), .int .i64 0, .slice none 0 0]
          replace K1 := K1.alloc (.cells #[.int .i64 0, .string (⟨#[]⟩), .int .i64 0, .slice none 0 0] 24)
          replace KX1 := KX1.alloc (.cells #[.int .i64 0, .string (⟨#[]⟩), .int .i64 0, .slice none 0 0] 24)
          replace KX2 := KX2.alloc (.cells #[.int .i64 0, .string (⟨#[]⟩), .int .i64 0, .slice none 0 0] 24)
          replace KX3 := KX3.alloc (.cells #[.int .i64 0, .string (⟨#[]⟩), .int .i64 0, .slice none 0 0] 24)
          have Nb1_b118 := Nat.ne_of_lt B1.lt; replace B1 := B1.alloc (.cells #[.int .i64 0, .string (⟨#[]⟩), .int .i64 0, .slice none 0 0] 24)
          have Nb70_b118 := Nat.ne_of_lt B70.lt; replace B70 := B70.alloc (.cells #[.int .i64 0, .string (⟨#[]⟩), .int .i64 0, .slice none 0 0] 24)
          have Nb94_b118 := Nat.ne_of_lt B94.lt; replace B94 := B94.alloc (.cells #[.int .i64 0, .string (⟨#[]⟩), .int .i64 0, .slice none 0 0] 24)
          obtain ⟨w119, hw119⟩ : ∃ x, x = w107.alloc (.cells #[.int .i64 0, .string (⟨#[]⟩), .int .i64 0, .slice none 0 0] 24) := ⟨_, rfl⟩
          rw [← hw119] at Y B118 K1 KX1 KX2 KX3 B1 B70 B94
          obtain ⟨b118, hb118⟩ : ∃ x, x = w107.heap.size := ⟨_, rfl⟩
          rw [← hb118] at Y B118 Nb1_b118 Nb70_b118 Nb94_b118
          have LK1_b118 : W.heap.size ≤ b118 := by rw [hb118]; first | exact Nat.le_refl _ | exact MK1.size
          have LKX1_b118 : w59.heap.size ≤ b118 := by rw [hb118]; first | exact Nat.le_refl _ | exact MKX1.size
          have LKX2_b118 : w83.heap.size ≤ b118 := by rw [hb118]; first | exact Nat.le_refl _ | exact MKX2.size
          have LKX3_b118 : w107.heap.size ≤ b118 := by rw [hb118]; first | exact Nat.le_refl _ | exact MKX3.size
          clear hw119 hb118 MK1 MKX1 MKX2 MKX3
          refine st_val g11_7_7 rfl (wanted_free rfl) Y fun a120 e => ?_; clear Y
          have g13 := R.at_ e (by decide); replace R := R.put e; replace h1 := slot_on e h1 (by decide); replace h2 := slot_on e h2 (by decide); replace h3 := slot_on e h3 (by decide); replace h6 := slot_on e h6 (by decide); replace h7 := slot_on e h7 (by decide); replace h8 := slot_on e h8 (by decide); replace h9 := slot_on e h9 (by decide); replace h10 := slot_on e h10 (by decide); replace h11 := slot_on e h11 (by decide); replace h12 := slot_on e h12 (by decide); replace h61 := slot_on e h61 (by decide); replace h62 := slot_on e h62 (by decide); replace h63 := slot_on e h63 (by decide); have h13 := g13; clear g13; clear e
          have Y : (execOp a120.eval o11_7_8).run Try.prog w119 = .ok .skip ((((w119.setCell ⟨b118, 0, none⟩ (.int .i64 zb.k)).setCell ⟨b118, 1, none⟩ (.string (str zb.nm))).setCell ⟨b118, 2, none⟩ (.int .i64 zb.i)).setCell ⟨b118, 3, none⟩ (.slice p3 zb.args.length q3)) := by have qq0 : w119.cell? ⟨b118, 0, none⟩ = some (.int .i64 0) := B118.cell 0; have qq1 : w119.cell? ⟨b118, 1, none⟩ = some (.string (⟨#[]⟩)) := B118.cell 1; have qq2 : w119.cell? ⟨b118, 2, none⟩ = some (.int .i64 0) := B118.cell 2; have qq3 : w119.cell? ⟨b118, 3, none⟩ = some (.slice none 0 0) := B118.cell 3; have z0 := B118.frozen 0; have z1 := B118.frozen 1; have z2 := B118.frozen 2; have z3 := B118.frozen 3; unfold o11_7_8; go_simp
          replace K1 := ((((K1.setCell (p := ⟨b118, 0, none⟩) (Nat.not_lt.2 LK1_b118) (.int .i64 zb.k)).setCell (p := ⟨b118, 1, none⟩) (Nat.not_lt.2 LK1_b118) (.string (str zb.nm))).setCell (p := ⟨b118, 2, none⟩) (Nat.not_lt.2 LK1_b118) (.int .i64 zb.i)).setCell (p := ⟨b118, 3, none⟩) (Nat.not_lt.2 LK1_b118) (.slice p3 zb.args.length q3))
          replace KX1 := ((((KX1.setCell (p := ⟨b118, 0, none⟩) (Nat.not_lt.2 LKX1_b118) (.int .i64 zb.k)).setCell (p := ⟨b118, 1, none⟩) (Nat.not_lt.2 LKX1_b118) (.string (str zb.nm))).setCell (p := ⟨b118, 2, none⟩) (Nat.not_lt.2 LKX1_b118) (.int .i64 zb.i)).setCell (p := ⟨b118, 3, none⟩) (Nat.not_lt.2 LKX1_b118) (.slice p3 zb.args.length q3))
          replace KX2 := ((((KX2.setCell (p := ⟨b118, 0, none⟩) (Nat.not_lt.2 LKX2_b118) (.int .i64 zb.k)).setCell (p := ⟨b118, 1, none⟩) (Nat.not_lt.2 LKX2_b118) (.string (str zb.nm))).setCell (p := ⟨b118, 2, none⟩) (Nat.not_lt.2 LKX2_b118) (.int .i64 zb.i)).setCell (p := ⟨b118, 3, none⟩) (Nat.not_lt.2 LKX2_b118) (.slice p3 zb.args.length q3))
          replace KX3 := ((((KX3.setCell (p := ⟨b118, 0, none⟩) (Nat.not_lt.2 LKX3_b118) (.int .i64 zb.k)).setCell (p := ⟨b118, 1, none⟩) (Nat.not_lt.2 LKX3_b118) (.string (str zb.nm))).setCell (p := ⟨b118, 2, none⟩) (Nat.not_lt.2 LKX3_b118) (.int .i64 zb.i)).setCell (p := ⟨b118, 3, none⟩) (Nat.not_lt.2 LKX3_b118) (.slice p3 zb.args.length q3))
          replace B1 := ((((B1.far (p := ⟨b118, 0, none⟩) Nb1_b118 (.int .i64 zb.k)).far (p := ⟨b118, 1, none⟩) Nb1_b118 (.string (str zb.nm))).far (p := ⟨b118, 2, none⟩) Nb1_b118 (.int .i64 zb.i)).far (p := ⟨b118, 3, none⟩) Nb1_b118 (.slice p3 zb.args.length q3))
          replace B70 := ((((B70.far (p := ⟨b118, 0, none⟩) Nb70_b118 (.int .i64 zb.k)).far (p := ⟨b118, 1, none⟩) Nb70_b118 (.string (str zb.nm))).far (p := ⟨b118, 2, none⟩) Nb70_b118 (.int .i64 zb.i)).far (p := ⟨b118, 3, none⟩) Nb70_b118 (.slice p3 zb.args.length q3))
          replace B94 := ((((B94.far (p := ⟨b118, 0, none⟩) Nb94_b118 (.int .i64 zb.k)).far (p := ⟨b118, 1, none⟩) Nb94_b118 (.string (str zb.nm))).far (p := ⟨b118, 2, none⟩) Nb94_b118 (.int .i64 zb.i)).far (p := ⟨b118, 3, none⟩) Nb94_b118 (.slice p3 zb.args.length q3))
          replace B118 : Blk ((((w119.setCell ⟨b118, 0, none⟩ (.int .i64 zb.k)).setCell ⟨b118, 1, none⟩ (.string (str zb.nm))).setCell ⟨b118, 2, none⟩ (.int .i64 zb.i)).setCell ⟨b118, 3, none⟩ (.slice p3 zb.args.length q3)) b118 24 #[.int .i64 zb.k, .string (str zb.nm), .int .i64 zb.i, .slice p3 zb.args.length q3] := ((((B118.set_ 0 (.int .i64 zb.k)).set_ 1 (.string (str zb.nm))).set_ 2 (.int .i64 zb.i)).set_ 3 (.slice p3 zb.args.length q3))
          generalize ((((w119.setCell ⟨b118, 0, none⟩ (.int .i64 zb.k)).setCell ⟨b118, 1, none⟩ (.string (str zb.nm))).setCell ⟨b118, 2, none⟩ (.int .i64 zb.i)).setCell ⟨b118, 3, none⟩ (.slice p3 zb.args.length q3)) = w122 at Y K1 KX1 KX2 KX3 B1 B70 B94 B118
          refine st_skip g11_7_8 rfl (wanted_free rfl) Y ?_; clear Y
          have Y : (execOp a120.eval o11_7_9).run Try.prog w122 = .ok (.value (.int .i64 (mb + (L : Int)))) w122 := by unfold o11_7_9; go_simp
          refine st_val g11_7_9 rfl (wanted_free rfl) Y fun a123 e => ?_; clear Y
          have g14 := R.at_ e (by decide); replace R := R.put e; replace h1 := slot_on e h1 (by decide); replace h2 := slot_on e h2 (by decide); replace h3 := slot_on e h3 (by decide); replace h6 := slot_on e h6 (by decide); replace h7 := slot_on e h7 (by decide); replace h8 := slot_on e h8 (by decide); replace h9 := slot_on e h9 (by decide); replace h10 := slot_on e h10 (by decide); replace h11 := slot_on e h11 (by decide); replace h12 := slot_on e h12 (by decide); replace h13 := slot_on e h13 (by decide); replace h63 := slot_on e h63 (by decide); clear h61 h62; have h14 := g14; clear g14; clear e
          have Y : (execOp a123.eval o11_7_10).run Try.prog w122 = .ok (.value (.int .i64 0)) w122 := by unfold o11_7_10; go_simp
          refine st_val g11_7_10 rfl (wanted_free rfl) Y fun a125 e => ?_; clear Y
          have g15 := R.at_ e (by decide); replace R := R.put e; replace h1 := slot_on e h1 (by decide); replace h2 := slot_on e h2 (by decide); replace h3 := slot_on e h3 (by decide); replace h6 := slot_on e h6 (by decide); replace h7 := slot_on e h7 (by decide); replace h8 := slot_on e h8 (by decide); replace h9 := slot_on e h9 (by decide); replace h10 := slot_on e h10 (by decide); replace h11 := slot_on e h11 (by decide); replace h12 := slot_on e h12 (by decide); replace h13 := slot_on e h13 (by decide); replace h14 := slot_on e h14 (by decide); clear h63; have h15 := g15; clear g15; clear e
          refine st_end ?_
          change (c11_24).wp _ _ _ _
          refine wp_seq (x := c11_25) (y := c11_32) ?_
          refine wp_seq (x := c11_26) (y := c11_27) ?_
          change (Code.region 8 O11_8 false).wp _ _ _ _
          refine reg_in (l := [0, 1, 2, 3, 4, 5, 6, 7, 8, 9, 10, 11, 12, 13, 14, 15, 16, 17, 18, 19, 20, 21, 22, 23, 24, 25, 26, 27, 28, 29]) rfl ?_
          have Y : (execOp a125.eval o11_8_0).run Try.prog w122 = .ok (.value (.int .i64 0)) w122 := by unfold o11_8_0; go_simp
          refine st_val g11_8_0 rfl (wanted_free rfl) Y fun a127 e => ?_; clear Y
          have g64 := R.at_ e (by decide); replace R := R.put e; replace h1 := slot_on e h1 (by decide); replace h2 := slot_on e h2 (by decide); replace h3 := slot_on e h3 (by decide); replace h6 := slot_on e h6 (by decide); replace h7 := slot_on e h7 (by decide); replace h8 := slot_on e h8 (by decide); replace h10 := slot_on e h10 (by decide); replace h11 := slot_on e h11 (by decide); replace h12 := slot_on e h12 (by decide); replace h13 := slot_on e h13 (by decide); replace h14 := slot_on e h14 (by decide); replace h15 := slot_on e h15 (by decide); clear h9; have h64 := g64; clear g64; clear e
          have Y : (execOp a127.eval o11_8_1).run Try.prog w122 = .ok (.value (.bool false)) w122 := by unfold o11_8_1; go_simp
          refine st_val g11_8_1 rfl (wanted_free rfl) Y fun a129 e => ?_; clear Y
          have g65 := R.at_ e (by decide); replace R := R.put e; replace h1 := slot_on e h1 (by decide); replace h2 := slot_on e h2 (by decide); replace h3 := slot_on e h3 (by decide); replace h6 := slot_on e h6 (by decide); replace h7 := slot_on e h7 (by decide); replace h8 := slot_on e h8 (by decide); replace h10 := slot_on e h10 (by decide); replace h11 := slot_on e h11 (by decide); replace h12 := slot_on e h12 (by decide); replace h13 := slot_on e h13 (by decide); replace h14 := slot_on e h14 (by decide); replace h15 := slot_on e h15 (by decide); clear h64; have h65 := g65; clear g65; clear e
          have Y : (execOp a129.eval o11_8_2).run Try.prog w122 = .ok (.value (.bool false)) w122 := by unfold o11_8_2; go_simp
          refine st_val g11_8_2 rfl (wanted_free rfl) Y fun a131 e => ?_; clear Y
          have g66 := R.at_ e (by decide); replace R := R.put e; replace h1 := slot_on e h1 (by decide); replace h2 := slot_on e h2 (by decide); replace h3 := slot_on e h3 (by decide); replace h6 := slot_on e h6 (by decide); replace h7 := slot_on e h7 (by decide); replace h8 := slot_on e h8 (by decide); replace h10 := slot_on e h10 (by decide); replace h11 := slot_on e h11 (by decide); replace h12 := slot_on e h12 (by decide); replace h13 := slot_on e h13 (by decide); replace h14 := slot_on e h14 (by decide); replace h15 := slot_on e h15 (by decide); clear h65; have h66 := g66; clear g66; clear e
          have Y : (execOp a131.eval o11_8_3).run Try.prog w122 = .ok (.value (.int .i64 0)) w122 := by unfold o11_8_3; go_simp
          refine st_val g11_8_3 rfl (wanted_is (j := 2) (d := 66) rfl rfl h66 rfl) Y fun a133 e => ?_; clear Y
          have g67 := R.at_ e (by decide); replace R := R.put e; replace h1 := slot_on e h1 (by decide); replace h2 := slot_on e h2 (by decide); replace h3 := slot_on e h3 (by decide); replace h6 := slot_on e h6 (by decide); replace h7 := slot_on e h7 (by decide); replace h8 := slot_on e h8 (by decide); replace h10 := slot_on e h10 (by decide); replace h11 := slot_on e h11 (by decide); replace h13 := slot_on e h13 (by decide); replace h14 := slot_on e h14 (by decide); replace h15 := slot_on e h15 (by decide); replace h66 := slot_on e h66 (by decide); clear h12; have h67 := g67; clear g67; clear e
          have Y : (execOp a133.eval o11_8_4).run Try.prog w122 = .ok (.value (.bool false)) w122 := by unfold o11_8_4; go_simp
          refine st_val g11_8_4 rfl (wanted_is (j := 2) (d := 66) rfl rfl h66 rfl) Y fun a135 e => ?_; clear Y
          have g68 := R.at_ e (by decide); replace R := R.put e; replace h1 := slot_on e h1 (by decide); replace h2 := slot_on e h2 (by decide); replace h3 := slot_on e h3 (by decide); replace h6 := slot_on e h6 (by decide); replace h7 := slot_on e h7 (by decide); replace h8 := slot_on e h8 (by decide); replace h10 := slot_on e h10 (by decide); replace h11 := slot_on e h11 (by decide); replace h13 := slot_on e h13 (by decide); replace h14 := slot_on e h14 (by decide); replace h15 := slot_on e h15 (by decide); replace h66 := slot_on e h66 (by decide); clear h67; have h68 := g68; clear g68; clear e
          have Y : (execOp a135.eval o11_8_5).run Try.prog w122 = .ok (.value (.bool false)) w122 := by unfold o11_8_5; go_simp
          refine st_val g11_8_5 rfl (wanted_free rfl) Y fun a137 e => ?_; clear Y
          have g69 := R.at_ e (by decide); replace R := R.put e; replace h1 := slot_on e h1 (by decide); replace h2 := slot_on e h2 (by decide); replace h3 := slot_on e h3 (by decide); replace h6 := slot_on e h6 (by decide); replace h7 := slot_on e h7 (by decide); replace h8 := slot_on e h8 (by decide); replace h10 := slot_on e h10 (by decide); replace h11 := slot_on e h11 (by decide); replace h13 := slot_on e h13 (by decide); replace h14 := slot_on e h14 (by decide); replace h15 := slot_on e h15 (by decide); clear h66 h68; have h69 := g69; clear g69; clear e
          have Y : (execOp a137.eval o11_8_6).run Try.prog w122 = .ok (.value (.bool false)) w122 := by unfold o11_8_6; go_simp
          refine st_val g11_8_6 rfl (wanted_free rfl) Y fun a139 e => ?_; clear Y
          have g70 := R.at_ e (by decide); replace R := R.put e; replace h1 := slot_on e h1 (by decide); replace h2 := slot_on e h2 (by decide); replace h3 := slot_on e h3 (by decide); replace h6 := slot_on e h6 (by decide); replace h7 := slot_on e h7 (by decide); replace h8 := slot_on e h8 (by decide); replace h10 := slot_on e h10 (by decide); replace h11 := slot_on e h11 (by decide); replace h13 := slot_on e h13 (by decide); replace h14 := slot_on e h14 (by decide); replace h15 := slot_on e h15 (by decide); clear h69; have h70 := g70; clear g70; clear e
          have Y : (execOp a139.eval o11_8_7).run Try.prog w122 = .ok (.value (.int .i64 0)) w122 := by unfold o11_8_7; go_simp
          refine st_val g11_8_7 rfl (wanted_is (j := 6) (d := 70) rfl rfl h70 rfl) Y fun a141 e => ?_; clear Y
          have g71 := R.at_ e (by decide); replace R := R.put e; replace h1 := slot_on e h1 (by decide); replace h2 := slot_on e h2 (by decide); replace h3 := slot_on e h3 (by decide); replace h6 := slot_on e h6 (by decide); replace h7 := slot_on e h7 (by decide); replace h8 := slot_on e h8 (by decide); replace h10 := slot_on e h10 (by decide); replace h11 := slot_on e h11 (by decide); replace h13 := slot_on e h13 (by decide); replace h14 := slot_on e h14 (by decide); replace h70 := slot_on e h70 (by decide); clear h15; have h71 := g71; clear g71; clear e
          have Y : (execOp a141.eval o11_8_8).run Try.prog w122 = .ok (.value (.bool false)) w122 := by unfold o11_8_8; go_simp
          refine st_val g11_8_8 rfl (wanted_is (j := 6) (d := 70) rfl rfl h70 rfl) Y fun a143 e => ?_; clear Y
          have g72 := R.at_ e (by decide); replace R := R.put e; replace h1 := slot_on e h1 (by decide); replace h2 := slot_on e h2 (by decide); replace h3 := slot_on e h3 (by decide); replace h6 := slot_on e h6 (by decide); replace h7 := slot_on e h7 (by decide); replace h8 := slot_on e h8 (by decide); replace h10 := slot_on e h10 (by decide); replace h11 := slot_on e h11 (by decide); replace h13 := slot_on e h13 (by decide); replace h14 := slot_on e h14 (by decide); replace h70 := slot_on e h70 (by decide); clear h71; have h72 := g72; clear g72; clear e
          have Y : (execOp a143.eval o11_8_9).run Try.prog w122 = .ok (.value (.bool false)) w122 := by unfold o11_8_9; go_simp
          refine st_val g11_8_9 rfl (wanted_free rfl) Y fun a145 e => ?_; clear Y
          have g73 := R.at_ e (by decide); replace R := R.put e; replace h1 := slot_on e h1 (by decide); replace h2 := slot_on e h2 (by decide); replace h3 := slot_on e h3 (by decide); replace h6 := slot_on e h6 (by decide); replace h7 := slot_on e h7 (by decide); replace h8 := slot_on e h8 (by decide); replace h10 := slot_on e h10 (by decide); replace h11 := slot_on e h11 (by decide); replace h13 := slot_on e h13 (by decide); replace h14 := slot_on e h14 (by decide); clear h70 h72; have h73 := g73; clear g73; clear e
          have Y : (execOp a145.eval o11_8_10).run Try.prog w122 = .ok (.value (.bool false)) w122 := by unfold o11_8_10; go_simp
          refine st_val g11_8_10 rfl (wanted_free rfl) Y fun a147 e => ?_; clear Y
          have g74 := R.at_ e (by decide); replace R := R.put e; replace h1 := slot_on e h1 (by decide); replace h2 := slot_on e h2 (by decide); replace h3 := slot_on e h3 (by decide); replace h6 := slot_on e h6 (by decide); replace h7 := slot_on e h7 (by decide); replace h8 := slot_on e h8 (by decide); replace h10 := slot_on e h10 (by decide); replace h11 := slot_on e h11 (by decide); replace h13 := slot_on e h13 (by decide); replace h14 := slot_on e h14 (by decide); clear h73; have h74 := g74; clear g74; clear e
          have Y : (execOp a147.eval o11_8_11).run Try.prog w122 = .ok (.value (.int .i64 (mb + (L : Int)))) w122 := by unfold o11_8_11; go_simp
          refine st_val g11_8_11 rfl (wanted_is (j := 10) (d := 74) rfl rfl h74 rfl) Y fun a149 e => ?_; clear Y
          have g75 := R.at_ e (by decide); replace R := R.put e; replace h1 := slot_on e h1 (by decide); replace h2 := slot_on e h2 (by decide); replace h3 := slot_on e h3 (by decide); replace h6 := slot_on e h6 (by decide); replace h7 := slot_on e h7 (by decide); replace h8 := slot_on e h8 (by decide); replace h10 := slot_on e h10 (by decide); replace h13 := slot_on e h13 (by decide); replace h14 := slot_on e h14 (by decide); replace h74 := slot_on e h74 (by decide); clear h11; have h75 := g75; clear g75; clear e
          have Y : (execOp a149.eval o11_8_12).run Try.prog w122 = .ok (.value (.int .i64 (mb + (L : Int)))) w122 := by unfold o11_8_12; go_simp
          refine st_val g11_8_12 rfl (wanted_is (j := 10) (d := 74) rfl rfl h74 rfl) Y fun a151 e => ?_; clear Y
          have g76 := R.at_ e (by decide); replace R := R.put e; replace h1 := slot_on e h1 (by decide); replace h2 := slot_on e h2 (by decide); replace h3 := slot_on e h3 (by decide); replace h6 := slot_on e h6 (by decide); replace h7 := slot_on e h7 (by decide); replace h8 := slot_on e h8 (by decide); replace h10 := slot_on e h10 (by decide); replace h13 := slot_on e h13 (by decide); replace h14 := slot_on e h14 (by decide); replace h74 := slot_on e h74 (by decide); replace h75 := slot_on e h75 (by decide); have h76 := g76; clear g76; clear e
          have Y : (execOp a151.eval o11_8_13).run Try.prog w122 = .ok (.value (.bool false)) w122 := by unfold o11_8_13; go_simp
          refine st_val g11_8_13 rfl (wanted_is (j := 10) (d := 74) rfl rfl h74 rfl) Y fun a153 e => ?_; clear Y
          have g77 := R.at_ e (by decide); replace R := R.put e; replace h1 := slot_on e h1 (by decide); replace h2 := slot_on e h2 (by decide); replace h3 := slot_on e h3 (by decide); replace h6 := slot_on e h6 (by decide); replace h7 := slot_on e h7 (by decide); replace h8 := slot_on e h8 (by decide); replace h10 := slot_on e h10 (by decide); replace h13 := slot_on e h13 (by decide); replace h14 := slot_on e h14 (by decide); replace h74 := slot_on e h74 (by decide); clear h75 h76; have h77 := g77; clear g77; clear e
          have Y : (execOp a153.eval o11_8_14).run Try.prog w122 = .ok (.value (.bool false)) w122 := by unfold o11_8_14; go_simp
          refine st_val g11_8_14 rfl (wanted_free rfl) Y fun a155 e => ?_; clear Y
          have g78 := R.at_ e (by decide); replace R := R.put e; replace h1 := slot_on e h1 (by decide); replace h2 := slot_on e h2 (by decide); replace h3 := slot_on e h3 (by decide); replace h6 := slot_on e h6 (by decide); replace h7 := slot_on e h7 (by decide); replace h8 := slot_on e h8 (by decide); replace h10 := slot_on e h10 (by decide); replace h13 := slot_on e h13 (by decide); replace h14 := slot_on e h14 (by decide); clear h74 h77; have h78 := g78; clear g78; clear e
          have Y : (execOp a155.eval o11_8_15).run Try.prog w122 = .ok (.value (.bool false)) w122 := by unfold o11_8_15; go_simp
          refine st_val g11_8_15 rfl (wanted_free rfl) Y fun a157 e => ?_; clear Y
          have g79 := R.at_ e (by decide); replace R := R.put e; replace h1 := slot_on e h1 (by decide); replace h2 := slot_on e h2 (by decide); replace h3 := slot_on e h3 (by decide); replace h6 := slot_on e h6 (by decide); replace h7 := slot_on e h7 (by decide); replace h8 := slot_on e h8 (by decide); replace h10 := slot_on e h10 (by decide); replace h13 := slot_on e h13 (by decide); replace h14 := slot_on e h14 (by decide); clear h78; have h79 := g79; clear g79; clear e
          have Y : (execOp a157.eval o11_8_16).run Try.prog w122 = .ok (.value (.agg #[.int .i64 zb.k, .string (str zb.nm), .int .i64 zb.i, .slice p2 zb.args.length q2])) w122 := by have qq0 : w122.cell? ⟨b94, 0, none⟩ = some (.int .i64 zb.k) := B94.cell 0; have qq1 : w122.cell? ⟨b94, 1, none⟩ = some (.string (str zb.nm)) := B94.cell 1; have qq2 : w122.cell? ⟨b94, 2, none⟩ = some (.int .i64 zb.i) := B94.cell 2; have qq3 : w122.cell? ⟨b94, 3, none⟩ = some (.slice p2 zb.args.length q2) := B94.cell 3; unfold o11_8_16; go_simp
          refine st_val g11_8_16 rfl (wanted_is (j := 15) (d := 79) rfl rfl h79 rfl) Y fun a159 e => ?_; clear Y
          have g80 := R.at_ e (by decide); replace R := R.put e; replace h1 := slot_on e h1 (by decide); replace h2 := slot_on e h2 (by decide); replace h3 := slot_on e h3 (by decide); replace h6 := slot_on e h6 (by decide); replace h7 := slot_on e h7 (by decide); replace h8 := slot_on e h8 (by decide); replace h13 := slot_on e h13 (by decide); replace h14 := slot_on e h14 (by decide); replace h79 := slot_on e h79 (by decide); clear h10; have h80 := g80; clear g80; clear e
          have Y : (execOp a159.eval o11_8_17).run Try.prog w122 = .ok (.value (.agg #[.int .i64 zb.k, .string (str zb.nm), .int .i64 zb.i, .slice p3 zb.args.length q3])) w122 := by have qq0 : w122.cell? ⟨b118, 0, none⟩ = some (.int .i64 zb.k) := B118.cell 0; have qq1 : w122.cell? ⟨b118, 1, none⟩ = some (.string (str zb.nm)) := B118.cell 1; have qq2 : w122.cell? ⟨b118, 2, none⟩ = some (.int .i64 zb.i) := B118.cell 2; have qq3 : w122.cell? ⟨b118, 3, none⟩ = some (.slice p3 zb.args.length q3) := B118.cell 3; unfold o11_8_17; go_simp
          refine st_val g11_8_17 rfl (wanted_is (j := 15) (d := 79) rfl rfl h79 rfl) Y fun a161 e => ?_; clear Y
          have g81 := R.at_ e (by decide); replace R := R.put e; replace h1 := slot_on e h1 (by decide); replace h2 := slot_on e h2 (by decide); replace h3 := slot_on e h3 (by decide); replace h6 := slot_on e h6 (by decide); replace h7 := slot_on e h7 (by decide); replace h8 := slot_on e h8 (by decide); replace h13 := slot_on e h13 (by decide); replace h14 := slot_on e h14 (by decide); replace h79 := slot_on e h79 (by decide); replace h80 := slot_on e h80 (by decide); have h81 := g81; clear g81; clear e
          have Y : (execOp a161.eval o11_8_18).run Try.prog w122 = .ok (.enter 19 #[.agg #[.int .i64 zb.k, .string (str zb.nm), .int .i64 zb.i, .slice p2 zb.args.length q2], .agg #[.int .i64 zb.k, .string (str zb.nm), .int .i64 zb.i, .slice p3 zb.args.length q3]]) w122 := by unfold o11_8_18; go_simp
          refine st_call g11_8_18 rfl (wanted_is (j := 15) (d := 79) rfl rfl h79 rfl) Y ((same_sx (HX2.out.on KX2) (HX3.out.on KX3) HS.out).mono ?_); clear Y
          rintro e9 w163 ⟨rfl, kk⟩
          replace K1 := keep_onto K1 kk
          replace KX1 := keep_onto KX1 kk
          replace KX2 := keep_onto KX2 kk
          replace KX3 := keep_onto KX3 kk
          replace B1 := blk_on B1 kk
          replace B70 := blk_on B70 kk
          replace B94 := blk_on B94 kk
          replace B118 := blk_on B118 kk
          clear kk
          refine ⟨_, rfl, fun a164 e => ?_⟩
          have g82 := R.at_ e (by decide); replace R := R.put e; replace h1 := slot_on e h1 (by decide); replace h2 := slot_on e h2 (by decide); replace h3 := slot_on e h3 (by decide); replace h6 := slot_on e h6 (by decide); replace h7 := slot_on e h7 (by decide); replace h8 := slot_on e h8 (by decide); replace h13 := slot_on e h13 (by decide); replace h14 := slot_on e h14 (by decide); replace h79 := slot_on e h79 (by decide); clear h80 h81; have h82 := g82; clear g82; clear e
          have Y : (execOp a164.eval o11_8_19).run Try.prog w163 = .ok (.value (.bool false)) w163 := by unfold o11_8_19; go_simp
          refine st_val g11_8_19 rfl (wanted_is (j := 15) (d := 79) rfl rfl h79 rfl) Y fun a166 e => ?_; clear Y
          have g83 := R.at_ e (by decide); replace R := R.put e; replace h1 := slot_on e h1 (by decide); replace h2 := slot_on e h2 (by decide); replace h3 := slot_on e h3 (by decide); replace h6 := slot_on e h6 (by decide); replace h7 := slot_on e h7 (by decide); replace h8 := slot_on e h8 (by decide); replace h13 := slot_on e h13 (by decide); replace h14 := slot_on e h14 (by decide); replace h79 := slot_on e h79 (by decide); clear h82; have h83 := g83; clear g83; clear e
          have Y : (execOp a166.eval o11_8_20).run Try.prog w163 = .ok (.value (.bool false)) w163 := by unfold o11_8_20; go_simp
          refine st_val g11_8_20 rfl (wanted_free rfl) Y fun a168 e => ?_; clear Y
          have g84 := R.at_ e (by decide); replace R := R.put e; replace h1 := slot_on e h1 (by decide); replace h2 := slot_on e h2 (by decide); replace h3 := slot_on e h3 (by decide); replace h6 := slot_on e h6 (by decide); replace h7 := slot_on e h7 (by decide); replace h8 := slot_on e h8 (by decide); replace h13 := slot_on e h13 (by decide); replace h14 := slot_on e h14 (by decide); clear h79 h83; have h84 := g84; clear g84; clear e
          have Y : (execOp a168.eval o11_8_21).run Try.prog w163 = .ok (.value (.bool false)) w163 := by unfold o11_8_21; go_simp
          refine st_val g11_8_21 rfl (wanted_free rfl) Y fun a170 e => ?_; clear Y
          have g85 := R.at_ e (by decide); replace R := R.put e; replace h1 := slot_on e h1 (by decide); replace h2 := slot_on e h2 (by decide); replace h3 := slot_on e h3 (by decide); replace h6 := slot_on e h6 (by decide); replace h7 := slot_on e h7 (by decide); replace h8 := slot_on e h8 (by decide); replace h13 := slot_on e h13 (by decide); replace h14 := slot_on e h14 (by decide); clear h84; have h85 := g85; clear g85; clear e
          have Y : (execOp a170.eval o11_8_22).run Try.prog w163 = .ok (.value (.int .i64 (ma + (L : Int)))) w163 := by unfold o11_8_22; go_simp
          refine st_val g11_8_22 rfl (wanted_is (j := 21) (d := 85) rfl rfl h85 rfl) Y fun a172 e => ?_; clear Y
          have g86 := R.at_ e (by decide); replace R := R.put e; replace h1 := slot_on e h1 (by decide); replace h2 := slot_on e h2 (by decide); replace h3 := slot_on e h3 (by decide); replace h6 := slot_on e h6 (by decide); replace h7 := slot_on e h7 (by decide); replace h8 := slot_on e h8 (by decide); replace h13 := slot_on e h13 (by decide); replace h14 := slot_on e h14 (by decide); replace h85 := slot_on e h85 (by decide); have h86 := g86; clear g86; clear e
          have Y : (execOp a172.eval o11_8_23).run Try.prog w163 = .ok (.value (.int .i64 ma)) w163 := by unfold o11_8_23; go_simp
          refine st_val g11_8_23 rfl (wanted_is (j := 21) (d := 85) rfl rfl h85 rfl) Y fun a174 e => ?_; clear Y
          have g87 := R.at_ e (by decide); replace R := R.put e; replace h2 := slot_on e h2 (by decide); replace h3 := slot_on e h3 (by decide); replace h6 := slot_on e h6 (by decide); replace h7 := slot_on e h7 (by decide); replace h8 := slot_on e h8 (by decide); replace h13 := slot_on e h13 (by decide); replace h14 := slot_on e h14 (by decide); replace h85 := slot_on e h85 (by decide); replace h86 := slot_on e h86 (by decide); clear h1; have h87 := g87; clear g87; clear e
          have Y : (execOp a174.eval o11_8_24).run Try.prog w163 = .ok (.value (.int .i64 (L : Int))) w163 := by have hq : IntKind.i64.wrap (ma + (L : Int) - ma) = (L : Int) := (by have hl2 := HL.out; rw [IntKind.wrap_i64]; omega); unfold o11_8_24; go_simp
          refine st_val g11_8_24 rfl (wanted_is (j := 21) (d := 85) rfl rfl h85 rfl) Y fun a176 e => ?_; clear Y
          have g88 := R.at_ e (by decide); replace R := R.put e; replace h2 := slot_on e h2 (by decide); replace h3 := slot_on e h3 (by decide); replace h6 := slot_on e h6 (by decide); replace h7 := slot_on e h7 (by decide); replace h8 := slot_on e h8 (by decide); replace h13 := slot_on e h13 (by decide); replace h14 := slot_on e h14 (by decide); replace h85 := slot_on e h85 (by decide); clear h86 h87; have h88 := g88; clear g88; clear e
          have Y : (execOp a176.eval o11_8_25).run Try.prog w163 = .ok (.value (.int .i64 (mb + (L : Int)))) w163 := by unfold o11_8_25; go_simp
          refine st_val g11_8_25 rfl (wanted_is (j := 21) (d := 85) rfl rfl h85 rfl) Y fun a178 e => ?_; clear Y
          have g89 := R.at_ e (by decide); replace R := R.put e; replace h2 := slot_on e h2 (by decide); replace h3 := slot_on e h3 (by decide); replace h6 := slot_on e h6 (by decide); replace h7 := slot_on e h7 (by decide); replace h8 := slot_on e h8 (by decide); replace h13 := slot_on e h13 (by decide); replace h14 := slot_on e h14 (by decide); replace h85 := slot_on e h85 (by decide); replace h88 := slot_on e h88 (by decide); have h89 := g89; clear g89; clear e
          have Y : (execOp a178.eval o11_8_26).run Try.prog w163 = .ok (.value (.int .i64 mb)) w163 := by unfold o11_8_26; go_simp
          refine st_val g11_8_26 rfl (wanted_is (j := 21) (d := 85) rfl rfl h85 rfl) Y fun a180 e => ?_; clear Y
          have g90 := R.at_ e (by decide); replace R := R.put e; replace h3 := slot_on e h3 (by decide); replace h6 := slot_on e h6 (by decide); replace h7 := slot_on e h7 (by decide); replace h8 := slot_on e h8 (by decide); replace h13 := slot_on e h13 (by decide); replace h14 := slot_on e h14 (by decide); replace h85 := slot_on e h85 (by decide); replace h88 := slot_on e h88 (by decide); replace h89 := slot_on e h89 (by decide); clear h2; have h90 := g90; clear g90; clear e
          have Y : (execOp a180.eval o11_8_27).run Try.prog w163 = .ok (.value (.int .i64 (L : Int))) w163 := by have hq : IntKind.i64.wrap (mb + (L : Int) - mb) = (L : Int) := (by have hl2 := HL.out; rw [IntKind.wrap_i64]; omega); unfold o11_8_27; go_simp
          refine st_val g11_8_27 rfl (wanted_is (j := 21) (d := 85) rfl rfl h85 rfl) Y fun a182 e => ?_; clear Y
          have g91 := R.at_ e (by decide); replace R := R.put e; replace h3 := slot_on e h3 (by decide); replace h6 := slot_on e h6 (by decide); replace h7 := slot_on e h7 (by decide); replace h8 := slot_on e h8 (by decide); replace h13 := slot_on e h13 (by decide); replace h14 := slot_on e h14 (by decide); replace h85 := slot_on e h85 (by decide); replace h88 := slot_on e h88 (by decide); clear h89 h90; have h91 := g91; clear g91; clear e
          have Y : (execOp a182.eval o11_8_28).run Try.prog w163 = .ok (.value (.bool false)) w163 := by unfold o11_8_28; go_simp
          refine st_val g11_8_28 rfl (wanted_is (j := 21) (d := 85) rfl rfl h85 rfl) Y fun a184 e => ?_; clear Y
          have g92 := R.at_ e (by decide); replace R := R.put e; replace h3 := slot_on e h3 (by decide); replace h6 := slot_on e h6 (by decide); replace h7 := slot_on e h7 (by decide); replace h8 := slot_on e h8 (by decide); replace h13 := slot_on e h13 (by decide); replace h14 := slot_on e h14 (by decide); replace h85 := slot_on e h85 (by decide); clear h88 h91; have h92 := g92; clear g92; clear e
          have Y : (execOp a184.eval o11_8_29).run Try.prog w163 = .ok (.value (.bool false)) w163 := by unfold o11_8_29; go_simp
          refine st_val g11_8_29 rfl (wanted_free rfl) Y fun a186 e => ?_; clear Y
          have g93 := R.at_ e (by decide); replace R := R.put e; replace h3 := slot_on e h3 (by decide); replace h6 := slot_on e h6 (by decide); replace h7 := slot_on e h7 (by decide); replace h8 := slot_on e h8 (by decide); replace h13 := slot_on e h13 (by decide); replace h14 := slot_on e h14 (by decide); clear h85 h92; have h93 := g93; clear g93; clear e
          refine st_end ?_
          change (c11_27).wp _ _ _ _
          refine wp_cond_false (x := c11_28) (y := Code.skip) (eval_slot h93) ?_
          refine wp_skip ?_
          change (c11_32).wp _ _ _ _
          refine wp_seq (x := c11_33) (y := c11_34) ?_
          change (Code.region 10 O11_10 false).wp _ _ _ _
          refine reg_in (l := [0, 1, 2, 3, 4, 5, 6, 7, 8, 9, 10, 11, 12]) rfl ?_
          have Y : (execOp a186.eval o11_10_0).run Try.prog w163 = .ok (.value (.agg #[.int .i64 t.k, .string (str t.nm), .int .i64 t.i, .slice ta t.args.length tc])) w163 := by have qq0 : w163.cell? ⟨b1, 0, none⟩ = some (.int .i64 t.k) := B1.cell 0; have qq1 : w163.cell? ⟨b1, 1, none⟩ = some (.string (str t.nm)) := B1.cell 1; have qq2 : w163.cell? ⟨b1, 2, none⟩ = some (.int .i64 t.i) := B1.cell 2; have qq3 : w163.cell? ⟨b1, 3, none⟩ = some (.slice ta t.args.length tc) := B1.cell 3; unfold o11_10_0; go_simp
          refine st_val g11_10_0 rfl (wanted_free rfl) Y fun a188 e => ?_; clear Y
          have g95 := R.at_ e (by decide); replace R := R.put e; replace h3 := slot_on e h3 (by decide); replace h6 := slot_on e h6 (by decide); replace h7 := slot_on e h7 (by decide); replace h8 := slot_on e h8 (by decide); replace h13 := slot_on e h13 (by decide); replace h14 := slot_on e h14 (by decide); clear h93; have h95 := g95; clear g95; clear e
          have Y : (execOp a188.eval o11_10_1).run Try.prog w163 = .ok (.value (.int .i64 (ma + (L : Int)))) w163 := by unfold o11_10_1; go_simp
          refine st_val g11_10_1 rfl (wanted_free rfl) Y fun a190 e => ?_; clear Y
          have g96 := R.at_ e (by decide); replace R := R.put e; replace h3 := slot_on e h3 (by decide); replace h6 := slot_on e h6 (by decide); replace h7 := slot_on e h7 (by decide); replace h13 := slot_on e h13 (by decide); replace h14 := slot_on e h14 (by decide); replace h95 := slot_on e h95 (by decide); clear h8; have h96 := g96; clear g96; clear e
          have Y : (execOp a190.eval o11_10_2).run Try.prog w163 = .ok (.value (.int .i64 (mb + (L : Int)))) w163 := by unfold o11_10_2; go_simp
          refine st_val g11_10_2 rfl (wanted_free rfl) Y fun a192 e => ?_; clear Y
          have g97 := R.at_ e (by decide); replace R := R.put e; replace h3 := slot_on e h3 (by decide); replace h6 := slot_on e h6 (by decide); replace h7 := slot_on e h7 (by decide); replace h13 := slot_on e h13 (by decide); replace h95 := slot_on e h95 (by decide); replace h96 := slot_on e h96 (by decide); clear h14; have h97 := g97; clear g97; clear e
          have Y : (execOp a192.eval o11_10_3).run Try.prog w163 = .ok (.value (.int .i64 M)) w163 := by have hmm := HM.out; unfold o11_10_3; go_simp
          refine st_val g11_10_3 rfl (wanted_free rfl) Y fun a194 e => ?_; clear Y
          have g98 := R.at_ e (by decide); replace R := R.put e; replace h3 := slot_on e h3 (by decide); replace h6 := slot_on e h6 (by decide); replace h7 := slot_on e h7 (by decide); replace h13 := slot_on e h13 (by decide); replace h95 := slot_on e h95 (by decide); clear h96 h97; have h98 := g98; clear g98; clear e
          have Y : (execOp a194.eval o11_10_4).run Try.prog w163 = .ok (.enter 32 #[.agg #[.int .i64 t.k, .string (str t.nm), .int .i64 t.i, .slice ta t.args.length tc], .int .i64 M]) w163 := by unfold o11_10_4; go_simp
          refine st_call g11_10_4 rfl (wanted_free rfl) Y ((rename_sx (HT.out.on K1) WM.out V4.out).mono ?_); clear Y
          rintro e9 w196 ⟨p4, q4, rfl, hx, kk⟩
          replace K1 := keep_onto K1 kk
          replace KX1 := keep_onto KX1 kk
          replace KX2 := keep_onto KX2 kk
          replace KX3 := keep_onto KX3 kk
          replace B1 := blk_on B1 kk
          replace B70 := blk_on B70 kk
          replace B94 := blk_on B94 kk
          replace B118 := blk_on B118 kk
          clear kk
          have HX4 := Lib.hid hx; clear hx
          have KX4 := Keep.refl (fun g => g < w196.heap.size) w196
          refine ⟨_, rfl, fun a197 e => ?_⟩
          have g99 := R.at_ e (by decide); replace R := R.put e; replace h3 := slot_on e h3 (by decide); replace h6 := slot_on e h6 (by decide); replace h7 := slot_on e h7 (by decide); replace h13 := slot_on e h13 (by decide); clear h95 h98; have h99 := g99; clear g99; clear e
          have Y : (execOp a197.eval o11_10_5).run Try.prog w196 = .ok (.value (.tuple #[.agg #[.int .i64 um.k, .string (str um.nm), .int .i64 um.i, .slice p4 um.args.length q4], .int .i64 (M + (L : Int)), .int .i64 0])) w196 := by unfold o11_10_5; go_simp
          refine st_val g11_10_5 rfl (wanted_free rfl) Y fun a199 e => ?_; clear Y
          have g94 := R.at_ e (by decide); replace R := R.put e; replace h3 := slot_on e h3 (by decide); replace h6 := slot_on e h6 (by decide); replace h7 := slot_on e h7 (by decide); replace h13 := slot_on e h13 (by decide); clear h99; have h94 := g94; clear g94; clear e
          have Y : (execOp a199.eval o11_10_6).run Try.prog w196 = .ok (.value (.agg #[.int .i64 um.k, .string (str um.nm), .int .i64 um.i, .slice p4 um.args.length q4])) w196 := by unfold o11_10_6; go_simp
          refine st_val g11_10_6 rfl (wanted_free rfl) Y fun a201 e => ?_; clear Y
          have g100 := R.at_ e (by decide); replace R := R.put e; replace h3 := slot_on e h3 (by decide); replace h6 := slot_on e h6 (by decide); replace h7 := slot_on e h7 (by decide); replace h13 := slot_on e h13 (by decide); replace h94 := slot_on e h94 (by decide); have h100 := g100; clear g100; clear e
          have Y : (execOp a201.eval o11_10_7).run Try.prog w196 = .ok (.value (.int .i64 (M + (L : Int)))) w196 := by unfold o11_10_7; go_simp
          refine st_val g11_10_7 rfl (wanted_free rfl) Y fun a203 e => ?_; clear Y
          have g101 := R.at_ e (by decide); replace R := R.put e; replace h3 := slot_on e h3 (by decide); replace h6 := slot_on e h6 (by decide); replace h7 := slot_on e h7 (by decide); replace h13 := slot_on e h13 (by decide); replace h94 := slot_on e h94 (by decide); replace h100 := slot_on e h100 (by decide); have h101 := g101; clear g101; clear e
          have Y : (execOp a203.eval o11_10_8).run Try.prog w196 = .ok (.value (.int .i64 0)) w196 := by unfold o11_10_8; go_simp
          refine st_val g11_10_8 rfl (wanted_free rfl) Y fun a205 e => ?_; clear Y
          have g102 := R.at_ e (by decide); replace R := R.put e; replace h3 := slot_on e h3 (by decide); replace h6 := slot_on e h6 (by decide); replace h7 := slot_on e h7 (by decide); replace h13 := slot_on e h13 (by decide); replace h100 := slot_on e h100 (by decide); replace h101 := slot_on e h101 (by decide); clear h94; have h102 := g102; clear g102; clear e
          have MK1 := K1
          have MKX1 := KX1
          have MKX2 := KX2
          have MKX3 := KX3
          have MKX4 := KX4
          have Y : (execOp a205.eval o11_10_9).run Try.prog w196 = .ok (.value (.pointer (some ⟨w196.heap.size, 0, none⟩))) (w196.alloc (.cells #[.int .i64 0, .string (⟨#[]⟩), .int .i64 0, .slice none 0 0] 24)) := by unfold o11_10_9; go_simp
          have B207 := Blk.new w196 24 #[.int .i64 0, .string (⟨#[]⟩), .int .i64 0, .slice none 0 0]
          replace K1 := K1.alloc (.cells #[.int .i64 0, .string (⟨#[]⟩), .int .i64 0, .slice none 0 0] 24)
          replace KX1 := KX1.alloc (.cells #[.int .i64 0, .string (⟨#[]⟩), .int .i64 0, .slice none 0 0] 24)
          replace KX2 := KX2.alloc (.cells #[.int .i64 0, .string (⟨#[]⟩), .int .i64 0, .slice none 0 0] 24)
          replace KX3 := KX3.alloc (.cells #[.int .i64 0, .string (⟨#[]⟩), .int .i64 0, .slice none 0 0] 24)
          replace KX4 := KX4.alloc (.cells #[.int .i64 0, .string (⟨#[]⟩), .int .i64 0, .slice none 0 0] 24)
          have Nb1_b207 := Nat.ne_of_lt B1.lt; replace B1 := B1.alloc (.cells #[.int .i64 0, .string (⟨#[]⟩), .int .i64 0, .slice none 0 0] 24)
          have Nb70_b207 := Nat.ne_of_lt B70.lt; replace B70 := B70.alloc (.cells #[.int .i64 0, .string (⟨#[]⟩), .int .i64 0, .slice none 0 0] 24)
          have Nb94_b207 := Nat.ne_of_lt B94.lt; replace B94 := B94.alloc (.cells #[.int .i64 0, .string (⟨#[]⟩), .int .i64 0, .slice none 0 0] 24)
          have Nb118_b207 := Nat.ne_of_lt B118.lt; replace B118 := B118.alloc (.cells #[.int .i64 0, .string (⟨#[]⟩), .int .i64 0, .slice none 0 0] 24)
          obtain ⟨w208, hw208⟩ : ∃ x, x = w196.alloc (.cells #[.int .i64 0, .string (⟨#[]⟩), .int .i64 0, .slice none 0 0] 24) := ⟨_, rfl⟩
          rw [← hw208] at Y B207 K1 KX1 KX2 KX3 KX4 B1 B70 B94 B118
          obtain ⟨b207, hb207⟩ : ∃ x, x = w196.heap.size := ⟨_, rfl⟩
          rw [← hb207] at Y B207 Nb1_b207 Nb70_b207 Nb94_b207 Nb118_b207
          have LK1_b207 : W.heap.size ≤ b207 := by rw [hb207]; first | exact Nat.le_refl _ | exact MK1.size
          have LKX1_b207 : w59.heap.size ≤ b207 := by rw [hb207]; first | exact Nat.le_refl _ | exact MKX1.size
          have LKX2_b207 : w83.heap.size ≤ b207 := by rw [hb207]; first | exact Nat.le_refl _ | exact MKX2.size
          have LKX3_b207 : w107.heap.size ≤ b207 := by rw [hb207]; first | exact Nat.le_refl _ | exact MKX3.size
          have LKX4_b207 : w196.heap.size ≤ b207 := by rw [hb207]; first | exact Nat.le_refl _ | exact MKX4.size
          clear hw208 hb207 MK1 MKX1 MKX2 MKX3 MKX4
          refine st_val g11_10_9 rfl (wanted_free rfl) Y fun a209 e => ?_; clear Y
          have g16 := R.at_ e (by decide); replace R := R.put e; replace h3 := slot_on e h3 (by decide); replace h6 := slot_on e h6 (by decide); replace h7 := slot_on e h7 (by decide); replace h13 := slot_on e h13 (by decide); replace h100 := slot_on e h100 (by decide); replace h101 := slot_on e h101 (by decide); replace h102 := slot_on e h102 (by decide); have h16 := g16; clear g16; clear e
          have Y : (execOp a209.eval o11_10_10).run Try.prog w208 = .ok .skip ((((w208.setCell ⟨b207, 0, none⟩ (.int .i64 um.k)).setCell ⟨b207, 1, none⟩ (.string (str um.nm))).setCell ⟨b207, 2, none⟩ (.int .i64 um.i)).setCell ⟨b207, 3, none⟩ (.slice p4 um.args.length q4)) := by have qq0 : w208.cell? ⟨b207, 0, none⟩ = some (.int .i64 0) := B207.cell 0; have qq1 : w208.cell? ⟨b207, 1, none⟩ = some (.string (⟨#[]⟩)) := B207.cell 1; have qq2 : w208.cell? ⟨b207, 2, none⟩ = some (.int .i64 0) := B207.cell 2; have qq3 : w208.cell? ⟨b207, 3, none⟩ = some (.slice none 0 0) := B207.cell 3; have z0 := B207.frozen 0; have z1 := B207.frozen 1; have z2 := B207.frozen 2; have z3 := B207.frozen 3; unfold o11_10_10; go_simp
          replace K1 := ((((K1.setCell (p := ⟨b207, 0, none⟩) (Nat.not_lt.2 LK1_b207) (.int .i64 um.k)).setCell (p := ⟨b207, 1, none⟩) (Nat.not_lt.2 LK1_b207) (.string (str um.nm))).setCell (p := ⟨b207, 2, none⟩) (Nat.not_lt.2 LK1_b207) (.int .i64 um.i)).setCell (p := ⟨b207, 3, none⟩) (Nat.not_lt.2 LK1_b207) (.slice p4 um.args.length q4))
          replace KX1 := ((((KX1.setCell (p := ⟨b207, 0, none⟩) (Nat.not_lt.2 LKX1_b207) (.int .i64 um.k)).setCell (p := ⟨b207, 1, none⟩) (Nat.not_lt.2 LKX1_b207) (.string (str um.nm))).setCell (p := ⟨b207, 2, none⟩) (Nat.not_lt.2 LKX1_b207) (.int .i64 um.i)).setCell (p := ⟨b207, 3, none⟩) (Nat.not_lt.2 LKX1_b207) (.slice p4 um.args.length q4))
          replace KX2 := ((((KX2.setCell (p := ⟨b207, 0, none⟩) (Nat.not_lt.2 LKX2_b207) (.int .i64 um.k)).setCell (p := ⟨b207, 1, none⟩) (Nat.not_lt.2 LKX2_b207) (.string (str um.nm))).setCell (p := ⟨b207, 2, none⟩) (Nat.not_lt.2 LKX2_b207) (.int .i64 um.i)).setCell (p := ⟨b207, 3, none⟩) (Nat.not_lt.2 LKX2_b207) (.slice p4 um.args.length q4))
          replace KX3 := ((((KX3.setCell (p := ⟨b207, 0, none⟩) (Nat.not_lt.2 LKX3_b207) (.int .i64 um.k)).setCell (p := ⟨b207, 1, none⟩) (Nat.not_lt.2 LKX3_b207) (.string (str um.nm))).setCell (p := ⟨b207, 2, none⟩) (Nat.not_lt.2 LKX3_b207) (.int .i64 um.i)).setCell (p := ⟨b207, 3, none⟩) (Nat.not_lt.2 LKX3_b207) (.slice p4 um.args.length q4))
          replace KX4 := ((((KX4.setCell (p := ⟨b207, 0, none⟩) (Nat.not_lt.2 LKX4_b207) (.int .i64 um.k)).setCell (p := ⟨b207, 1, none⟩) (Nat.not_lt.2 LKX4_b207) (.string (str um.nm))).setCell (p := ⟨b207, 2, none⟩) (Nat.not_lt.2 LKX4_b207) (.int .i64 um.i)).setCell (p := ⟨b207, 3, none⟩) (Nat.not_lt.2 LKX4_b207) (.slice p4 um.args.length q4))
          replace B1 := ((((B1.far (p := ⟨b207, 0, none⟩) Nb1_b207 (.int .i64 um.k)).far (p := ⟨b207, 1, none⟩) Nb1_b207 (.string (str um.nm))).far (p := ⟨b207, 2, none⟩) Nb1_b207 (.int .i64 um.i)).far (p := ⟨b207, 3, none⟩) Nb1_b207 (.slice p4 um.args.length q4))
          replace B70 := ((((B70.far (p := ⟨b207, 0, none⟩) Nb70_b207 (.int .i64 um.k)).far (p := ⟨b207, 1, none⟩) Nb70_b207 (.string (str um.nm))).far (p := ⟨b207, 2, none⟩) Nb70_b207 (.int .i64 um.i)).far (p := ⟨b207, 3, none⟩) Nb70_b207 (.slice p4 um.args.length q4))
          replace B94 := ((((B94.far (p := ⟨b207, 0, none⟩) Nb94_b207 (.int .i64 um.k)).far (p := ⟨b207, 1, none⟩) Nb94_b207 (.string (str um.nm))).far (p := ⟨b207, 2, none⟩) Nb94_b207 (.int .i64 um.i)).far (p := ⟨b207, 3, none⟩) Nb94_b207 (.slice p4 um.args.length q4))
          replace B118 := ((((B118.far (p := ⟨b207, 0, none⟩) Nb118_b207 (.int .i64 um.k)).far (p := ⟨b207, 1, none⟩) Nb118_b207 (.string (str um.nm))).far (p := ⟨b207, 2, none⟩) Nb118_b207 (.int .i64 um.i)).far (p := ⟨b207, 3, none⟩) Nb118_b207 (.slice p4 um.args.length q4))
          replace B207 : Blk ((((w208.setCell ⟨b207, 0, none⟩ (.int .i64 um.k)).setCell ⟨b207, 1, none⟩ (.string (str um.nm))).setCell ⟨b207, 2, none⟩ (.int .i64 um.i)).setCell ⟨b207, 3, none⟩ (.slice p4 um.args.length q4)) b207 24 #[.int .i64 um.k, .string (str um.nm), .int .i64 um.i, .slice p4 um.args.length q4] := ((((B207.set_ 0 (.int .i64 um.k)).set_ 1 (.string (str um.nm))).set_ 2 (.int .i64 um.i)).set_ 3 (.slice p4 um.args.length q4))
          generalize ((((w208.setCell ⟨b207, 0, none⟩ (.int .i64 um.k)).setCell ⟨b207, 1, none⟩ (.string (str um.nm))).setCell ⟨b207, 2, none⟩ (.int .i64 um.i)).setCell ⟨b207, 3, none⟩ (.slice p4 um.args.length q4)) = w211 at Y K1 KX1 KX2 KX3 KX4 B1 B70 B94 B118 B207
          refine st_skip g11_10_10 rfl (wanted_free rfl) Y ?_; clear Y
          have Y : (execOp a209.eval o11_10_11).run Try.prog w211 = .ok (.value (.int .i64 (M + (L : Int)))) w211 := by unfold o11_10_11; go_simp
          refine st_val g11_10_11 rfl (wanted_free rfl) Y fun a212 e => ?_; clear Y
          replace R := R.put e; replace h3 := slot_on e h3 (by decide); replace h6 := slot_on e h6 (by decide); replace h7 := slot_on e h7 (by decide); replace h13 := slot_on e h13 (by decide); replace h16 := slot_on e h16 (by decide); replace h102 := slot_on e h102 (by decide); clear h100 h101; clear e
          have Y : (execOp a212.eval o11_10_12).run Try.prog w211 = .ok (.value (.int .i64 0)) w211 := by unfold o11_10_12; go_simp
          refine st_val g11_10_12 rfl (wanted_free rfl) Y fun a214 e => ?_; clear Y
          have g18 := R.at_ e (by decide); replace R := R.put e; replace h3 := slot_on e h3 (by decide); replace h6 := slot_on e h6 (by decide); replace h7 := slot_on e h7 (by decide); replace h13 := slot_on e h13 (by decide); replace h16 := slot_on e h16 (by decide); clear h102; have h18 := g18; clear g18; clear e
          refine st_end ?_
          change (c11_34).wp _ _ _ _
          refine wp_seq (x := c11_35) (y := c11_42) ?_
          refine wp_seq (x := c11_36) (y := c11_37) ?_
          change (Code.region 11 O11_11 false).wp _ _ _ _
          refine reg_in (l := [0, 1, 2, 3, 4, 5, 6, 7, 8, 9, 10, 11, 12, 13]) rfl ?_
          have Y : (execOp a214.eval o11_11_0).run Try.prog w211 = .ok (.value (.int .i64 0)) w211 := by unfold o11_11_0; go_simp
          refine st_val g11_11_0 rfl (wanted_free rfl) Y fun a216 e => ?_; clear Y
          have g103 := R.at_ e (by decide); replace R := R.put e; replace h3 := slot_on e h3 (by decide); replace h6 := slot_on e h6 (by decide); replace h7 := slot_on e h7 (by decide); replace h13 := slot_on e h13 (by decide); replace h16 := slot_on e h16 (by decide); clear h18; have h103 := g103; clear g103; clear e
          have Y : (execOp a216.eval o11_11_1).run Try.prog w211 = .ok (.value (.bool false)) w211 := by unfold o11_11_1; go_simp
          refine st_val g11_11_1 rfl (wanted_free rfl) Y fun a218 e => ?_; clear Y
          have g104 := R.at_ e (by decide); replace R := R.put e; replace h3 := slot_on e h3 (by decide); replace h6 := slot_on e h6 (by decide); replace h7 := slot_on e h7 (by decide); replace h13 := slot_on e h13 (by decide); replace h16 := slot_on e h16 (by decide); clear h103; have h104 := g104; clear g104; clear e
          have Y : (execOp a218.eval o11_11_2).run Try.prog w211 = .ok (.value (.bool false)) w211 := by unfold o11_11_2; go_simp
          refine st_val g11_11_2 rfl (wanted_free rfl) Y fun a220 e => ?_; clear Y
          have g105 := R.at_ e (by decide); replace R := R.put e; replace h3 := slot_on e h3 (by decide); replace h6 := slot_on e h6 (by decide); replace h7 := slot_on e h7 (by decide); replace h13 := slot_on e h13 (by decide); replace h16 := slot_on e h16 (by decide); clear h104; have h105 := g105; clear g105; clear e
          have Y : (execOp a220.eval o11_11_3).run Try.prog w211 = .ok (.value (.agg #[.int .i64 um.k, .string (str um.nm), .int .i64 um.i, .slice p4 um.args.length q4])) w211 := by have qq0 : w211.cell? ⟨b207, 0, none⟩ = some (.int .i64 um.k) := B207.cell 0; have qq1 : w211.cell? ⟨b207, 1, none⟩ = some (.string (str um.nm)) := B207.cell 1; have qq2 : w211.cell? ⟨b207, 2, none⟩ = some (.int .i64 um.i) := B207.cell 2; have qq3 : w211.cell? ⟨b207, 3, none⟩ = some (.slice p4 um.args.length q4) := B207.cell 3; unfold o11_11_3; go_simp
          refine st_val g11_11_3 rfl (wanted_is (j := 2) (d := 105) rfl rfl h105 rfl) Y fun a222 e => ?_; clear Y
          have g106 := R.at_ e (by decide); replace R := R.put e; replace h3 := slot_on e h3 (by decide); replace h6 := slot_on e h6 (by decide); replace h7 := slot_on e h7 (by decide); replace h13 := slot_on e h13 (by decide); replace h16 := slot_on e h16 (by decide); replace h105 := slot_on e h105 (by decide); have h106 := g106; clear g106; clear e
          have Y : (execOp a222.eval o11_11_4).run Try.prog w211 = .ok (.value (.agg #[.int .i64 t.k, .string (str t.nm), .int .i64 t.i, .slice ta t.args.length tc])) w211 := by have qq0 : w211.cell? ⟨b1, 0, none⟩ = some (.int .i64 t.k) := B1.cell 0; have qq1 : w211.cell? ⟨b1, 1, none⟩ = some (.string (str t.nm)) := B1.cell 1; have qq2 : w211.cell? ⟨b1, 2, none⟩ = some (.int .i64 t.i) := B1.cell 2; have qq3 : w211.cell? ⟨b1, 3, none⟩ = some (.slice ta t.args.length tc) := B1.cell 3; unfold o11_11_4; go_simp
          refine st_val g11_11_4 rfl (wanted_is (j := 2) (d := 105) rfl rfl h105 rfl) Y fun a224 e => ?_; clear Y
          have g107 := R.at_ e (by decide); replace R := R.put e; replace h3 := slot_on e h3 (by decide); replace h6 := slot_on e h6 (by decide); replace h7 := slot_on e h7 (by decide); replace h13 := slot_on e h13 (by decide); replace h16 := slot_on e h16 (by decide); replace h105 := slot_on e h105 (by decide); replace h106 := slot_on e h106 (by decide); have h107 := g107; clear g107; clear e
          have Y : (execOp a224.eval o11_11_5).run Try.prog w211 = .ok (.enter 21 #[.agg #[.int .i64 um.k, .string (str um.nm), .int .i64 um.i, .slice p4 um.args.length q4], .agg #[.int .i64 t.k, .string (str t.nm), .int .i64 t.i, .slice ta t.args.length tc]]) w211 := by unfold o11_11_5; go_simp
          refine st_call g11_11_5 rfl (wanted_is (j := 2) (d := 105) rfl rfl h105 rfl) Y ((variant_sx (HX4.out.on KX4) (HT.out.on K1) HV1.out).mono ?_); clear Y
          rintro e9 w226 ⟨rfl, kk⟩
          replace K1 := keep_onto K1 kk
          replace KX1 := keep_onto KX1 kk
          replace KX2 := keep_onto KX2 kk
          replace KX3 := keep_onto KX3 kk
          replace KX4 := keep_onto KX4 kk
          replace B1 := blk_on B1 kk
          replace B70 := blk_on B70 kk
          replace B94 := blk_on B94 kk
          replace B118 := blk_on B118 kk
          replace B207 := blk_on B207 kk
          clear kk
          refine ⟨_, rfl, fun a227 e => ?_⟩
          have g108 := R.at_ e (by decide); replace R := R.put e; replace h3 := slot_on e h3 (by decide); replace h6 := slot_on e h6 (by decide); replace h7 := slot_on e h7 (by decide); replace h13 := slot_on e h13 (by decide); replace h16 := slot_on e h16 (by decide); replace h105 := slot_on e h105 (by decide); clear h106 h107; have h108 := g108; clear g108; clear e
          have Y : (execOp a227.eval o11_11_6).run Try.prog w226 = .ok (.value (.bool false)) w226 := by unfold o11_11_6; go_simp
          refine st_val g11_11_6 rfl (wanted_is (j := 2) (d := 105) rfl rfl h105 rfl) Y fun a229 e => ?_; clear Y
          have g109 := R.at_ e (by decide); replace R := R.put e; replace h3 := slot_on e h3 (by decide); replace h6 := slot_on e h6 (by decide); replace h7 := slot_on e h7 (by decide); replace h13 := slot_on e h13 (by decide); replace h16 := slot_on e h16 (by decide); replace h105 := slot_on e h105 (by decide); clear h108; have h109 := g109; clear g109; clear e
          have Y : (execOp a229.eval o11_11_7).run Try.prog w226 = .ok (.value (.bool false)) w226 := by unfold o11_11_7; go_simp
          refine st_val g11_11_7 rfl (wanted_free rfl) Y fun a231 e => ?_; clear Y
          have g110 := R.at_ e (by decide); replace R := R.put e; replace h3 := slot_on e h3 (by decide); replace h6 := slot_on e h6 (by decide); replace h7 := slot_on e h7 (by decide); replace h13 := slot_on e h13 (by decide); replace h16 := slot_on e h16 (by decide); clear h105 h109; have h110 := g110; clear g110; clear e
          have Y : (execOp a231.eval o11_11_8).run Try.prog w226 = .ok (.value (.bool false)) w226 := by unfold o11_11_8; go_simp
          refine st_val g11_11_8 rfl (wanted_free rfl) Y fun a233 e => ?_; clear Y
          have g111 := R.at_ e (by decide); replace R := R.put e; replace h3 := slot_on e h3 (by decide); replace h6 := slot_on e h6 (by decide); replace h7 := slot_on e h7 (by decide); replace h13 := slot_on e h13 (by decide); replace h16 := slot_on e h16 (by decide); clear h110; have h111 := g111; clear g111; clear e
          have Y : (execOp a233.eval o11_11_9).run Try.prog w226 = .ok (.value (.agg #[.int .i64 xa.k, .string (str xa.nm), .int .i64 xa.i, .slice p1 xa.args.length q1])) w226 := by have qq0 : w226.cell? ⟨b70, 0, none⟩ = some (.int .i64 xa.k) := B70.cell 0; have qq1 : w226.cell? ⟨b70, 1, none⟩ = some (.string (str xa.nm)) := B70.cell 1; have qq2 : w226.cell? ⟨b70, 2, none⟩ = some (.int .i64 xa.i) := B70.cell 2; have qq3 : w226.cell? ⟨b70, 3, none⟩ = some (.slice p1 xa.args.length q1) := B70.cell 3; unfold o11_11_9; go_simp
          refine st_val g11_11_9 rfl (wanted_is (j := 8) (d := 111) rfl rfl h111 rfl) Y fun a235 e => ?_; clear Y
          have g112 := R.at_ e (by decide); replace R := R.put e; replace h3 := slot_on e h3 (by decide); replace h6 := slot_on e h6 (by decide); replace h13 := slot_on e h13 (by decide); replace h16 := slot_on e h16 (by decide); replace h111 := slot_on e h111 (by decide); clear h7; have h112 := g112; clear g112; clear e
          have Y : (execOp a235.eval o11_11_10).run Try.prog w226 = .ok (.value (.agg #[.int .i64 zb.k, .string (str zb.nm), .int .i64 zb.i, .slice p3 zb.args.length q3])) w226 := by have qq0 : w226.cell? ⟨b118, 0, none⟩ = some (.int .i64 zb.k) := B118.cell 0; have qq1 : w226.cell? ⟨b118, 1, none⟩ = some (.string (str zb.nm)) := B118.cell 1; have qq2 : w226.cell? ⟨b118, 2, none⟩ = some (.int .i64 zb.i) := B118.cell 2; have qq3 : w226.cell? ⟨b118, 3, none⟩ = some (.slice p3 zb.args.length q3) := B118.cell 3; unfold o11_11_10; go_simp
          refine st_val g11_11_10 rfl (wanted_is (j := 8) (d := 111) rfl rfl h111 rfl) Y fun a237 e => ?_; clear Y
          have g113 := R.at_ e (by decide); replace R := R.put e; replace h3 := slot_on e h3 (by decide); replace h6 := slot_on e h6 (by decide); replace h13 := slot_on e h13 (by decide); replace h16 := slot_on e h16 (by decide); replace h111 := slot_on e h111 (by decide); replace h112 := slot_on e h112 (by decide); have h113 := g113; clear g113; clear e
          have Y : (execOp a237.eval o11_11_11).run Try.prog w226 = .ok (.enter 21 #[.agg #[.int .i64 xa.k, .string (str xa.nm), .int .i64 xa.i, .slice p1 xa.args.length q1], .agg #[.int .i64 zb.k, .string (str zb.nm), .int .i64 zb.i, .slice p3 zb.args.length q3]]) w226 := by unfold o11_11_11; go_simp
          refine st_call g11_11_11 rfl (wanted_is (j := 8) (d := 111) rfl rfl h111 rfl) Y ((variant_sx (HX1.out.on KX1) (HX3.out.on KX3) HV2.out).mono ?_); clear Y
          rintro e9 w239 ⟨rfl, kk⟩
          replace K1 := keep_onto K1 kk
          replace KX1 := keep_onto KX1 kk
          replace KX2 := keep_onto KX2 kk
          replace KX3 := keep_onto KX3 kk
          replace KX4 := keep_onto KX4 kk
          replace B1 := blk_on B1 kk
          replace B70 := blk_on B70 kk
          replace B94 := blk_on B94 kk
          replace B118 := blk_on B118 kk
          replace B207 := blk_on B207 kk
          clear kk
          refine ⟨_, rfl, fun a240 e => ?_⟩
          have g114 := R.at_ e (by decide); replace R := R.put e; replace h3 := slot_on e h3 (by decide); replace h6 := slot_on e h6 (by decide); replace h13 := slot_on e h13 (by decide); replace h16 := slot_on e h16 (by decide); replace h111 := slot_on e h111 (by decide); clear h112 h113; have h114 := g114; clear g114; clear e
          have Y : (execOp a240.eval o11_11_12).run Try.prog w239 = .ok (.value (.bool false)) w239 := by unfold o11_11_12; go_simp
          refine st_val g11_11_12 rfl (wanted_is (j := 8) (d := 111) rfl rfl h111 rfl) Y fun a242 e => ?_; clear Y
          have g115 := R.at_ e (by decide); replace R := R.put e; replace h3 := slot_on e h3 (by decide); replace h6 := slot_on e h6 (by decide); replace h13 := slot_on e h13 (by decide); replace h16 := slot_on e h16 (by decide); replace h111 := slot_on e h111 (by decide); clear h114; have h115 := g115; clear g115; clear e
          have Y : (execOp a242.eval o11_11_13).run Try.prog w239 = .ok (.value (.bool false)) w239 := by unfold o11_11_13; go_simp
          refine st_val g11_11_13 rfl (wanted_free rfl) Y fun a244 e => ?_; clear Y
          have g116 := R.at_ e (by decide); replace R := R.put e; replace h3 := slot_on e h3 (by decide); replace h6 := slot_on e h6 (by decide); replace h13 := slot_on e h13 (by decide); replace h16 := slot_on e h16 (by decide); clear h111 h115; have h116 := g116; clear g116; clear e
          refine st_end ?_
          change (c11_37).wp _ _ _ _
          refine wp_cond_false (x := c11_38) (y := Code.skip) (eval_slot h116) ?_
          refine wp_skip ?_
          change (c11_42).wp _ _ _ _
          refine wp_seq (x := c11_43) (y := c11_44) ?_
          change (Code.region 13 O11_13 false).wp _ _ _ _
          refine reg_in (l := [0, 1, 2, 3, 4, 5, 6, 7, 8, 9]) rfl ?_
          have Y : (execOp a244.eval o11_13_0).run Try.prog w239 = .ok (.value (.agg #[.int .i64 um.k, .string (str um.nm), .int .i64 um.i, .slice p4 um.args.length q4])) w239 := by have qq0 : w239.cell? ⟨b207, 0, none⟩ = some (.int .i64 um.k) := B207.cell 0; have qq1 : w239.cell? ⟨b207, 1, none⟩ = some (.string (str um.nm)) := B207.cell 1; have qq2 : w239.cell? ⟨b207, 2, none⟩ = some (.int .i64 um.i) := B207.cell 2; have qq3 : w239.cell? ⟨b207, 3, none⟩ = some (.slice p4 um.args.length q4) := B207.cell 3; unfold o11_13_0; go_simp
          refine st_val g11_13_0 rfl (wanted_free rfl) Y fun a246 e => ?_; clear Y
          have g118 := R.at_ e (by decide); replace R := R.put e; replace h3 := slot_on e h3 (by decide); replace h6 := slot_on e h6 (by decide); replace h13 := slot_on e h13 (by decide); clear h16 h116; have h118 := g118; clear g118; clear e
          have Y : (execOp a246.eval o11_13_1).run Try.prog w239 = .ok (.value (.agg #[.int .i64 zb.k, .string (str zb.nm), .int .i64 zb.i, .slice p3 zb.args.length q3])) w239 := by have qq0 : w239.cell? ⟨b118, 0, none⟩ = some (.int .i64 zb.k) := B118.cell 0; have qq1 : w239.cell? ⟨b118, 1, none⟩ = some (.string (str zb.nm)) := B118.cell 1; have qq2 : w239.cell? ⟨b118, 2, none⟩ = some (.int .i64 zb.i) := B118.cell 2; have qq3 : w239.cell? ⟨b118, 3, none⟩ = some (.slice p3 zb.args.length q3) := B118.cell 3; unfold o11_13_1; go_simp
          refine st_val g11_13_1 rfl (wanted_free rfl) Y fun a248 e => ?_; clear Y
          have g119 := R.at_ e (by decide); replace R := R.put e; replace h3 := slot_on e h3 (by decide); replace h6 := slot_on e h6 (by decide); replace h118 := slot_on e h118 (by decide); clear h13; have h119 := g119; clear g119; clear e
          have Y : (execOp a248.eval o11_13_2).run Try.prog w239 = .ok (.enter 28 #[.agg #[.int .i64 um.k, .string (str um.nm), .int .i64 um.i, .slice p4 um.args.length q4], .agg #[.int .i64 zb.k, .string (str zb.nm), .int .i64 zb.i, .slice p3 zb.args.length q3]]) w239 := by unfold o11_13_2; go_simp
          refine st_call g11_13_2 rfl (wanted_free rfl) Y ((solve_sx (HX4.out.on KX4) (HX3.out.on KX3)).mono ?_); clear Y
          rintro e9 w250 ⟨va, vc, bs, ok, er, rfl, hs, kk⟩
          replace K1 := keep_onto K1 kk
          replace KX1 := keep_onto KX1 kk
          replace KX2 := keep_onto KX2 kk
          replace KX3 := keep_onto KX3 kk
          replace KX4 := keep_onto KX4 kk
          replace B1 := blk_on B1 kk
          replace B70 := blk_on B70 kk
          replace B94 := blk_on B94 kk
          replace B118 := blk_on B118 kk
          replace B207 := blk_on B207 kk
          clear kk
          obtain ⟨rfl, rfl, hbl⟩ := HSO.out _ _ _ hs.1; clear hs; rw [hbl]; clear hbl
          refine ⟨_, rfl, fun a251 e => ?_⟩
          have g120 := R.at_ e (by decide); replace R := R.put e; replace h3 := slot_on e h3 (by decide); replace h6 := slot_on e h6 (by decide); clear h118 h119; have h120 := g120; clear g120; clear e
          have Y : (execOp a251.eval o11_13_3).run Try.prog w250 = .ok (.value (.tuple #[.slice va L vc, .bool true, .int .i64 0])) w250 := by unfold o11_13_3; go_simp
          refine st_val g11_13_3 rfl (wanted_free rfl) Y fun a253 e => ?_; clear Y
          have g117 := R.at_ e (by decide); replace R := R.put e; replace h3 := slot_on e h3 (by decide); replace h6 := slot_on e h6 (by decide); clear h120; have h117 := g117; clear g117; clear e
          have Y : (execOp a253.eval o11_13_4).run Try.prog w250 = .ok (.value (.slice va L vc)) w250 := by unfold o11_13_4; go_simp
          refine st_val g11_13_4 rfl (wanted_free rfl) Y fun a255 e => ?_; clear Y
          have g121 := R.at_ e (by decide); replace R := R.put e; replace h3 := slot_on e h3 (by decide); replace h6 := slot_on e h6 (by decide); replace h117 := slot_on e h117 (by decide); have h121 := g121; clear g121; clear e
          have Y : (execOp a255.eval o11_13_5).run Try.prog w250 = .ok (.value (.bool true)) w250 := by unfold o11_13_5; go_simp
          refine st_val g11_13_5 rfl (wanted_free rfl) Y fun a257 e => ?_; clear Y
          have g122 := R.at_ e (by decide); replace R := R.put e; replace h3 := slot_on e h3 (by decide); replace h6 := slot_on e h6 (by decide); replace h117 := slot_on e h117 (by decide); replace h121 := slot_on e h121 (by decide); have h122 := g122; clear g122; clear e
          have Y : (execOp a257.eval o11_13_6).run Try.prog w250 = .ok (.value (.int .i64 0)) w250 := by unfold o11_13_6; go_simp
          refine st_val g11_13_6 rfl (wanted_free rfl) Y fun a259 e => ?_; clear Y
          have g123 := R.at_ e (by decide); replace R := R.put e; replace h3 := slot_on e h3 (by decide); replace h6 := slot_on e h6 (by decide); replace h121 := slot_on e h121 (by decide); replace h122 := slot_on e h122 (by decide); clear h117; have h123 := g123; clear g123; clear e
          have Y : (execOp a259.eval o11_13_7).run Try.prog w250 = .ok (.value (.slice va L vc)) w250 := by unfold o11_13_7; go_simp
          refine st_val g11_13_7 rfl (wanted_free rfl) Y fun a261 e => ?_; clear Y
          have g19 := R.at_ e (by decide); replace R := R.put e; replace h3 := slot_on e h3 (by decide); replace h6 := slot_on e h6 (by decide); replace h122 := slot_on e h122 (by decide); replace h123 := slot_on e h123 (by decide); clear h121; have h19 := g19; clear g19; clear e
          have Y : (execOp a261.eval o11_13_8).run Try.prog w250 = .ok (.value (.bool true)) w250 := by unfold o11_13_8; go_simp
          refine st_val g11_13_8 rfl (wanted_free rfl) Y fun a263 e => ?_; clear Y
          have g20 := R.at_ e (by decide); replace R := R.put e; replace h3 := slot_on e h3 (by decide); replace h6 := slot_on e h6 (by decide); replace h19 := slot_on e h19 (by decide); replace h123 := slot_on e h123 (by decide); clear h122; have h20 := g20; clear g20; clear e
          have Y : (execOp a263.eval o11_13_9).run Try.prog w250 = .ok (.value (.int .i64 0)) w250 := by unfold o11_13_9; go_simp
          refine st_val g11_13_9 rfl (wanted_free rfl) Y fun a265 e => ?_; clear Y
          have g21 := R.at_ e (by decide); replace R := R.put e; replace h3 := slot_on e h3 (by decide); replace h6 := slot_on e h6 (by decide); replace h19 := slot_on e h19 (by decide); replace h20 := slot_on e h20 (by decide); clear h123; have h21 := g21; clear g21; clear e
          refine st_end ?_
          change (c11_44).wp _ _ _ _
          refine wp_seq (x := c11_45) (y := Code.ret) ?_
          change (Code.region 14 O11_14 false).wp _ _ _ _
          refine reg_in (l := [0, 1, 2, 3, 4, 5, 6, 7, 8, 9, 10, 11, 12, 13]) rfl ?_
          have Y : (execOp a265.eval o11_14_0).run Try.prog w250 = .ok (.value (.int .i64 0)) w250 := by unfold o11_14_0; go_simp
          refine st_val g11_14_0 rfl (wanted_free rfl) Y fun a267 e => ?_; clear Y
          have g124 := R.at_ e (by decide); replace R := R.put e; replace h3 := slot_on e h3 (by decide); replace h6 := slot_on e h6 (by decide); replace h19 := slot_on e h19 (by decide); replace h20 := slot_on e h20 (by decide); clear h21; have h124 := g124; clear g124; clear e
          have Y : (execOp a267.eval o11_14_1).run Try.prog w250 = .ok (.value (.bool true)) w250 := by unfold o11_14_1; go_simp
          refine st_val g11_14_1 rfl (wanted_free rfl) Y fun a269 e => ?_; clear Y
          have g125 := R.at_ e (by decide); replace R := R.put e; replace h3 := slot_on e h3 (by decide); replace h6 := slot_on e h6 (by decide); replace h19 := slot_on e h19 (by decide); replace h20 := slot_on e h20 (by decide); clear h124; have h125 := g125; clear g125; clear e
          have Y : (execOp a269.eval o11_14_2).run Try.prog w250 = .ok (.value (.bool true)) w250 := by unfold o11_14_2; go_simp
          refine st_val g11_14_2 rfl (wanted_free rfl) Y fun a271 e => ?_; clear Y
          have g126 := R.at_ e (by decide); replace R := R.put e; replace h3 := slot_on e h3 (by decide); replace h6 := slot_on e h6 (by decide); replace h19 := slot_on e h19 (by decide); replace h20 := slot_on e h20 (by decide); clear h125; have h126 := g126; clear g126; clear e
          have Y : (execOp a271.eval o11_14_3).run Try.prog w250 = .ok (.value (.bool true)) w250 := by unfold o11_14_3; go_simp
          refine st_val g11_14_3 rfl (wanted_is (j := 2) (d := 126) rfl rfl h126 rfl) Y fun a273 e => ?_; clear Y
          have g127 := R.at_ e (by decide); replace R := R.put e; replace h3 := slot_on e h3 (by decide); replace h6 := slot_on e h6 (by decide); replace h19 := slot_on e h19 (by decide); replace h126 := slot_on e h126 (by decide); clear h20; have h127 := g127; clear g127; clear e
          have Y : (execOp a273.eval o11_14_4).run Try.prog w250 = .ok (.value (.bool true)) w250 := by unfold o11_14_4; go_simp
          refine st_val g11_14_4 rfl (wanted_free rfl) Y fun a275 e => ?_; clear Y
          have g128 := R.at_ e (by decide); replace R := R.put e; replace h3 := slot_on e h3 (by decide); replace h6 := slot_on e h6 (by decide); replace h19 := slot_on e h19 (by decide); clear h126 h127; have h128 := g128; clear g128; clear e
          have Y : (execOp a275.eval o11_14_5).run Try.prog w250 = .ok (.value (.bool true)) w250 := by unfold o11_14_5; go_simp
          refine st_val g11_14_5 rfl (wanted_free rfl) Y fun a277 e => ?_; clear Y
          have g129 := R.at_ e (by decide); replace R := R.put e; replace h3 := slot_on e h3 (by decide); replace h6 := slot_on e h6 (by decide); replace h19 := slot_on e h19 (by decide); clear h128; have h129 := g129; clear g129; clear e
          have Y : (execOp a277.eval o11_14_6).run Try.prog w250 = .ok (.value (.slice va L vc)) w250 := by unfold o11_14_6; go_simp
          refine st_val g11_14_6 rfl (wanted_is (j := 5) (d := 129) rfl rfl h129 rfl) Y fun a279 e => ?_; clear Y
          have g130 := R.at_ e (by decide); replace R := R.put e; replace h3 := slot_on e h3 (by decide); replace h6 := slot_on e h6 (by decide); replace h129 := slot_on e h129 (by decide); clear h19; have h130 := g130; clear g130; clear e
          have Y : (execOp a279.eval o11_14_7).run Try.prog w250 = .ok (.value (.int .i64 L)) w250 := by unfold o11_14_7; go_simp
          refine st_val g11_14_7 rfl (wanted_is (j := 5) (d := 129) rfl rfl h129 rfl) Y fun a281 e => ?_; clear Y
          have g131 := R.at_ e (by decide); replace R := R.put e; replace h3 := slot_on e h3 (by decide); replace h6 := slot_on e h6 (by decide); replace h129 := slot_on e h129 (by decide); clear h130; have h131 := g131; clear g131; clear e
          have Y : (execOp a281.eval o11_14_8).run Try.prog w250 = .ok (.value (.agg #[.int .i64 t.k, .string (str t.nm), .int .i64 t.i, .slice ta t.args.length tc])) w250 := by have qq0 : w250.cell? ⟨b1, 0, none⟩ = some (.int .i64 t.k) := B1.cell 0; have qq1 : w250.cell? ⟨b1, 1, none⟩ = some (.string (str t.nm)) := B1.cell 1; have qq2 : w250.cell? ⟨b1, 2, none⟩ = some (.int .i64 t.i) := B1.cell 2; have qq3 : w250.cell? ⟨b1, 3, none⟩ = some (.slice ta t.args.length tc) := B1.cell 3; unfold o11_14_8; go_simp
          refine st_val g11_14_8 rfl (wanted_is (j := 5) (d := 129) rfl rfl h129 rfl) Y fun a283 e => ?_; clear Y
          have g132 := R.at_ e (by decide); replace R := R.put e; replace h6 := slot_on e h6 (by decide); replace h129 := slot_on e h129 (by decide); replace h131 := slot_on e h131 (by decide); clear h3; have h132 := g132; clear g132; clear e
          have Y : (execOp a283.eval o11_14_9).run Try.prog w250 = .ok (.enter 18 #[.agg #[.int .i64 t.k, .string (str t.nm), .int .i64 t.i, .slice ta t.args.length tc]]) w250 := by unfold o11_14_9; go_simp
          refine st_call g11_14_9 rfl (wanted_is (j := 5) (d := 129) rfl rfl h129 rfl) Y ((vars_sx (HT.out.on K1) rfl HVA.out).mono ?_); clear Y
          rintro e9 w285 ⟨gb, ub, uc, rfl, hrow, kk⟩
          replace K1 := keep_onto K1 kk
          replace KX1 := keep_onto KX1 kk
          replace KX2 := keep_onto KX2 kk
          replace KX3 := keep_onto KX3 kk
          replace KX4 := keep_onto KX4 kk
          replace B1 := blk_on B1 kk
          replace B70 := blk_on B70 kk
          replace B94 := blk_on B94 kk
          replace B118 := blk_on B118 kk
          replace B207 := blk_on B207 kk
          clear kk
          clear hrow
          refine ⟨_, rfl, fun a286 e => ?_⟩
          have g133 := R.at_ e (by decide); replace R := R.put e; replace h6 := slot_on e h6 (by decide); replace h129 := slot_on e h129 (by decide); replace h131 := slot_on e h131 (by decide); clear h132; have h133 := g133; clear g133; clear e
          have Y : (execOp a286.eval o11_14_10).run Try.prog w285 = .ok (.value (.int .i64 L)) w285 := by unfold o11_14_10; go_simp
          refine st_val g11_14_10 rfl (wanted_is (j := 5) (d := 129) rfl rfl h129 rfl) Y fun a288 e => ?_; clear Y
          have g134 := R.at_ e (by decide); replace R := R.put e; replace h6 := slot_on e h6 (by decide); replace h129 := slot_on e h129 (by decide); replace h131 := slot_on e h131 (by decide); clear h133; have h134 := g134; clear g134; clear e
          have Y : (execOp a288.eval o11_14_11).run Try.prog w285 = .ok (.value (.bool true)) w285 := by unfold o11_14_11; go_simp
          refine st_val g11_14_11 rfl (wanted_is (j := 5) (d := 129) rfl rfl h129 rfl) Y fun a290 e => ?_; clear Y
          have g135 := R.at_ e (by decide); replace R := R.put e; replace h6 := slot_on e h6 (by decide); replace h129 := slot_on e h129 (by decide); clear h131 h134; have h135 := g135; clear g135; clear e
          have Y : (execOp a290.eval o11_14_12).run Try.prog w285 = .ok (.value (.bool true)) w285 := by unfold o11_14_12; go_simp
          refine st_val g11_14_12 rfl (wanted_free rfl) Y fun a292 e => ?_; clear Y
          have g136 := R.at_ e (by decide); replace R := R.put e; replace h6 := slot_on e h6 (by decide); clear h129 h135; have h136 := g136; clear g136; clear e
          have Y : (execOp a292.eval o11_14_13).run Try.prog w285 = .ok (.value (.bool true)) w285 := by unfold o11_14_13; go_simp
          refine st_val g11_14_13 rfl (wanted_free rfl) Y fun a294 e => ?_; clear Y
          have g6 := R.at_ e (by decide); replace R := R.put e; clear h6 h136; have h6 := g6; clear g6; clear e
          refine st_end ?_
          change (Code.ret).wp _ _ _ _
          refine wp_ret ?_
          change bodyPost Try.prog Try.f11 (fun e w' => e = .returned (.bool true) ∧ Keep (fun g => g < W.heap.size) W w') .ret a294 w285
          refine ret_one rfl R h6 ?_
          exact ⟨rfl, K1⟩
        | true =>
          have fb50 := hb50; clear hb50
          simp only [decide_eq_true_eq, decide_eq_false_iff_not, Bool.not_eq_true', Bool.not_eq_false', Bool.not_eq_eq_eq_not, Bool.not_true, Bool.not_false] at fb50
          refine wp_cond_true (x := c11_14) (y := Code.skip) (eval_slot h42) ?_
          refine wp_seq (x := c11_15) (y := Code.ret) ?_
          change (Code.region 4 O11_4 false).wp _ _ _ _
          refine reg_in (l := [0]) rfl ?_
          have Y : (execOp a53.eval o11_4_0).run Try.prog w14 = .ok (.value (.bool true)) w14 := by unfold o11_4_0; go_simp
          refine st_val g11_4_0 rfl (wanted_free rfl) Y fun a296 e => ?_; clear Y
          have g6 := R.at_ e (by decide); replace R := R.put e; replace h1 := slot_on e h1 (by decide); replace h2 := slot_on e h2 (by decide); replace h3 := slot_on e h3 (by decide); clear h6 h42; have h6 := g6; clear g6; clear e
          refine st_end ?_
          change (Code.ret).wp _ _ _ _
          refine wp_ret ?_
          change bodyPost Try.prog Try.f11 (fun e w' => e = .returned (.bool true) ∧ Keep (fun g => g < W.heap.size) W w') .ret a296 w14
          refine ret_one rfl R h6 ?_
          exact ⟨rfl, K1⟩
      | true =>
        have fb41 := hb41; clear hb41
        simp only [decide_eq_true_eq, decide_eq_false_iff_not, Bool.not_eq_true', Bool.not_eq_false', Bool.not_eq_eq_eq_not, Bool.not_true, Bool.not_false] at fb41
        refine st_not g11_3_16 rfl (wanted_is (j := 15) (d := 39) rfl rfl h39 rfl) fun a298 e => ?_
        have g40 := R.at_ e (by decide); replace R := R.put e; replace h1 := slot_on e h1 (by decide); replace h2 := slot_on e h2 (by decide); replace h3 := slot_on e h3 (by decide); replace h6 := slot_on e h6 (by decide); replace h39 := slot_on e h39 (by decide); have h40 := g40; clear g40; clear e
        refine st_not g11_3_17 rfl (wanted_is (j := 15) (d := 39) rfl rfl h39 rfl) fun a300 e => ?_
        have g41 := R.at_ e (by decide); replace R := R.put e; replace h1 := slot_on e h1 (by decide); replace h2 := slot_on e h2 (by decide); replace h3 := slot_on e h3 (by decide); replace h6 := slot_on e h6 (by decide); replace h39 := slot_on e h39 (by decide); clear h40; have h41 := g41; clear g41; clear e
        have Y : (execOp a300.eval o11_3_18).run Try.prog w14 = .ok (.value (.bool true)) w14 := by unfold o11_3_18; go_simp
        refine st_val g11_3_18 rfl (wanted_free rfl) Y fun a302 e => ?_; clear Y
        have g42 := R.at_ e (by decide); replace R := R.put e; replace h1 := slot_on e h1 (by decide); replace h2 := slot_on e h2 (by decide); replace h3 := slot_on e h3 (by decide); replace h6 := slot_on e h6 (by decide); clear h39 h41; have h42 := g42; clear g42; clear e
        refine st_end ?_
        change (c11_13).wp _ _ _ _
        refine wp_cond_true (x := c11_14) (y := Code.skip) (eval_slot h42) ?_
        refine wp_seq (x := c11_15) (y := Code.ret) ?_
        change (Code.region 4 O11_4 false).wp _ _ _ _
        refine reg_in (l := [0]) rfl ?_
        have Y : (execOp a302.eval o11_4_0).run Try.prog w14 = .ok (.value (.bool true)) w14 := by unfold o11_4_0; go_simp
        refine st_val g11_4_0 rfl (wanted_free rfl) Y fun a304 e => ?_; clear Y
        have g6 := R.at_ e (by decide); replace R := R.put e; replace h1 := slot_on e h1 (by decide); replace h2 := slot_on e h2 (by decide); replace h3 := slot_on e h3 (by decide); clear h6 h42; have h6 := g6; clear g6; clear e
        refine st_end ?_
        change (Code.ret).wp _ _ _ _
        refine wp_ret ?_
        change bodyPost Try.prog Try.f11 (fun e w' => e = .returned (.bool true) ∧ Keep (fun g => g < W.heap.size) W w') .ret a304 w14
        refine ret_one rfl R h6 ?_
        exact ⟨rfl, K1⟩
    | true =>
      have fb32 := hb32; clear hb32
      simp only [decide_eq_true_eq, decide_eq_false_iff_not, Bool.not_eq_true', Bool.not_eq_false', Bool.not_eq_eq_eq_not, Bool.not_true, Bool.not_false] at fb32
      refine st_not g11_3_12 rfl (wanted_is (j := 11) (d := 35) rfl rfl h35 rfl) fun a306 e => ?_
      have g36 := R.at_ e (by decide); replace R := R.put e; replace h1 := slot_on e h1 (by decide); replace h2 := slot_on e h2 (by decide); replace h3 := slot_on e h3 (by decide); replace h6 := slot_on e h6 (by decide); replace h35 := slot_on e h35 (by decide); have h36 := g36; clear g36; clear e
      refine st_not g11_3_13 rfl (wanted_is (j := 11) (d := 35) rfl rfl h35 rfl) fun a308 e => ?_
      have g37 := R.at_ e (by decide); replace R := R.put e; replace h1 := slot_on e h1 (by decide); replace h2 := slot_on e h2 (by decide); replace h3 := slot_on e h3 (by decide); replace h6 := slot_on e h6 (by decide); replace h35 := slot_on e h35 (by decide); clear h36; have h37 := g37; clear g37; clear e
      have Y : (execOp a308.eval o11_3_14).run Try.prog w14 = .ok (.value (.bool true)) w14 := by unfold o11_3_14; go_simp
      refine st_val g11_3_14 rfl (wanted_free rfl) Y fun a310 e => ?_; clear Y
      have g38 := R.at_ e (by decide); replace R := R.put e; replace h1 := slot_on e h1 (by decide); replace h2 := slot_on e h2 (by decide); replace h3 := slot_on e h3 (by decide); replace h6 := slot_on e h6 (by decide); clear h35 h37; have h38 := g38; clear g38; clear e
      have Y : (execOp a310.eval o11_3_15).run Try.prog w14 = .ok (.value (.bool true)) w14 := by unfold o11_3_15; go_simp
      refine st_val g11_3_15 rfl (wanted_free rfl) Y fun a312 e => ?_; clear Y
      have g39 := R.at_ e (by decide); replace R := R.put e; replace h1 := slot_on e h1 (by decide); replace h2 := slot_on e h2 (by decide); replace h3 := slot_on e h3 (by decide); replace h6 := slot_on e h6 (by decide); clear h38; have h39 := g39; clear g39; clear e
      refine st_not g11_3_16 rfl (wanted_is (j := 15) (d := 39) rfl rfl h39 rfl) fun a314 e => ?_
      have g40 := R.at_ e (by decide); replace R := R.put e; replace h1 := slot_on e h1 (by decide); replace h2 := slot_on e h2 (by decide); replace h3 := slot_on e h3 (by decide); replace h6 := slot_on e h6 (by decide); replace h39 := slot_on e h39 (by decide); have h40 := g40; clear g40; clear e
      refine st_not g11_3_17 rfl (wanted_is (j := 15) (d := 39) rfl rfl h39 rfl) fun a316 e => ?_
      have g41 := R.at_ e (by decide); replace R := R.put e; replace h1 := slot_on e h1 (by decide); replace h2 := slot_on e h2 (by decide); replace h3 := slot_on e h3 (by decide); replace h6 := slot_on e h6 (by decide); replace h39 := slot_on e h39 (by decide); clear h40; have h41 := g41; clear g41; clear e
      have Y : (execOp a316.eval o11_3_18).run Try.prog w14 = .ok (.value (.bool true)) w14 := by unfold o11_3_18; go_simp
      refine st_val g11_3_18 rfl (wanted_free rfl) Y fun a318 e => ?_; clear Y
      have g42 := R.at_ e (by decide); replace R := R.put e; replace h1 := slot_on e h1 (by decide); replace h2 := slot_on e h2 (by decide); replace h3 := slot_on e h3 (by decide); replace h6 := slot_on e h6 (by decide); clear h39 h41; have h42 := g42; clear g42; clear e
      refine st_end ?_
      change (c11_13).wp _ _ _ _
      refine wp_cond_true (x := c11_14) (y := Code.skip) (eval_slot h42) ?_
      refine wp_seq (x := c11_15) (y := Code.ret) ?_
      change (Code.region 4 O11_4 false).wp _ _ _ _
      refine reg_in (l := [0]) rfl ?_
      have Y : (execOp a318.eval o11_4_0).run Try.prog w14 = .ok (.value (.bool true)) w14 := by unfold o11_4_0; go_simp
      refine st_val g11_4_0 rfl (wanted_free rfl) Y fun a320 e => ?_; clear Y
      have g6 := R.at_ e (by decide); replace R := R.put e; replace h1 := slot_on e h1 (by decide); replace h2 := slot_on e h2 (by decide); replace h3 := slot_on e h3 (by decide); clear h6 h42; have h6 := g6; clear g6; clear e
      refine st_end ?_
      change (Code.ret).wp _ _ _ _
      refine wp_ret ?_
      change bodyPost Try.prog Try.f11 (fun e w' => e = .returned (.bool true) ∧ Keep (fun g => g < W.heap.size) W w') .ret a320 w14
      refine ret_one rfl R h6 ?_
      exact ⟨rfl, K1⟩
  | true =>
    have fb23 := hb23; clear hb23
    simp only [decide_eq_true_eq, decide_eq_false_iff_not, Bool.not_eq_true', Bool.not_eq_false', Bool.not_eq_eq_eq_not, Bool.not_true, Bool.not_false] at fb23
    refine st_not g11_3_8 rfl (wanted_is (j := 7) (d := 31) rfl rfl h31 rfl) fun a322 e => ?_
    have g32 := R.at_ e (by decide); replace R := R.put e; replace h1 := slot_on e h1 (by decide); replace h2 := slot_on e h2 (by decide); replace h3 := slot_on e h3 (by decide); replace h6 := slot_on e h6 (by decide); replace h31 := slot_on e h31 (by decide); have h32 := g32; clear g32; clear e
    refine st_not g11_3_9 rfl (wanted_is (j := 7) (d := 31) rfl rfl h31 rfl) fun a324 e => ?_
    have g33 := R.at_ e (by decide); replace R := R.put e; replace h1 := slot_on e h1 (by decide); replace h2 := slot_on e h2 (by decide); replace h3 := slot_on e h3 (by decide); replace h6 := slot_on e h6 (by decide); replace h31 := slot_on e h31 (by decide); clear h32; have h33 := g33; clear g33; clear e
    have Y : (execOp a324.eval o11_3_10).run Try.prog w14 = .ok (.value (.bool true)) w14 := by unfold o11_3_10; go_simp
    refine st_val g11_3_10 rfl (wanted_free rfl) Y fun a326 e => ?_; clear Y
    have g34 := R.at_ e (by decide); replace R := R.put e; replace h1 := slot_on e h1 (by decide); replace h2 := slot_on e h2 (by decide); replace h3 := slot_on e h3 (by decide); replace h6 := slot_on e h6 (by decide); clear h31 h33; have h34 := g34; clear g34; clear e
    have Y : (execOp a326.eval o11_3_11).run Try.prog w14 = .ok (.value (.bool true)) w14 := by unfold o11_3_11; go_simp
    refine st_val g11_3_11 rfl (wanted_free rfl) Y fun a328 e => ?_; clear Y
    have g35 := R.at_ e (by decide); replace R := R.put e; replace h1 := slot_on e h1 (by decide); replace h2 := slot_on e h2 (by decide); replace h3 := slot_on e h3 (by decide); replace h6 := slot_on e h6 (by decide); clear h34; have h35 := g35; clear g35; clear e
    refine st_not g11_3_12 rfl (wanted_is (j := 11) (d := 35) rfl rfl h35 rfl) fun a330 e => ?_
    have g36 := R.at_ e (by decide); replace R := R.put e; replace h1 := slot_on e h1 (by decide); replace h2 := slot_on e h2 (by decide); replace h3 := slot_on e h3 (by decide); replace h6 := slot_on e h6 (by decide); replace h35 := slot_on e h35 (by decide); have h36 := g36; clear g36; clear e
    refine st_not g11_3_13 rfl (wanted_is (j := 11) (d := 35) rfl rfl h35 rfl) fun a332 e => ?_
    have g37 := R.at_ e (by decide); replace R := R.put e; replace h1 := slot_on e h1 (by decide); replace h2 := slot_on e h2 (by decide); replace h3 := slot_on e h3 (by decide); replace h6 := slot_on e h6 (by decide); replace h35 := slot_on e h35 (by decide); clear h36; have h37 := g37; clear g37; clear e
    have Y : (execOp a332.eval o11_3_14).run Try.prog w14 = .ok (.value (.bool true)) w14 := by unfold o11_3_14; go_simp
    refine st_val g11_3_14 rfl (wanted_free rfl) Y fun a334 e => ?_; clear Y
    have g38 := R.at_ e (by decide); replace R := R.put e; replace h1 := slot_on e h1 (by decide); replace h2 := slot_on e h2 (by decide); replace h3 := slot_on e h3 (by decide); replace h6 := slot_on e h6 (by decide); clear h35 h37; have h38 := g38; clear g38; clear e
    have Y : (execOp a334.eval o11_3_15).run Try.prog w14 = .ok (.value (.bool true)) w14 := by unfold o11_3_15; go_simp
    refine st_val g11_3_15 rfl (wanted_free rfl) Y fun a336 e => ?_; clear Y
    have g39 := R.at_ e (by decide); replace R := R.put e; replace h1 := slot_on e h1 (by decide); replace h2 := slot_on e h2 (by decide); replace h3 := slot_on e h3 (by decide); replace h6 := slot_on e h6 (by decide); clear h38; have h39 := g39; clear g39; clear e
    refine st_not g11_3_16 rfl (wanted_is (j := 15) (d := 39) rfl rfl h39 rfl) fun a338 e => ?_
    have g40 := R.at_ e (by decide); replace R := R.put e; replace h1 := slot_on e h1 (by decide); replace h2 := slot_on e h2 (by decide); replace h3 := slot_on e h3 (by decide); replace h6 := slot_on e h6 (by decide); replace h39 := slot_on e h39 (by decide); have h40 := g40; clear g40; clear e
    refine st_not g11_3_17 rfl (wanted_is (j := 15) (d := 39) rfl rfl h39 rfl) fun a340 e => ?_
    have g41 := R.at_ e (by decide); replace R := R.put e; replace h1 := slot_on e h1 (by decide); replace h2 := slot_on e h2 (by decide); replace h3 := slot_on e h3 (by decide); replace h6 := slot_on e h6 (by decide); replace h39 := slot_on e h39 (by decide); clear h40; have h41 := g41; clear g41; clear e
    have Y : (execOp a340.eval o11_3_18).run Try.prog w14 = .ok (.value (.bool true)) w14 := by unfold o11_3_18; go_simp
    refine st_val g11_3_18 rfl (wanted_free rfl) Y fun a342 e => ?_; clear Y
    have g42 := R.at_ e (by decide); replace R := R.put e; replace h1 := slot_on e h1 (by decide); replace h2 := slot_on e h2 (by decide); replace h3 := slot_on e h3 (by decide); replace h6 := slot_on e h6 (by decide); clear h39 h41; have h42 := g42; clear g42; clear e
    refine st_end ?_
    change (c11_13).wp _ _ _ _
    refine wp_cond_true (x := c11_14) (y := Code.skip) (eval_slot h42) ?_
    refine wp_seq (x := c11_15) (y := Code.ret) ?_
    change (Code.region 4 O11_4 false).wp _ _ _ _
    refine reg_in (l := [0]) rfl ?_
    have Y : (execOp a342.eval o11_4_0).run Try.prog w14 = .ok (.value (.bool true)) w14 := by unfold o11_4_0; go_simp
    refine st_val g11_4_0 rfl (wanted_free rfl) Y fun a344 e => ?_; clear Y
    have g6 := R.at_ e (by decide); replace R := R.put e; replace h1 := slot_on e h1 (by decide); replace h2 := slot_on e h2 (by decide); replace h3 := slot_on e h3 (by decide); clear h6 h42; have h6 := g6; clear g6; clear e
    refine st_end ?_
    change (Code.ret).wp _ _ _ _
    refine wp_ret ?_
    change bodyPost Try.prog Try.f11 (fun e w' => e = .returned (.bool true) ∧ Keep (fun g => g < W.heap.size) W w') .ret a344 w14
    refine ret_one rfl R h6 ?_
    exact ⟨rfl, K1⟩

set_option maxRecDepth 100000 in
set_option maxHeartbeats 4000000 in
theorem rw_f {W : World} {t : Tm} {ta : Option Addr} {tc : Nat} {ma mb : Int} {f0 : Act} {w0 : World} (R : FrS 137 f0) (h0 : f0.tmps[0]? = some (.agg #[.int .i64 t.k, .string (str t.nm), .int .i64 t.i, .slice ta t.args.length tc])) (h1 : f0.tmps[1]? = some (.int .i64 ma)) (h2 : f0.tmps[2]? = some (.int .i64 mb)) (K1 : Keep (fun g => g < W.heap.size) W w0)  (HT : Hid (TmAt W.heap.size W t ta tc)) (HR : Hid (t.right = false)) : c11_0.wp Try.prog (bodyPost Try.prog Try.f11 (fun e w' => e = .returned (.bool true) ∧ Keep (fun g => g < W.heap.size) W w')) f0 w0 := by
  refine wp_seq (x := c11_1) (y := c11_2) ?_
  change (Code.region 0 O11_0 false).wp _ _ _ _
  refine reg_in (l := [0, 1]) rfl ?_
  have MK1 := K1
  have Y : (execOp f0.eval o11_0_0).run Try.prog w0 = .ok (.value (.pointer (some ⟨w0.heap.size, 0, none⟩))) (w0.alloc (.cells #[.int .i64 t.k, .string (str t.nm), .int .i64 t.i, .slice ta t.args.length tc] 24)) := by unfold o11_0_0; go_simp
  have B346 := Blk.new w0 24 #[.int .i64 t.k, .string (str t.nm), .int .i64 t.i, .slice ta t.args.length tc]
  replace K1 := K1.alloc (.cells #[.int .i64 t.k, .string (str t.nm), .int .i64 t.i, .slice ta t.args.length tc] 24)
  obtain ⟨w347, hw347⟩ : ∃ x, x = w0.alloc (.cells #[.int .i64 t.k, .string (str t.nm), .int .i64 t.i, .slice ta t.args.length tc] 24) := ⟨_, rfl⟩
  rw [← hw347] at Y B346 K1
  obtain ⟨b346, hb346⟩ : ∃ x, x = w0.heap.size := ⟨_, rfl⟩
  rw [← hb346] at Y B346
  have LK1_b346 : W.heap.size ≤ b346 := by rw [hb346]; first | exact Nat.le_refl _ | exact MK1.size
  clear hw347 hb346 MK1
  refine st_val g11_0_0 rfl (wanted_free rfl) Y fun a348 e => ?_; clear Y
  have g3 := R.at_ e (by decide); replace R := R.put e; replace h1 := slot_on e h1 (by decide); replace h2 := slot_on e h2 (by decide); clear h0; have h3 := g3; clear g3; clear e
  have Y : (execOp a348.eval o11_0_1).run Try.prog w347 = .ok (.value (.bool false)) w347 := by unfold o11_0_1; go_simp
  refine st_val g11_0_1 rfl (wanted_free rfl) Y fun a350 e => ?_; clear Y
  have g6 := R.at_ e (by decide); replace R := R.put e; replace h1 := slot_on e h1 (by decide); replace h2 := slot_on e h2 (by decide); replace h3 := slot_on e h3 (by decide); have h6 := g6; clear g6; clear e
  refine st_end ?_
  change (c11_2).wp _ _ _ _
  refine wp_seq (x := c11_3) (y := c11_10) ?_
  refine wp_seq (x := c11_4) (y := c11_5) ?_
  change (Code.region 1 O11_1 false).wp _ _ _ _
  refine reg_in (l := [0, 1]) rfl ?_
  have Y : (execOp a350.eval o11_1_0).run Try.prog w347 = .ok (.enter 13 #[]) w347 := by unfold o11_1_0; go_simp
  refine st_call g11_1_0 rfl (wanted_free rfl) Y ((alive_any (w := w347)).mono ?_); clear Y
  rintro e9 w352 ⟨rfl, kk⟩
  replace K1 := keep_onto K1 kk
  replace B346 := blk_on B346 kk
  clear kk
  refine ⟨_, rfl, fun a353 e => ?_⟩
  have g22 := R.at_ e (by decide); replace R := R.put e; replace h1 := slot_on e h1 (by decide); replace h2 := slot_on e h2 (by decide); replace h3 := slot_on e h3 (by decide); replace h6 := slot_on e h6 (by decide); have h22 := g22; clear g22; clear e
  have Y : (execOp a353.eval o11_1_1).run Try.prog w352 = .ok (.value (.bool false)) w352 := by unfold o11_1_1; go_simp
  refine st_val g11_1_1 rfl (wanted_free rfl) Y fun a355 e => ?_; clear Y
  have g23 := R.at_ e (by decide); replace R := R.put e; replace h1 := slot_on e h1 (by decide); replace h2 := slot_on e h2 (by decide); replace h3 := slot_on e h3 (by decide); replace h6 := slot_on e h6 (by decide); clear h22; have h23 := g23; clear g23; clear e
  refine st_end ?_
  change (c11_5).wp _ _ _ _
  refine wp_cond_false (x := c11_6) (y := Code.skip) (eval_slot h23) ?_
  refine wp_skip ?_
  change (c11_10).wp _ _ _ _
  refine wp_seq (x := c11_11) (y := c11_18) ?_
  refine wp_seq (x := c11_12) (y := c11_13) ?_
  change (Code.region 3 O11_3 false).wp _ _ _ _
  refine reg_in (l := [0, 1, 2, 3, 4, 5, 6, 7, 8, 9, 10, 11, 12, 13, 14, 15, 16, 17, 18]) rfl ?_
  have Y : (execOp a355.eval o11_3_0).run Try.prog w352 = .ok (.value (.agg #[.int .i64 t.k, .string (str t.nm), .int .i64 t.i, .slice ta t.args.length tc])) w352 := by have qq0 : w352.cell? ⟨b346, 0, none⟩ = some (.int .i64 t.k) := B346.cell 0; have qq1 : w352.cell? ⟨b346, 1, none⟩ = some (.string (str t.nm)) := B346.cell 1; have qq2 : w352.cell? ⟨b346, 2, none⟩ = some (.int .i64 t.i) := B346.cell 2; have qq3 : w352.cell? ⟨b346, 3, none⟩ = some (.slice ta t.args.length tc) := B346.cell 3; unfold o11_3_0; go_simp
  refine st_val g11_3_0 rfl (wanted_free rfl) Y fun a357 e => ?_; clear Y
  have g24 := R.at_ e (by decide); replace R := R.put e; replace h1 := slot_on e h1 (by decide); replace h2 := slot_on e h2 (by decide); replace h3 := slot_on e h3 (by decide); replace h6 := slot_on e h6 (by decide); clear h23; have h24 := g24; clear g24; clear e
  have Y : (execOp a357.eval o11_3_1).run Try.prog w352 = .ok (.enter 15 #[.agg #[.int .i64 t.k, .string (str t.nm), .int .i64 t.i, .slice ta t.args.length tc]]) w352 := by unfold o11_3_1; go_simp
  refine st_call g11_3_1 rfl (wanted_free rfl) Y ((check_f (HT.out.on K1) HR.out).mono ?_); clear Y
  rintro e9 w359 ⟨rfl, kk⟩
  replace K1 := keep_onto K1 kk
  replace B346 := blk_on B346 kk
  clear kk
  refine ⟨_, rfl, fun a360 e => ?_⟩
  have g25 := R.at_ e (by decide); replace R := R.put e; replace h1 := slot_on e h1 (by decide); replace h2 := slot_on e h2 (by decide); replace h3 := slot_on e h3 (by decide); replace h6 := slot_on e h6 (by decide); clear h24; have h25 := g25; clear g25; clear e
  have Y : (execOp a360.eval o11_3_2).run Try.prog w359 = .ok (.value (.bool true)) w359 := by unfold o11_3_2; go_simp
  refine st_val g11_3_2 rfl (wanted_free rfl) Y fun a362 e => ?_; clear Y
  have g26 := R.at_ e (by decide); replace R := R.put e; replace h1 := slot_on e h1 (by decide); replace h2 := slot_on e h2 (by decide); replace h3 := slot_on e h3 (by decide); replace h6 := slot_on e h6 (by decide); clear h25; have h26 := g26; clear g26; clear e
  have Y : (execOp a362.eval o11_3_3).run Try.prog w359 = .ok (.value (.bool true)) w359 := by unfold o11_3_3; go_simp
  refine st_val g11_3_3 rfl (wanted_free rfl) Y fun a364 e => ?_; clear Y
  have g27 := R.at_ e (by decide); replace R := R.put e; replace h1 := slot_on e h1 (by decide); replace h2 := slot_on e h2 (by decide); replace h3 := slot_on e h3 (by decide); replace h6 := slot_on e h6 (by decide); clear h26; have h27 := g27; clear g27; clear e
  refine st_not g11_3_4 rfl (wanted_is (j := 3) (d := 27) rfl rfl h27 rfl) fun a366 e => ?_
  have g28 := R.at_ e (by decide); replace R := R.put e; replace h1 := slot_on e h1 (by decide); replace h2 := slot_on e h2 (by decide); replace h3 := slot_on e h3 (by decide); replace h6 := slot_on e h6 (by decide); replace h27 := slot_on e h27 (by decide); have h28 := g28; clear g28; clear e
  refine st_not g11_3_5 rfl (wanted_is (j := 3) (d := 27) rfl rfl h27 rfl) fun a368 e => ?_
  have g29 := R.at_ e (by decide); replace R := R.put e; replace h1 := slot_on e h1 (by decide); replace h2 := slot_on e h2 (by decide); replace h3 := slot_on e h3 (by decide); replace h6 := slot_on e h6 (by decide); replace h27 := slot_on e h27 (by decide); clear h28; have h29 := g29; clear g29; clear e
  have Y : (execOp a368.eval o11_3_6).run Try.prog w359 = .ok (.value (.bool true)) w359 := by unfold o11_3_6; go_simp
  refine st_val g11_3_6 rfl (wanted_free rfl) Y fun a370 e => ?_; clear Y
  have g30 := R.at_ e (by decide); replace R := R.put e; replace h1 := slot_on e h1 (by decide); replace h2 := slot_on e h2 (by decide); replace h3 := slot_on e h3 (by decide); replace h6 := slot_on e h6 (by decide); clear h27 h29; have h30 := g30; clear g30; clear e
  have Y : (execOp a370.eval o11_3_7).run Try.prog w359 = .ok (.value (.bool true)) w359 := by unfold o11_3_7; go_simp
  refine st_val g11_3_7 rfl (wanted_free rfl) Y fun a372 e => ?_; clear Y
  have g31 := R.at_ e (by decide); replace R := R.put e; replace h1 := slot_on e h1 (by decide); replace h2 := slot_on e h2 (by decide); replace h3 := slot_on e h3 (by decide); replace h6 := slot_on e h6 (by decide); clear h30; have h31 := g31; clear g31; clear e
  refine st_not g11_3_8 rfl (wanted_is (j := 7) (d := 31) rfl rfl h31 rfl) fun a374 e => ?_
  have g32 := R.at_ e (by decide); replace R := R.put e; replace h1 := slot_on e h1 (by decide); replace h2 := slot_on e h2 (by decide); replace h3 := slot_on e h3 (by decide); replace h6 := slot_on e h6 (by decide); replace h31 := slot_on e h31 (by decide); have h32 := g32; clear g32; clear e
  refine st_not g11_3_9 rfl (wanted_is (j := 7) (d := 31) rfl rfl h31 rfl) fun a376 e => ?_
  have g33 := R.at_ e (by decide); replace R := R.put e; replace h1 := slot_on e h1 (by decide); replace h2 := slot_on e h2 (by decide); replace h3 := slot_on e h3 (by decide); replace h6 := slot_on e h6 (by decide); replace h31 := slot_on e h31 (by decide); clear h32; have h33 := g33; clear g33; clear e
  have Y : (execOp a376.eval o11_3_10).run Try.prog w359 = .ok (.value (.bool true)) w359 := by unfold o11_3_10; go_simp
  refine st_val g11_3_10 rfl (wanted_free rfl) Y fun a378 e => ?_; clear Y
  have g34 := R.at_ e (by decide); replace R := R.put e; replace h1 := slot_on e h1 (by decide); replace h2 := slot_on e h2 (by decide); replace h3 := slot_on e h3 (by decide); replace h6 := slot_on e h6 (by decide); clear h31 h33; have h34 := g34; clear g34; clear e
  have Y : (execOp a378.eval o11_3_11).run Try.prog w359 = .ok (.value (.bool true)) w359 := by unfold o11_3_11; go_simp
  refine st_val g11_3_11 rfl (wanted_free rfl) Y fun a380 e => ?_; clear Y
  have g35 := R.at_ e (by decide); replace R := R.put e; replace h1 := slot_on e h1 (by decide); replace h2 := slot_on e h2 (by decide); replace h3 := slot_on e h3 (by decide); replace h6 := slot_on e h6 (by decide); clear h34; have h35 := g35; clear g35; clear e
  refine st_not g11_3_12 rfl (wanted_is (j := 11) (d := 35) rfl rfl h35 rfl) fun a382 e => ?_
  have g36 := R.at_ e (by decide); replace R := R.put e; replace h1 := slot_on e h1 (by decide); replace h2 := slot_on e h2 (by decide); replace h3 := slot_on e h3 (by decide); replace h6 := slot_on e h6 (by decide); replace h35 := slot_on e h35 (by decide); have h36 := g36; clear g36; clear e
  refine st_not g11_3_13 rfl (wanted_is (j := 11) (d := 35) rfl rfl h35 rfl) fun a384 e => ?_
  have g37 := R.at_ e (by decide); replace R := R.put e; replace h1 := slot_on e h1 (by decide); replace h2 := slot_on e h2 (by decide); replace h3 := slot_on e h3 (by decide); replace h6 := slot_on e h6 (by decide); replace h35 := slot_on e h35 (by decide); clear h36; have h37 := g37; clear g37; clear e
  have Y : (execOp a384.eval o11_3_14).run Try.prog w359 = .ok (.value (.bool true)) w359 := by unfold o11_3_14; go_simp
  refine st_val g11_3_14 rfl (wanted_free rfl) Y fun a386 e => ?_; clear Y
  have g38 := R.at_ e (by decide); replace R := R.put e; replace h1 := slot_on e h1 (by decide); replace h2 := slot_on e h2 (by decide); replace h3 := slot_on e h3 (by decide); replace h6 := slot_on e h6 (by decide); clear h35 h37; have h38 := g38; clear g38; clear e
  have Y : (execOp a386.eval o11_3_15).run Try.prog w359 = .ok (.value (.bool true)) w359 := by unfold o11_3_15; go_simp
  refine st_val g11_3_15 rfl (wanted_free rfl) Y fun a388 e => ?_; clear Y
  have g39 := R.at_ e (by decide); replace R := R.put e; replace h1 := slot_on e h1 (by decide); replace h2 := slot_on e h2 (by decide); replace h3 := slot_on e h3 (by decide); replace h6 := slot_on e h6 (by decide); clear h38; have h39 := g39; clear g39; clear e
  refine st_not g11_3_16 rfl (wanted_is (j := 15) (d := 39) rfl rfl h39 rfl) fun a390 e => ?_
  have g40 := R.at_ e (by decide); replace R := R.put e; replace h1 := slot_on e h1 (by decide); replace h2 := slot_on e h2 (by decide); replace h3 := slot_on e h3 (by decide); replace h6 := slot_on e h6 (by decide); replace h39 := slot_on e h39 (by decide); have h40 := g40; clear g40; clear e
  refine st_not g11_3_17 rfl (wanted_is (j := 15) (d := 39) rfl rfl h39 rfl) fun a392 e => ?_
  have g41 := R.at_ e (by decide); replace R := R.put e; replace h1 := slot_on e h1 (by decide); replace h2 := slot_on e h2 (by decide); replace h3 := slot_on e h3 (by decide); replace h6 := slot_on e h6 (by decide); replace h39 := slot_on e h39 (by decide); clear h40; have h41 := g41; clear g41; clear e
  have Y : (execOp a392.eval o11_3_18).run Try.prog w359 = .ok (.value (.bool true)) w359 := by unfold o11_3_18; go_simp
  refine st_val g11_3_18 rfl (wanted_free rfl) Y fun a394 e => ?_; clear Y
  have g42 := R.at_ e (by decide); replace R := R.put e; replace h1 := slot_on e h1 (by decide); replace h2 := slot_on e h2 (by decide); replace h3 := slot_on e h3 (by decide); replace h6 := slot_on e h6 (by decide); clear h39 h41; have h42 := g42; clear g42; clear e
  refine st_end ?_
  change (c11_13).wp _ _ _ _
  refine wp_cond_true (x := c11_14) (y := Code.skip) (eval_slot h42) ?_
  refine wp_seq (x := c11_15) (y := Code.ret) ?_
  change (Code.region 4 O11_4 false).wp _ _ _ _
  refine reg_in (l := [0]) rfl ?_
  have Y : (execOp a394.eval o11_4_0).run Try.prog w359 = .ok (.value (.bool true)) w359 := by unfold o11_4_0; go_simp
  refine st_val g11_4_0 rfl (wanted_free rfl) Y fun a396 e => ?_; clear Y
  have g6 := R.at_ e (by decide); replace R := R.put e; replace h1 := slot_on e h1 (by decide); replace h2 := slot_on e h2 (by decide); replace h3 := slot_on e h3 (by decide); clear h6 h42; have h6 := g6; clear g6; clear e
  refine st_end ?_
  change (Code.ret).wp _ _ _ _
  refine wp_ret ?_
  change bodyPost Try.prog Try.f11 (fun e w' => e = .returned (.bool true) ∧ Keep (fun g => g < W.heap.size) W w') .ret a396 w359
  refine ret_one rfl R h6 ?_
  exact ⟨rfl, K1⟩


theorem renames_walk {W : World} {t : Tm} {ta : Option Addr} {tc : Nat} {ma mb : Int} (hT : TmAt W.heap.size W t ta tc) (ha : (ik ma).wf = true) (hb : (ik mb).wf = true) :
    Calls Try.prog 11 #[tv t ta tc, .int .i64 ma, .int .i64 mb] W fun e w' => e = .returned (.bool true) ∧ Keep (fun g => g < W.heap.size) W w' := by
  refine enter_sx Try.func11 body11 rfl (by show (3 : Nat) ≤ 137; decide) fun f0 R hs => ?_
  have h0 := hs 0 _ rfl
  have h1 := hs 1 _ rfl
  have h2 := hs 2 _ rfl
  have K1 := Keep.refl (fun g => g < W.heap.size) W
  cases hr : t.right with
  | false => exact rw_f R h0 h1 h2 K1 (Lib.hid hT) (Lib.hid hr)
  | true =>
  refine rw_t (xa := (t.tree.ren ma).tm) (zb := (t.tree.ren mb).tm) (um := (t.tree.ren (max ma mb + (t.tree.vars.length : Int))).tm) (L := t.tree.vars.length) (M := max ma mb + (t.tree.vars.length : Int)) R h0 h1 h2 K1 (Lib.hid hT) (Lib.hid hr) (Lib.hid ⟨ha, hb⟩) (Lib.hid fun h1 h2 h3 h4 => ?_)
  obtain ⟨p1, p2, p3, p4, p5, p6, p7, p8⟩ := ren_facts hr h1 h2
  have hM1 : 1 ≤ (max ma mb + (t.tree.vars.length : Int)) := by omega
  have hM2 : (max ma mb + (t.tree.vars.length : Int)) ≤ 1152921504606848976 := by omega
  have hM3 : mb + (t.tree.vars.length : Int) ≤ (max ma mb + (t.tree.vars.length : Int)) := by omega
  refine ⟨Lib.hid (rnV_eq hr h1 (by omega)), Lib.hid ?_, Lib.hid (rnV_eq hr h2 (by omega)), Lib.hid (rnV_eq hr hM1 (by omega)), Lib.hid (ik_wf (by omega) (by omega)), Lib.hid p7, Lib.hid rfl, Lib.hid p6, Lib.hid (ren_facts hr hM1 h2).2.2.2.2.1, Lib.hid p4, Lib.hid (by rw [p8]), Lib.hid fun bs ok er hs => ren_solR (right_of.1 hr) hM3 h2 hs⟩
  rw [rnV_eq p1 h2 (by omega), p2, p3]
end Go.Proofs.Ytaaodgkbopficaa
