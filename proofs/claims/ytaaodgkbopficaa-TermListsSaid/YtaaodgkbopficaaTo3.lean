/-
  The law of lists: walked with letter frames. No condition but where the terms lie.
-/
import Derived.Test.YtaaodgkbopficaaSx2
import Derived.Test.YtaaodgkbopficaaTp2
import Derived.Test.YtaaodgkbopficaaTr1
namespace Go.Proofs.Ytaaodgkbopficaa
open Go.RowKit Go.Maps
set_option linter.unusedVariables false
set_option linter.unusedSimpArgs false

def o8_0_0 : Oper := { dst := some 3, op := Go.Op.box 24 (Go.Operand.tmp 1), type := 0, pos := "law.go:253", after := #[], guard := none }
def o8_0_1 : Oper := { dst := some 4, op := Go.Op.assign (Go.Operand.const (Go.Value.bool false)), type := 4, pos := "law.go:253", after := #[], guard := none }
def O8_0 : Array Oper := List.toArray (o8_0_0 :: o8_0_1 :: [])
theorem g8_0_0 : O8_0[0]? = some o8_0_0 := rfl
theorem g8_0_1 : O8_0[1]? = some o8_0_1 := rfl
def c8_1 : Code := Code.region 0 O8_0 false
def o8_1_0 : Oper := { dst := some 15, op := Go.Op.call { callee := Go.Callee.value (Go.Operand.func 13), args := #[], argTypes := #[] }, type := 4, pos := "law.go:254", after := #[], guard := none }
def o8_1_1 : Oper := { dst := some 16, op := Go.Op.unOp Go.UnOp.not 4 (Go.Operand.tmp 15), type := 4, pos := "law.go:254", after := #[{ on := 0, ground := Go.Ground.data }], guard := none }
def O8_1 : Array Oper := List.toArray (o8_1_0 :: o8_1_1 :: [])
theorem g8_1_0 : O8_1[0]? = some o8_1_0 := rfl
theorem g8_1_1 : O8_1[1]? = some o8_1_1 := rfl
def c8_4 : Code := Code.region 1 O8_1 false
def o8_2_0 : Oper := { dst := some 4, op := Go.Op.assign (Go.Operand.const (Go.Value.bool false)), type := 4, pos := "law.go:255", after := #[], guard := none }
def O8_2 : Array Oper := List.toArray (o8_2_0 :: [])
theorem g8_2_0 : O8_2[0]? = some o8_2_0 := rfl
def c8_7 : Code := Code.region 2 O8_2 false
def c8_6 : Code := Code.seq c8_7 Code.ret
def c8_5 : Code := Code.cond (Go.Operand.tmp 16) c8_6 Code.skip
def c8_3 : Code := Code.seq c8_4 c8_5
def o8_3_0 : Oper := { dst := some 18, op := Go.Op.move (Go.Operand.tmp 0), type := 22, pos := "law.go:257", after := #[], guard := none }
def o8_3_1 : Oper := { dst := some 19, op := Go.Op.load 24 (Go.Operand.tmp 3), type := 24, pos := "law.go:257", after := #[], guard := none }
def o8_3_2 : Oper := { dst := some 20, op := Go.Op.call { callee := Go.Callee.value (Go.Operand.func 39), args := #[Go.Operand.tmp 18, Go.Operand.tmp 19], argTypes := #[22, 24] }, type := 42, pos := "law.go:257", after := #[{ on := 0, ground := Go.Ground.data }, { on := 1, ground := Go.Ground.data }], guard := none }
def o8_3_3 : Oper := { dst := some 17, op := Go.Op.move (Go.Operand.tmp 20), type := 42, pos := "law.go:257", after := #[{ on := 2, ground := Go.Ground.data }], guard := none }
def o8_3_4 : Oper := { dst := some 21, op := Go.Op.extract (Go.Operand.tmp 17) 0, type := 24, pos := "law.go:257", after := #[{ on := 3, ground := Go.Ground.data }], guard := none }
def o8_3_5 : Oper := { dst := some 22, op := Go.Op.extract (Go.Operand.tmp 17) 1, type := 27, pos := "law.go:257", after := #[{ on := 3, ground := Go.Ground.data }, { on := 7, ground := Go.Ground.gcOnly Go.Departure.lateStores }], guard := none }
def o8_3_6 : Oper := { dst := some 5, op := Go.Op.alloc 24, type := 0, pos := "law.go:257", after := #[], guard := none }
def o8_3_7 : Oper := { dst := none, op := Go.Op.store 24 (Go.Operand.tmp 5) (Go.Operand.tmp 21), type := 0, pos := "law.go:257", after := #[{ on := 6, ground := Go.Ground.data }, { on := 4, ground := Go.Ground.data }, { on := 2, ground := Go.Ground.chain }, { on := 0, ground := Go.Ground.phase }, { on := 1, ground := Go.Ground.phase }, { on := 2, ground := Go.Ground.phase }, { on := 3, ground := Go.Ground.phase }, { on := 4, ground := Go.Ground.phase }, { on := 5, ground := Go.Ground.textOnly Go.Departure.lateStores }, { on := 6, ground := Go.Ground.phase }], guard := none }
def o8_3_8 : Oper := { dst := some 6, op := Go.Op.assign (Go.Operand.tmp 22), type := 27, pos := "law.go:257", after := #[{ on := 5, ground := Go.Ground.data }, { on := 7, ground := Go.Ground.chain }, { on := 0, ground := Go.Ground.phase }, { on := 1, ground := Go.Ground.phase }, { on := 2, ground := Go.Ground.phase }, { on := 3, ground := Go.Ground.phase }, { on := 4, ground := Go.Ground.phase }, { on := 5, ground := Go.Ground.phase }, { on := 6, ground := Go.Ground.phase }, { on := 7, ground := Go.Ground.phase }], guard := none }
def O8_3 : Array Oper := List.toArray (o8_3_0 :: o8_3_1 :: o8_3_2 :: o8_3_3 :: o8_3_4 :: o8_3_5 :: o8_3_6 :: o8_3_7 :: o8_3_8 :: [])
theorem g8_3_0 : O8_3[0]? = some o8_3_0 := rfl
theorem g8_3_1 : O8_3[1]? = some o8_3_1 := rfl
theorem g8_3_2 : O8_3[2]? = some o8_3_2 := rfl
theorem g8_3_3 : O8_3[3]? = some o8_3_3 := rfl
theorem g8_3_4 : O8_3[4]? = some o8_3_4 := rfl
theorem g8_3_5 : O8_3[5]? = some o8_3_5 := rfl
theorem g8_3_6 : O8_3[6]? = some o8_3_6 := rfl
theorem g8_3_7 : O8_3[7]? = some o8_3_7 := rfl
theorem g8_3_8 : O8_3[8]? = some o8_3_8 := rfl
def c8_11 : Code := Code.region 3 O8_3 false
def o8_4_0 : Oper := { dst := some 23, op := Go.Op.move (Go.Operand.tmp 6), type := 27, pos := "law.go:258", after := #[], guard := none }
def o8_4_1 : Oper := { dst := some 24, op := Go.Op.binOp Go.BinOp.neq 27 (Go.Operand.tmp 23) (Go.Operand.const (Go.Value.int Go.IntKind.i64 0)) 27, type := 4, pos := "law.go:258", after := #[{ on := 0, ground := Go.Ground.data }], guard := none }
def O8_4 : Array Oper := List.toArray (o8_4_0 :: o8_4_1 :: [])
theorem g8_4_0 : O8_4[0]? = some o8_4_0 := rfl
theorem g8_4_1 : O8_4[1]? = some o8_4_1 := rfl
def c8_14 : Code := Code.region 4 O8_4 false
def o8_5_0 : Oper := { dst := some 25, op := Go.Op.move (Go.Operand.tmp 6), type := 27, pos := "law.go:259", after := #[], guard := none }
def o8_5_1 : Oper := { dst := some 26, op := Go.Op.binOp Go.BinOp.eql 27 (Go.Operand.tmp 25) (Go.Operand.const (Go.Value.int Go.IntKind.i64 70)) 27, type := 4, pos := "law.go:259", after := #[{ on := 0, ground := Go.Ground.data }], guard := none }
def o8_5_2 : Oper := { dst := some 27, op := Go.Op.move (Go.Operand.tmp 26), type := 4, pos := "law.go:259", after := #[{ on := 1, ground := Go.Ground.data }], guard := none }
def o8_5_3 : Oper := { dst := some 28, op := Go.Op.fieldAddr 24 (Go.Operand.tmp 5) 0, type := 0, pos := "law.go:259", after := #[{ on := 2, ground := Go.Ground.guard }], guard := some (2, true) }
def o8_5_4 : Oper := { dst := some 29, op := Go.Op.load 3 (Go.Operand.tmp 28), type := 3, pos := "law.go:259", after := #[{ on := 3, ground := Go.Ground.data }, { on := 2, ground := Go.Ground.guard }], guard := some (2, true) }
def o8_5_5 : Oper := { dst := some 30, op := Go.Op.binOp Go.BinOp.eql 3 (Go.Operand.tmp 29) (Go.Operand.const (Go.Value.int Go.IntKind.i64 0)) 3, type := 4, pos := "law.go:259", after := #[{ on := 4, ground := Go.Ground.data }, { on := 2, ground := Go.Ground.guard }], guard := some (2, true) }
def o8_5_6 : Oper := { dst := some 31, op := Go.Op.pick (Go.Operand.tmp 27) (Go.Operand.tmp 30) (Go.Operand.const (Go.Value.bool false)), type := 4, pos := "law.go:259", after := #[{ on := 2, ground := Go.Ground.data }, { on := 5, ground := Go.Ground.data }], guard := none }
def o8_5_7 : Oper := { dst := some 4, op := Go.Op.assign (Go.Operand.tmp 31), type := 4, pos := "law.go:259", after := #[{ on := 6, ground := Go.Ground.data }, { on := 2, ground := Go.Ground.chain }, { on := 0, ground := Go.Ground.phase }, { on := 1, ground := Go.Ground.phase }, { on := 2, ground := Go.Ground.phase }, { on := 3, ground := Go.Ground.phase }, { on := 4, ground := Go.Ground.phase }, { on := 5, ground := Go.Ground.phase }, { on := 6, ground := Go.Ground.phase }], guard := none }
def O8_5 : Array Oper := List.toArray (o8_5_0 :: o8_5_1 :: o8_5_2 :: o8_5_3 :: o8_5_4 :: o8_5_5 :: o8_5_6 :: o8_5_7 :: [])
theorem g8_5_0 : O8_5[0]? = some o8_5_0 := rfl
theorem g8_5_1 : O8_5[1]? = some o8_5_1 := rfl
theorem g8_5_2 : O8_5[2]? = some o8_5_2 := rfl
theorem g8_5_3 : O8_5[3]? = some o8_5_3 := rfl
theorem g8_5_4 : O8_5[4]? = some o8_5_4 := rfl
theorem g8_5_5 : O8_5[5]? = some o8_5_5 := rfl
theorem g8_5_6 : O8_5[6]? = some o8_5_6 := rfl
theorem g8_5_7 : O8_5[7]? = some o8_5_7 := rfl
def c8_17 : Code := Code.region 5 O8_5 false
def c8_16 : Code := Code.seq c8_17 Code.ret
def c8_15 : Code := Code.cond (Go.Operand.tmp 24) c8_16 Code.skip
def c8_13 : Code := Code.seq c8_14 c8_15
def o8_6_0 : Oper := { dst := some 33, op := Go.Op.load 24 (Go.Operand.tmp 3), type := 24, pos := "law.go:261", after := #[], guard := none }
def o8_6_1 : Oper := { dst := some 34, op := Go.Op.call { callee := Go.Callee.value (Go.Operand.func 41), args := #[Go.Operand.tmp 33], argTypes := #[24] }, type := 56, pos := "law.go:261", after := #[{ on := 0, ground := Go.Ground.data }], guard := none }
def o8_6_2 : Oper := { dst := some 32, op := Go.Op.move (Go.Operand.tmp 34), type := 56, pos := "law.go:261", after := #[{ on := 1, ground := Go.Ground.data }], guard := none }
def o8_6_3 : Oper := { dst := some 35, op := Go.Op.extract (Go.Operand.tmp 32) 0, type := 22, pos := "law.go:261", after := #[{ on := 2, ground := Go.Ground.data }], guard := none }
def o8_6_4 : Oper := { dst := some 36, op := Go.Op.extract (Go.Operand.tmp 32) 1, type := 24, pos := "law.go:261", after := #[{ on := 2, ground := Go.Ground.data }, { on := 6, ground := Go.Ground.gcOnly Go.Departure.lateStores }], guard := none }
def o8_6_5 : Oper := { dst := some 8, op := Go.Op.alloc 24, type := 0, pos := "law.go:261", after := #[], guard := none }
def o8_6_6 : Oper := { dst := some 7, op := Go.Op.assign (Go.Operand.tmp 35), type := 22, pos := "law.go:261", after := #[{ on := 3, ground := Go.Ground.data }, { on := 1, ground := Go.Ground.chain }, { on := 0, ground := Go.Ground.phase }, { on := 1, ground := Go.Ground.phase }, { on := 2, ground := Go.Ground.phase }, { on := 3, ground := Go.Ground.phase }, { on := 4, ground := Go.Ground.textOnly Go.Departure.lateStores }, { on := 5, ground := Go.Ground.phase }], guard := none }
def o8_6_7 : Oper := { dst := none, op := Go.Op.store 24 (Go.Operand.tmp 8) (Go.Operand.tmp 36), type := 0, pos := "law.go:261", after := #[{ on := 5, ground := Go.Ground.data }, { on := 4, ground := Go.Ground.data }, { on := 6, ground := Go.Ground.chain }, { on := 0, ground := Go.Ground.phase }, { on := 1, ground := Go.Ground.phase }, { on := 2, ground := Go.Ground.phase }, { on := 3, ground := Go.Ground.phase }, { on := 4, ground := Go.Ground.phase }, { on := 5, ground := Go.Ground.phase }, { on := 6, ground := Go.Ground.phase }], guard := none }
def O8_6 : Array Oper := List.toArray (o8_6_0 :: o8_6_1 :: o8_6_2 :: o8_6_3 :: o8_6_4 :: o8_6_5 :: o8_6_6 :: o8_6_7 :: [])
theorem g8_6_0 : O8_6[0]? = some o8_6_0 := rfl
theorem g8_6_1 : O8_6[1]? = some o8_6_1 := rfl
theorem g8_6_2 : O8_6[2]? = some o8_6_2 := rfl
theorem g8_6_3 : O8_6[3]? = some o8_6_3 := rfl
theorem g8_6_4 : O8_6[4]? = some o8_6_4 := rfl
theorem g8_6_5 : O8_6[5]? = some o8_6_5 := rfl
theorem g8_6_6 : O8_6[6]? = some o8_6_6 := rfl
theorem g8_6_7 : O8_6[7]? = some o8_6_7 := rfl
def c8_21 : Code := Code.region 6 O8_6 false
def o8_7_0 : Oper := { dst := some 38, op := Go.Op.load 24 (Go.Operand.tmp 5), type := 24, pos := "law.go:262", after := #[], guard := none }
def o8_7_1 : Oper := { dst := some 39, op := Go.Op.call { callee := Go.Callee.value (Go.Operand.func 41), args := #[Go.Operand.tmp 38], argTypes := #[24] }, type := 56, pos := "law.go:262", after := #[{ on := 0, ground := Go.Ground.data }], guard := none }
def o8_7_2 : Oper := { dst := some 37, op := Go.Op.move (Go.Operand.tmp 39), type := 56, pos := "law.go:262", after := #[{ on := 1, ground := Go.Ground.data }], guard := none }
def o8_7_3 : Oper := { dst := some 40, op := Go.Op.extract (Go.Operand.tmp 37) 0, type := 22, pos := "law.go:262", after := #[{ on := 2, ground := Go.Ground.data }], guard := none }
def o8_7_4 : Oper := { dst := some 41, op := Go.Op.extract (Go.Operand.tmp 37) 1, type := 24, pos := "law.go:262", after := #[{ on := 2, ground := Go.Ground.data }, { on := 6, ground := Go.Ground.gcOnly Go.Departure.lateStores }], guard := none }
def o8_7_5 : Oper := { dst := some 10, op := Go.Op.alloc 24, type := 0, pos := "law.go:262", after := #[], guard := none }
def o8_7_6 : Oper := { dst := some 9, op := Go.Op.assign (Go.Operand.tmp 40), type := 22, pos := "law.go:262", after := #[{ on := 3, ground := Go.Ground.data }, { on := 1, ground := Go.Ground.chain }, { on := 0, ground := Go.Ground.phase }, { on := 1, ground := Go.Ground.phase }, { on := 2, ground := Go.Ground.phase }, { on := 3, ground := Go.Ground.phase }, { on := 4, ground := Go.Ground.textOnly Go.Departure.lateStores }, { on := 5, ground := Go.Ground.phase }], guard := none }
def o8_7_7 : Oper := { dst := none, op := Go.Op.store 24 (Go.Operand.tmp 10) (Go.Operand.tmp 41), type := 0, pos := "law.go:262", after := #[{ on := 5, ground := Go.Ground.data }, { on := 4, ground := Go.Ground.data }, { on := 6, ground := Go.Ground.chain }, { on := 0, ground := Go.Ground.phase }, { on := 1, ground := Go.Ground.phase }, { on := 2, ground := Go.Ground.phase }, { on := 3, ground := Go.Ground.phase }, { on := 4, ground := Go.Ground.phase }, { on := 5, ground := Go.Ground.phase }, { on := 6, ground := Go.Ground.phase }], guard := none }
def O8_7 : Array Oper := List.toArray (o8_7_0 :: o8_7_1 :: o8_7_2 :: o8_7_3 :: o8_7_4 :: o8_7_5 :: o8_7_6 :: o8_7_7 :: [])
theorem g8_7_0 : O8_7[0]? = some o8_7_0 := rfl
theorem g8_7_1 : O8_7[1]? = some o8_7_1 := rfl
theorem g8_7_2 : O8_7[2]? = some o8_7_2 := rfl
theorem g8_7_3 : O8_7[3]? = some o8_7_3 := rfl
theorem g8_7_4 : O8_7[4]? = some o8_7_4 := rfl
theorem g8_7_5 : O8_7[5]? = some o8_7_5 := rfl
theorem g8_7_6 : O8_7[6]? = some o8_7_6 := rfl
theorem g8_7_7 : O8_7[7]? = some o8_7_7 := rfl
def c8_23 : Code := Code.region 7 O8_7 false
def o8_8_0 : Oper := { dst := some 42, op := Go.Op.move (Go.Operand.tmp 9), type := 22, pos := "law.go:263", after := #[], guard := none }
def o8_8_1 : Oper := { dst := some 43, op := Go.Op.call { callee := Go.Callee.builtin Go.Builtin.len, args := #[Go.Operand.tmp 42], argTypes := #[22] }, type := 3, pos := "law.go:263", after := #[{ on := 0, ground := Go.Ground.data }], guard := none }
def o8_8_2 : Oper := { dst := some 44, op := Go.Op.move (Go.Operand.tmp 0), type := 22, pos := "law.go:263", after := #[], guard := none }
def o8_8_3 : Oper := { dst := some 45, op := Go.Op.call { callee := Go.Callee.builtin Go.Builtin.len, args := #[Go.Operand.tmp 44], argTypes := #[22] }, type := 3, pos := "law.go:263", after := #[{ on := 2, ground := Go.Ground.data }], guard := none }
def o8_8_4 : Oper := { dst := some 46, op := Go.Op.move (Go.Operand.tmp 7), type := 22, pos := "law.go:263", after := #[], guard := none }
def o8_8_5 : Oper := { dst := some 47, op := Go.Op.call { callee := Go.Callee.builtin Go.Builtin.len, args := #[Go.Operand.tmp 46], argTypes := #[22] }, type := 3, pos := "law.go:263", after := #[{ on := 4, ground := Go.Ground.data }], guard := none }
def o8_8_6 : Oper := { dst := some 48, op := Go.Op.binOp Go.BinOp.add 3 (Go.Operand.tmp 45) (Go.Operand.tmp 47) 3, type := 3, pos := "law.go:263", after := #[{ on := 3, ground := Go.Ground.data }, { on := 5, ground := Go.Ground.data }], guard := none }
def o8_8_7 : Oper := { dst := some 49, op := Go.Op.binOp Go.BinOp.neq 3 (Go.Operand.tmp 43) (Go.Operand.tmp 48) 3, type := 4, pos := "law.go:263", after := #[{ on := 1, ground := Go.Ground.data }, { on := 6, ground := Go.Ground.data }], guard := none }
def o8_8_8 : Oper := { dst := some 50, op := Go.Op.move (Go.Operand.tmp 49), type := 4, pos := "law.go:263", after := #[{ on := 7, ground := Go.Ground.data }], guard := none }
def o8_8_9 : Oper := { dst := some 51, op := Go.Op.load 24 (Go.Operand.tmp 10), type := 24, pos := "law.go:263", after := #[{ on := 8, ground := Go.Ground.guard }], guard := some (8, false) }
def o8_8_10 : Oper := { dst := some 52, op := Go.Op.load 24 (Go.Operand.tmp 8), type := 24, pos := "law.go:263", after := #[{ on := 8, ground := Go.Ground.guard }], guard := some (8, false) }
def o8_8_11 : Oper := { dst := some 53, op := Go.Op.call { callee := Go.Callee.value (Go.Operand.func 19), args := #[Go.Operand.tmp 51, Go.Operand.tmp 52], argTypes := #[24, 24] }, type := 4, pos := "law.go:263", after := #[{ on := 9, ground := Go.Ground.data }, { on := 10, ground := Go.Ground.data }, { on := 8, ground := Go.Ground.chain }, { on := 8, ground := Go.Ground.guard }], guard := some (8, false) }
def o8_8_12 : Oper := { dst := some 54, op := Go.Op.unOp Go.UnOp.not 4 (Go.Operand.tmp 53), type := 4, pos := "law.go:263", after := #[{ on := 11, ground := Go.Ground.data }, { on := 8, ground := Go.Ground.guard }], guard := some (8, false) }
def o8_8_13 : Oper := { dst := some 55, op := Go.Op.pick (Go.Operand.tmp 50) (Go.Operand.const (Go.Value.bool true)) (Go.Operand.tmp 54), type := 4, pos := "law.go:263", after := #[{ on := 8, ground := Go.Ground.data }, { on := 12, ground := Go.Ground.data }], guard := none }
def O8_8 : Array Oper := List.toArray (o8_8_0 :: o8_8_1 :: o8_8_2 :: o8_8_3 :: o8_8_4 :: o8_8_5 :: o8_8_6 :: o8_8_7 :: o8_8_8 :: o8_8_9 :: o8_8_10 :: o8_8_11 :: o8_8_12 :: o8_8_13 :: [])
theorem g8_8_0 : O8_8[0]? = some o8_8_0 := rfl
theorem g8_8_1 : O8_8[1]? = some o8_8_1 := rfl
theorem g8_8_2 : O8_8[2]? = some o8_8_2 := rfl
theorem g8_8_3 : O8_8[3]? = some o8_8_3 := rfl
theorem g8_8_4 : O8_8[4]? = some o8_8_4 := rfl
theorem g8_8_5 : O8_8[5]? = some o8_8_5 := rfl
theorem g8_8_6 : O8_8[6]? = some o8_8_6 := rfl
theorem g8_8_7 : O8_8[7]? = some o8_8_7 := rfl
theorem g8_8_8 : O8_8[8]? = some o8_8_8 := rfl
theorem g8_8_9 : O8_8[9]? = some o8_8_9 := rfl
theorem g8_8_10 : O8_8[10]? = some o8_8_10 := rfl
theorem g8_8_11 : O8_8[11]? = some o8_8_11 := rfl
theorem g8_8_12 : O8_8[12]? = some o8_8_12 := rfl
theorem g8_8_13 : O8_8[13]? = some o8_8_13 := rfl
def c8_26 : Code := Code.region 8 O8_8 false
def o8_9_0 : Oper := { dst := some 4, op := Go.Op.assign (Go.Operand.const (Go.Value.bool false)), type := 4, pos := "law.go:264", after := #[], guard := none }
def O8_9 : Array Oper := List.toArray (o8_9_0 :: [])
theorem g8_9_0 : O8_9[0]? = some o8_9_0 := rfl
def c8_29 : Code := Code.region 9 O8_9 false
def c8_28 : Code := Code.seq c8_29 Code.ret
def c8_27 : Code := Code.cond (Go.Operand.tmp 55) c8_28 Code.skip
def c8_25 : Code := Code.seq c8_26 c8_27
def o8_10_0 : Oper := { dst := some 56, op := Go.Op.move (Go.Operand.tmp 9), type := 22, pos := "law.go:266", after := #[], guard := none }
def o8_10_1 : Oper := { dst := some 57, op := Go.Op.call { callee := Go.Callee.builtin Go.Builtin.len, args := #[Go.Operand.tmp 56], argTypes := #[22] }, type := 3, pos := "law.go:266", after := #[{ on := 0, ground := Go.Ground.data }], guard := none }
def o8_10_2 : Oper := { dst := some 58, op := Go.Op.move (Go.Operand.const (Go.Value.int Go.IntKind.i64 0)), type := 3, pos := "law.go:266", after := #[], guard := none }
def O8_10 : Array Oper := List.toArray (o8_10_0 :: o8_10_1 :: o8_10_2 :: [])
theorem g8_10_0 : O8_10[0]? = some o8_10_0 := rfl
theorem g8_10_1 : O8_10[1]? = some o8_10_1 := rfl
theorem g8_10_2 : O8_10[2]? = some o8_10_2 := rfl
def c8_34 : Code := Code.region 10 O8_10 false
def o8_11_0 : Oper := { dst := some 59, op := Go.Op.binOp Go.BinOp.lss 3 (Go.Operand.tmp 58) (Go.Operand.tmp 57) 3, type := 0, pos := "law.go:266", after := #[], guard := none }
def O8_11 : Array Oper := List.toArray (o8_11_0 :: [])
theorem g8_11_0 : O8_11[0]? = some o8_11_0 := rfl
def c8_38 : Code := Code.region 11 O8_11 false
def c8_42 : Code := Code.exit 0
def c8_40 : Code := Code.cond (Go.Operand.tmp 59) Code.skip c8_42
def o8_12_0 : Oper := { dst := some 60, op := Go.Op.move (Go.Operand.tmp 58), type := 3, pos := "law.go:266", after := #[], guard := none }
def o8_12_1 : Oper := { dst := some 11, op := Go.Op.assign (Go.Operand.tmp 60), type := 3, pos := "law.go:266", after := #[{ on := 0, ground := Go.Ground.data }, { on := 0, ground := Go.Ground.phase }], guard := none }
def O8_12 : Array Oper := List.toArray (o8_12_0 :: o8_12_1 :: [])
theorem g8_12_0 : O8_12[0]? = some o8_12_0 := rfl
theorem g8_12_1 : O8_12[1]? = some o8_12_1 := rfl
def c8_46 : Code := Code.region 12 O8_12 false
def o8_13_0 : Oper := { dst := some 61, op := Go.Op.build 24 #[], type := 24, pos := "law.go:267", after := #[], guard := none }
def o8_13_1 : Oper := { dst := some 12, op := Go.Op.alloc 24, type := 0, pos := "law.go:267", after := #[], guard := none }
def o8_13_2 : Oper := { dst := none, op := Go.Op.store 24 (Go.Operand.tmp 12) (Go.Operand.tmp 61), type := 0, pos := "law.go:267", after := #[{ on := 1, ground := Go.Ground.data }, { on := 0, ground := Go.Ground.data }, { on := 0, ground := Go.Ground.phase }, { on := 1, ground := Go.Ground.phase }], guard := none }
def O8_13 : Array Oper := List.toArray (o8_13_0 :: o8_13_1 :: o8_13_2 :: [])
theorem g8_13_0 : O8_13[0]? = some o8_13_0 := rfl
theorem g8_13_1 : O8_13[1]? = some o8_13_1 := rfl
theorem g8_13_2 : O8_13[2]? = some o8_13_2 := rfl
def c8_48 : Code := Code.region 13 O8_13 false
def o8_14_0 : Oper := { dst := some 62, op := Go.Op.move (Go.Operand.tmp 11), type := 3, pos := "law.go:268", after := #[], guard := none }
def o8_14_1 : Oper := { dst := some 63, op := Go.Op.move (Go.Operand.tmp 0), type := 22, pos := "law.go:268", after := #[], guard := none }
def o8_14_2 : Oper := { dst := some 64, op := Go.Op.call { callee := Go.Callee.builtin Go.Builtin.len, args := #[Go.Operand.tmp 63], argTypes := #[22] }, type := 3, pos := "law.go:268", after := #[{ on := 1, ground := Go.Ground.data }], guard := none }
def o8_14_3 : Oper := { dst := some 65, op := Go.Op.binOp Go.BinOp.lss 3 (Go.Operand.tmp 62) (Go.Operand.tmp 64) 3, type := 4, pos := "law.go:268", after := #[{ on := 0, ground := Go.Ground.data }, { on := 2, ground := Go.Ground.data }], guard := none }
def O8_14 : Array Oper := List.toArray (o8_14_0 :: o8_14_1 :: o8_14_2 :: o8_14_3 :: [])
theorem g8_14_0 : O8_14[0]? = some o8_14_0 := rfl
theorem g8_14_1 : O8_14[1]? = some o8_14_1 := rfl
theorem g8_14_2 : O8_14[2]? = some o8_14_2 := rfl
theorem g8_14_3 : O8_14[3]? = some o8_14_3 := rfl
def c8_51 : Code := Code.region 14 O8_14 false
def o8_15_0 : Oper := { dst := some 66, op := Go.Op.move (Go.Operand.tmp 0), type := 22, pos := "law.go:269", after := #[], guard := none }
def o8_15_1 : Oper := { dst := some 67, op := Go.Op.move (Go.Operand.tmp 11), type := 3, pos := "law.go:269", after := #[], guard := none }
def o8_15_2 : Oper := { dst := some 68, op := Go.Op.indexAddr 22 (Go.Operand.tmp 66) (Go.Operand.tmp 67), type := 0, pos := "law.go:269", after := #[{ on := 0, ground := Go.Ground.data }, { on := 1, ground := Go.Ground.data }], guard := none }
def o8_15_3 : Oper := { dst := some 69, op := Go.Op.load 24 (Go.Operand.tmp 68), type := 24, pos := "law.go:269", after := #[{ on := 2, ground := Go.Ground.data }], guard := none }
def o8_15_4 : Oper := { dst := none, op := Go.Op.store 24 (Go.Operand.tmp 12) (Go.Operand.tmp 69), type := 0, pos := "law.go:269", after := #[{ on := 3, ground := Go.Ground.data }, { on := 0, ground := Go.Ground.phase }, { on := 1, ground := Go.Ground.phase }, { on := 2, ground := Go.Ground.phase }, { on := 3, ground := Go.Ground.phase }], guard := none }
def O8_15 : Array Oper := List.toArray (o8_15_0 :: o8_15_1 :: o8_15_2 :: o8_15_3 :: o8_15_4 :: [])
theorem g8_15_0 : O8_15[0]? = some o8_15_0 := rfl
theorem g8_15_1 : O8_15[1]? = some o8_15_1 := rfl
theorem g8_15_2 : O8_15[2]? = some o8_15_2 := rfl
theorem g8_15_3 : O8_15[3]? = some o8_15_3 := rfl
theorem g8_15_4 : O8_15[4]? = some o8_15_4 := rfl
def c8_53 : Code := Code.region 15 O8_15 false
def o8_16_0 : Oper := { dst := some 70, op := Go.Op.move (Go.Operand.tmp 7), type := 22, pos := "law.go:271", after := #[], guard := none }
def o8_16_1 : Oper := { dst := some 71, op := Go.Op.move (Go.Operand.tmp 11), type := 3, pos := "law.go:271", after := #[], guard := none }
def o8_16_2 : Oper := { dst := some 72, op := Go.Op.move (Go.Operand.tmp 0), type := 22, pos := "law.go:271", after := #[], guard := none }
def o8_16_3 : Oper := { dst := some 73, op := Go.Op.call { callee := Go.Callee.builtin Go.Builtin.len, args := #[Go.Operand.tmp 72], argTypes := #[22] }, type := 3, pos := "law.go:271", after := #[{ on := 2, ground := Go.Ground.data }], guard := none }
def o8_16_4 : Oper := { dst := some 74, op := Go.Op.binOp Go.BinOp.sub 3 (Go.Operand.tmp 71) (Go.Operand.tmp 73) 3, type := 3, pos := "law.go:271", after := #[{ on := 1, ground := Go.Ground.data }, { on := 3, ground := Go.Ground.data }], guard := none }
def o8_16_5 : Oper := { dst := some 75, op := Go.Op.indexAddr 22 (Go.Operand.tmp 70) (Go.Operand.tmp 74), type := 0, pos := "law.go:271", after := #[{ on := 0, ground := Go.Ground.data }, { on := 4, ground := Go.Ground.data }], guard := none }
def o8_16_6 : Oper := { dst := some 76, op := Go.Op.load 24 (Go.Operand.tmp 75), type := 24, pos := "law.go:271", after := #[{ on := 5, ground := Go.Ground.data }], guard := none }
def o8_16_7 : Oper := { dst := none, op := Go.Op.store 24 (Go.Operand.tmp 12) (Go.Operand.tmp 76), type := 0, pos := "law.go:271", after := #[{ on := 6, ground := Go.Ground.data }, { on := 0, ground := Go.Ground.phase }, { on := 1, ground := Go.Ground.phase }, { on := 2, ground := Go.Ground.phase }, { on := 3, ground := Go.Ground.phase }, { on := 4, ground := Go.Ground.phase }, { on := 5, ground := Go.Ground.phase }, { on := 6, ground := Go.Ground.phase }], guard := none }
def O8_16 : Array Oper := List.toArray (o8_16_0 :: o8_16_1 :: o8_16_2 :: o8_16_3 :: o8_16_4 :: o8_16_5 :: o8_16_6 :: o8_16_7 :: [])
theorem g8_16_0 : O8_16[0]? = some o8_16_0 := rfl
theorem g8_16_1 : O8_16[1]? = some o8_16_1 := rfl
theorem g8_16_2 : O8_16[2]? = some o8_16_2 := rfl
theorem g8_16_3 : O8_16[3]? = some o8_16_3 := rfl
theorem g8_16_4 : O8_16[4]? = some o8_16_4 := rfl
theorem g8_16_5 : O8_16[5]? = some o8_16_5 := rfl
theorem g8_16_6 : O8_16[6]? = some o8_16_6 := rfl
theorem g8_16_7 : O8_16[7]? = some o8_16_7 := rfl
def c8_54 : Code := Code.region 16 O8_16 false
def c8_52 : Code := Code.cond (Go.Operand.tmp 65) c8_53 c8_54
def c8_50 : Code := Code.seq c8_51 c8_52
def o8_17_0 : Oper := { dst := some 77, op := Go.Op.move (Go.Operand.tmp 9), type := 22, pos := "law.go:273", after := #[], guard := none }
def o8_17_1 : Oper := { dst := some 78, op := Go.Op.move (Go.Operand.tmp 11), type := 3, pos := "law.go:273", after := #[], guard := none }
def o8_17_2 : Oper := { dst := some 79, op := Go.Op.indexAddr 22 (Go.Operand.tmp 77) (Go.Operand.tmp 78), type := 0, pos := "law.go:273", after := #[{ on := 0, ground := Go.Ground.data }, { on := 1, ground := Go.Ground.data }], guard := none }
def o8_17_3 : Oper := { dst := some 80, op := Go.Op.load 24 (Go.Operand.tmp 79), type := 24, pos := "law.go:273", after := #[{ on := 2, ground := Go.Ground.data }], guard := none }
def o8_17_4 : Oper := { dst := some 81, op := Go.Op.load 24 (Go.Operand.tmp 12), type := 24, pos := "law.go:273", after := #[], guard := none }
def o8_17_5 : Oper := { dst := some 82, op := Go.Op.call { callee := Go.Callee.value (Go.Operand.func 19), args := #[Go.Operand.tmp 80, Go.Operand.tmp 81], argTypes := #[24, 24] }, type := 4, pos := "law.go:273", after := #[{ on := 3, ground := Go.Ground.data }, { on := 4, ground := Go.Ground.data }], guard := none }
def o8_17_6 : Oper := { dst := some 83, op := Go.Op.unOp Go.UnOp.not 4 (Go.Operand.tmp 82), type := 4, pos := "law.go:273", after := #[{ on := 5, ground := Go.Ground.data }], guard := none }
def O8_17 : Array Oper := List.toArray (o8_17_0 :: o8_17_1 :: o8_17_2 :: o8_17_3 :: o8_17_4 :: o8_17_5 :: o8_17_6 :: [])
theorem g8_17_0 : O8_17[0]? = some o8_17_0 := rfl
theorem g8_17_1 : O8_17[1]? = some o8_17_1 := rfl
theorem g8_17_2 : O8_17[2]? = some o8_17_2 := rfl
theorem g8_17_3 : O8_17[3]? = some o8_17_3 := rfl
theorem g8_17_4 : O8_17[4]? = some o8_17_4 := rfl
theorem g8_17_5 : O8_17[5]? = some o8_17_5 := rfl
theorem g8_17_6 : O8_17[6]? = some o8_17_6 := rfl
theorem ns8_17 : Region.noSelect O8_17 = true := by kernel_rfl
def c8_56 : Code := Code.region 17 O8_17 true
def o8_18_0 : Oper := { dst := some 4, op := Go.Op.assign (Go.Operand.const (Go.Value.bool false)), type := 4, pos := "law.go:274", after := #[], guard := none }
def O8_18 : Array Oper := List.toArray (o8_18_0 :: [])
theorem g8_18_0 : O8_18[0]? = some o8_18_0 := rfl
def c8_59 : Code := Code.region 18 O8_18 false
def c8_58 : Code := Code.seq c8_59 Code.ret
def c8_57 : Code := Code.cond (Go.Operand.tmp 83) c8_58 Code.skip
def c8_55 : Code := Code.seq c8_56 c8_57
def c8_49 : Code := Code.seq c8_50 c8_55
def c8_47 : Code := Code.seq c8_48 c8_49
def c8_45 : Code := Code.seq c8_46 c8_47
def c8_44 : Code := Code.block 1 c8_45
def o8_19_0 : Oper := { dst := some 84, op := Go.Op.binOp Go.BinOp.add 3 (Go.Operand.tmp 58) (Go.Operand.const (Go.Value.int Go.IntKind.i64 1)) 3, type := 3, pos := "law.go:266", after := #[], guard := none }
def o8_19_1 : Oper := { dst := some 58, op := Go.Op.move (Go.Operand.tmp 84), type := 3, pos := "law.go:266", after := #[{ on := 0, ground := Go.Ground.data }], guard := none }
def O8_19 : Array Oper := List.toArray (o8_19_0 :: o8_19_1 :: [])
theorem g8_19_0 : O8_19[0]? = some o8_19_0 := rfl
theorem g8_19_1 : O8_19[1]? = some o8_19_1 := rfl
def c8_62 : Code := Code.region 19 O8_19 false
def c8_43 : Code := Code.seq c8_44 c8_62
def c8_39 : Code := Code.seq c8_40 c8_43
def c8_37 : Code := Code.seq c8_38 c8_39
def c8_36 : Code := Code.loop c8_37
def c8_35 : Code := Code.block 0 c8_36
def c8_33 : Code := Code.seq c8_34 c8_35
def o8_20_0 : Oper := { dst := some 86, op := Go.Op.load 24 (Go.Operand.tmp 3), type := 24, pos := "law.go:277", after := #[], guard := none }
def o8_20_1 : Oper := { dst := some 87, op := Go.Op.call { callee := Go.Callee.value (Go.Operand.func 39), args := #[Go.Operand.const (Go.Value.slice none 0 0), Go.Operand.tmp 86], argTypes := #[22, 24] }, type := 42, pos := "law.go:277", after := #[{ on := 0, ground := Go.Ground.data }], guard := none }
def o8_20_2 : Oper := { dst := some 85, op := Go.Op.move (Go.Operand.tmp 87), type := 42, pos := "law.go:277", after := #[{ on := 1, ground := Go.Ground.data }], guard := none }
def o8_20_3 : Oper := { dst := some 88, op := Go.Op.extract (Go.Operand.tmp 85) 0, type := 24, pos := "law.go:277", after := #[{ on := 2, ground := Go.Ground.data }], guard := none }
def o8_20_4 : Oper := { dst := some 89, op := Go.Op.extract (Go.Operand.tmp 85) 1, type := 27, pos := "law.go:277", after := #[{ on := 2, ground := Go.Ground.data }, { on := 6, ground := Go.Ground.gcOnly Go.Departure.lateStores }], guard := none }
def o8_20_5 : Oper := { dst := some 13, op := Go.Op.alloc 24, type := 0, pos := "law.go:277", after := #[], guard := none }
def o8_20_6 : Oper := { dst := none, op := Go.Op.store 24 (Go.Operand.tmp 13) (Go.Operand.tmp 88), type := 0, pos := "law.go:277", after := #[{ on := 5, ground := Go.Ground.data }, { on := 3, ground := Go.Ground.data }, { on := 1, ground := Go.Ground.chain }, { on := 0, ground := Go.Ground.phase }, { on := 1, ground := Go.Ground.phase }, { on := 2, ground := Go.Ground.phase }, { on := 3, ground := Go.Ground.phase }, { on := 4, ground := Go.Ground.textOnly Go.Departure.lateStores }, { on := 5, ground := Go.Ground.phase }], guard := none }
def o8_20_7 : Oper := { dst := some 14, op := Go.Op.assign (Go.Operand.tmp 89), type := 27, pos := "law.go:277", after := #[{ on := 4, ground := Go.Ground.data }, { on := 6, ground := Go.Ground.chain }, { on := 0, ground := Go.Ground.phase }, { on := 1, ground := Go.Ground.phase }, { on := 2, ground := Go.Ground.phase }, { on := 3, ground := Go.Ground.phase }, { on := 4, ground := Go.Ground.phase }, { on := 5, ground := Go.Ground.phase }, { on := 6, ground := Go.Ground.phase }], guard := none }
def O8_20 : Array Oper := List.toArray (o8_20_0 :: o8_20_1 :: o8_20_2 :: o8_20_3 :: o8_20_4 :: o8_20_5 :: o8_20_6 :: o8_20_7 :: [])
theorem g8_20_0 : O8_20[0]? = some o8_20_0 := rfl
theorem g8_20_1 : O8_20[1]? = some o8_20_1 := rfl
theorem g8_20_2 : O8_20[2]? = some o8_20_2 := rfl
theorem g8_20_3 : O8_20[3]? = some o8_20_3 := rfl
theorem g8_20_4 : O8_20[4]? = some o8_20_4 := rfl
theorem g8_20_5 : O8_20[5]? = some o8_20_5 := rfl
theorem g8_20_6 : O8_20[6]? = some o8_20_6 := rfl
theorem g8_20_7 : O8_20[7]? = some o8_20_7 := rfl
def c8_64 : Code := Code.region 20 O8_20 false
def o8_21_0 : Oper := { dst := some 90, op := Go.Op.move (Go.Operand.tmp 14), type := 27, pos := "law.go:278", after := #[], guard := none }
def o8_21_1 : Oper := { dst := some 91, op := Go.Op.binOp Go.BinOp.eql 27 (Go.Operand.tmp 90) (Go.Operand.const (Go.Value.int Go.IntKind.i64 0)) 27, type := 4, pos := "law.go:278", after := #[{ on := 0, ground := Go.Ground.data }], guard := none }
def o8_21_2 : Oper := { dst := some 92, op := Go.Op.move (Go.Operand.tmp 91), type := 4, pos := "law.go:278", after := #[{ on := 1, ground := Go.Ground.data }], guard := none }
def o8_21_3 : Oper := { dst := some 93, op := Go.Op.load 24 (Go.Operand.tmp 13), type := 24, pos := "law.go:278", after := #[{ on := 2, ground := Go.Ground.guard }], guard := some (2, true) }
def o8_21_4 : Oper := { dst := some 94, op := Go.Op.load 24 (Go.Operand.tmp 3), type := 24, pos := "law.go:278", after := #[{ on := 2, ground := Go.Ground.guard }], guard := some (2, true) }
def o8_21_5 : Oper := { dst := some 95, op := Go.Op.call { callee := Go.Callee.value (Go.Operand.func 19), args := #[Go.Operand.tmp 93, Go.Operand.tmp 94], argTypes := #[24, 24] }, type := 4, pos := "law.go:278", after := #[{ on := 3, ground := Go.Ground.data }, { on := 4, ground := Go.Ground.data }, { on := 2, ground := Go.Ground.chain }, { on := 2, ground := Go.Ground.guard }], guard := some (2, true) }
def o8_21_6 : Oper := { dst := some 96, op := Go.Op.pick (Go.Operand.tmp 92) (Go.Operand.tmp 95) (Go.Operand.const (Go.Value.bool false)), type := 4, pos := "law.go:278", after := #[{ on := 2, ground := Go.Ground.data }, { on := 5, ground := Go.Ground.data }], guard := none }
def o8_21_7 : Oper := { dst := some 97, op := Go.Op.move (Go.Operand.tmp 96), type := 4, pos := "law.go:278", after := #[{ on := 6, ground := Go.Ground.data }, { on := 5, ground := Go.Ground.chain }], guard := none }
def o8_21_8 : Oper := { dst := some 98, op := Go.Op.load 24 (Go.Operand.tmp 5), type := 24, pos := "law.go:278", after := #[{ on := 7, ground := Go.Ground.guard }], guard := some (7, true) }
def o8_21_9 : Oper := { dst := some 99, op := Go.Op.call { callee := Go.Callee.value (Go.Operand.func 17), args := #[Go.Operand.tmp 98], argTypes := #[24] }, type := 3, pos := "law.go:278", after := #[{ on := 8, ground := Go.Ground.data }, { on := 7, ground := Go.Ground.chain }, { on := 7, ground := Go.Ground.guard }], guard := some (7, true) }
def o8_21_10 : Oper := { dst := some 100, op := Go.Op.binOp Go.BinOp.leq 3 (Go.Operand.tmp 99) (Go.Operand.const (Go.Value.int Go.IntKind.i64 100)) 3, type := 4, pos := "law.go:278", after := #[{ on := 9, ground := Go.Ground.data }, { on := 7, ground := Go.Ground.guard }], guard := some (7, true) }
def o8_21_11 : Oper := { dst := some 101, op := Go.Op.pick (Go.Operand.tmp 97) (Go.Operand.tmp 100) (Go.Operand.const (Go.Value.bool false)), type := 4, pos := "law.go:278", after := #[{ on := 7, ground := Go.Ground.data }, { on := 10, ground := Go.Ground.data }], guard := none }
def o8_21_12 : Oper := { dst := some 4, op := Go.Op.assign (Go.Operand.tmp 101), type := 4, pos := "law.go:278", after := #[{ on := 11, ground := Go.Ground.data }, { on := 9, ground := Go.Ground.chain }, { on := 0, ground := Go.Ground.phase }, { on := 1, ground := Go.Ground.phase }, { on := 2, ground := Go.Ground.phase }, { on := 3, ground := Go.Ground.phase }, { on := 4, ground := Go.Ground.phase }, { on := 5, ground := Go.Ground.phase }, { on := 6, ground := Go.Ground.phase }, { on := 7, ground := Go.Ground.phase }, { on := 8, ground := Go.Ground.phase }, { on := 9, ground := Go.Ground.phase }, { on := 10, ground := Go.Ground.phase }, { on := 11, ground := Go.Ground.phase }], guard := none }
def O8_21 : Array Oper := List.toArray (o8_21_0 :: o8_21_1 :: o8_21_2 :: o8_21_3 :: o8_21_4 :: o8_21_5 :: o8_21_6 :: o8_21_7 :: o8_21_8 :: o8_21_9 :: o8_21_10 :: o8_21_11 :: o8_21_12 :: [])
theorem g8_21_0 : O8_21[0]? = some o8_21_0 := rfl
theorem g8_21_1 : O8_21[1]? = some o8_21_1 := rfl
theorem g8_21_2 : O8_21[2]? = some o8_21_2 := rfl
theorem g8_21_3 : O8_21[3]? = some o8_21_3 := rfl
theorem g8_21_4 : O8_21[4]? = some o8_21_4 := rfl
theorem g8_21_5 : O8_21[5]? = some o8_21_5 := rfl
theorem g8_21_6 : O8_21[6]? = some o8_21_6 := rfl
theorem g8_21_7 : O8_21[7]? = some o8_21_7 := rfl
theorem g8_21_8 : O8_21[8]? = some o8_21_8 := rfl
theorem g8_21_9 : O8_21[9]? = some o8_21_9 := rfl
theorem g8_21_10 : O8_21[10]? = some o8_21_10 := rfl
theorem g8_21_11 : O8_21[11]? = some o8_21_11 := rfl
theorem g8_21_12 : O8_21[12]? = some o8_21_12 := rfl
def c8_66 : Code := Code.region 21 O8_21 false
def c8_65 : Code := Code.seq c8_66 Code.ret
def c8_63 : Code := Code.seq c8_64 c8_65
def c8_32 : Code := Code.seq c8_33 c8_63
def c8_24 : Code := Code.seq c8_25 c8_32
def c8_22 : Code := Code.seq c8_23 c8_24
def c8_20 : Code := Code.seq c8_21 c8_22
def c8_12 : Code := Code.seq c8_13 c8_20
def c8_10 : Code := Code.seq c8_11 c8_12
def c8_2 : Code := Code.seq c8_3 c8_10
def c8_0 : Code := Code.seq c8_1 c8_2
theorem body8 : Try.f8.body = some c8_0 := by kernel_rfl

set_option maxRecDepth 100000 in
set_option maxHeartbeats 4000000 in
theorem lw_f {W : World} {u x : Tm} {ua sa : Option Addr} {uc sc : Nat} {ps : List TP}  {f0 : Act} {w0 : World} (R : FrS 102 f0) (h0 : f0.tmps[0]? = some (.slice sa ps.length sc)) (h1 : f0.tmps[1]? = some (.agg #[.int .i64 u.k, .string (str u.nm), .int .i64 u.i, .slice ua u.args.length uc])) (K1 : Keep (fun g => g < W.heap.size) W w0)  (HT : Hid (TmAt W.heap.size W u ua uc)) (HTS : Hid (TmSl W.heap.size W sa ps)) (HLN : Hid (ps.length ≤ 2305843009213693951)) (HSA : Hid (∀ g off, sa = some ⟨g, off, none⟩ → g < W.heap.size)) (HL : Hid (lsV (ps.map (·.1)) u = (x, 70))) (HZ : Hid (x.k = 0)) : c8_0.wp Try.prog (bodyPost Try.prog Try.f8 (fun e w' => e = .returned (.bool true) ∧ Keep (fun g => g < W.heap.size) W w')) f0 w0 := by
  refine wp_seq (x := c8_1) (y := c8_2) ?_
  change (Code.region 0 O8_0 false).wp _ _ _ _
  refine reg_in (l := [0, 1]) rfl ?_
  have MK1 := K1
  have Y : (execOp f0.eval o8_0_0).run Try.prog w0 = .ok (.value (.pointer (some ⟨w0.heap.size, 0, none⟩))) (w0.alloc (.cells #[.int .i64 u.k, .string (str u.nm), .int .i64 u.i, .slice ua u.args.length uc] 24)) := by unfold o8_0_0; go_simp
  have B1 := Blk.new w0 24 #[.int .i64 u.k, .string (str u.nm), .int .i64 u.i, .slice ua u.args.length uc]
  replace K1 := K1.alloc (.cells #[.int .i64 u.k, .string (str u.nm), .int .i64 u.i, .slice ua u.args.length uc] 24)
  obtain ⟨w2, hw2⟩ : ∃ x, x = w0.alloc (.cells #[.int .i64 u.k, .string (str u.nm), .int .i64 u.i, .slice ua u.args.length uc] 24) := ⟨_, rfl⟩
  rw [← hw2] at Y B1 K1
  obtain ⟨b1, hb1⟩ : ∃ x, x = w0.heap.size := ⟨_, rfl⟩
  rw [← hb1] at Y B1
  have LK1_b1 : W.heap.size ≤ b1 := by rw [hb1]; first | exact Nat.le_refl _ | exact MK1.size
  clear hw2 hb1 MK1
  refine st_val g8_0_0 rfl (wanted_free rfl) Y fun a3 e => ?_; clear Y
  have g3 := R.at_ e (by decide); replace R := R.put e; replace h0 := slot_on e h0 (by decide); clear h1; have h3 := g3; clear g3; clear e
  have Y : (execOp a3.eval o8_0_1).run Try.prog w2 = .ok (.value (.bool false)) w2 := by unfold o8_0_1; go_simp
  refine st_val g8_0_1 rfl (wanted_free rfl) Y fun a5 e => ?_; clear Y
  have g4 := R.at_ e (by decide); replace R := R.put e; replace h0 := slot_on e h0 (by decide); replace h3 := slot_on e h3 (by decide); have h4 := g4; clear g4; clear e
  refine st_end ?_
  change (c8_2).wp _ _ _ _
  refine wp_seq (x := c8_3) (y := c8_10) ?_
  refine wp_seq (x := c8_4) (y := c8_5) ?_
  change (Code.region 1 O8_1 false).wp _ _ _ _
  refine reg_in (l := [0, 1]) rfl ?_
  have Y : (execOp a5.eval o8_1_0).run Try.prog w2 = .ok (.enter 13 #[]) w2 := by unfold o8_1_0; go_simp
  refine st_call g8_1_0 rfl (wanted_free rfl) Y ((alive_any (w := w2)).mono ?_); clear Y
  rintro e9 w7 ⟨rfl, kk⟩
  replace K1 := keep_onto K1 kk
  replace B1 := blk_on B1 kk
  clear kk
  refine ⟨_, rfl, fun a8 e => ?_⟩
  have g15 := R.at_ e (by decide); replace R := R.put e; replace h0 := slot_on e h0 (by decide); replace h3 := slot_on e h3 (by decide); replace h4 := slot_on e h4 (by decide); have h15 := g15; clear g15; clear e
  have Y : (execOp a8.eval o8_1_1).run Try.prog w7 = .ok (.value (.bool false)) w7 := by unfold o8_1_1; go_simp
  refine st_val g8_1_1 rfl (wanted_free rfl) Y fun a10 e => ?_; clear Y
  have g16 := R.at_ e (by decide); replace R := R.put e; replace h0 := slot_on e h0 (by decide); replace h3 := slot_on e h3 (by decide); replace h4 := slot_on e h4 (by decide); clear h15; have h16 := g16; clear g16; clear e
  refine st_end ?_
  change (c8_5).wp _ _ _ _
  refine wp_cond_false (x := c8_6) (y := Code.skip) (eval_slot h16) ?_
  refine wp_skip ?_
  change (c8_10).wp _ _ _ _
  refine wp_seq (x := c8_11) (y := c8_12) ?_
  change (Code.region 3 O8_3 false).wp _ _ _ _
  refine reg_in (l := [0, 1, 2, 3, 4, 5, 6, 7, 8]) rfl ?_
  have Y : (execOp a10.eval o8_3_0).run Try.prog w7 = .ok (.value (.slice sa ps.length sc)) w7 := by unfold o8_3_0; go_simp
  refine st_val g8_3_0 rfl (wanted_free rfl) Y fun a12 e => ?_; clear Y
  have g18 := R.at_ e (by decide); replace R := R.put e; replace h0 := slot_on e h0 (by decide); replace h3 := slot_on e h3 (by decide); replace h4 := slot_on e h4 (by decide); clear h16; have h18 := g18; clear g18; clear e
  have Y : (execOp a12.eval o8_3_1).run Try.prog w7 = .ok (.value (.agg #[.int .i64 u.k, .string (str u.nm), .int .i64 u.i, .slice ua u.args.length uc])) w7 := by have qq0 : w7.cell? ⟨b1, 0, none⟩ = some (.int .i64 u.k) := B1.cell 0; have qq1 : w7.cell? ⟨b1, 1, none⟩ = some (.string (str u.nm)) := B1.cell 1; have qq2 : w7.cell? ⟨b1, 2, none⟩ = some (.int .i64 u.i) := B1.cell 2; have qq3 : w7.cell? ⟨b1, 3, none⟩ = some (.slice ua u.args.length uc) := B1.cell 3; unfold o8_3_1; go_simp
  refine st_val g8_3_1 rfl (wanted_free rfl) Y fun a14 e => ?_; clear Y
  have g19 := R.at_ e (by decide); replace R := R.put e; replace h0 := slot_on e h0 (by decide); replace h3 := slot_on e h3 (by decide); replace h4 := slot_on e h4 (by decide); replace h18 := slot_on e h18 (by decide); have h19 := g19; clear g19; clear e
  have Y : (execOp a14.eval o8_3_2).run Try.prog w7 = .ok (.enter 39 #[.slice sa ps.length sc, .agg #[.int .i64 u.k, .string (str u.nm), .int .i64 u.i, .slice ua u.args.length uc]]) w7 := by unfold o8_3_2; go_simp
  have hsa9 : ∀ g off, sa = some ⟨g, off, none⟩ → g < w7.heap.size := fun g off h => Nat.lt_of_lt_of_le (HSA.out g off h) K1.size
  refine st_call g8_3_2 rfl (wanted_free rfl) Y ((list_sx (tmsl_on HTS.out K1) (HT.out.on K1) HLN.out hsa9 HL.out).mono ?_); clear Y
  rintro e9 w16 ⟨ax, cx, rfl, hx, kk⟩
  replace K1 := keep_onto K1 kk
  replace B1 := blk_on B1 kk
  clear kk
  clear hsa9
  have HX := Lib.hid hx; clear hx
  have K2 := Keep.refl (fun g => g < w16.heap.size) w16
  refine ⟨_, rfl, fun a17 e => ?_⟩
  have g20 := R.at_ e (by decide); replace R := R.put e; replace h0 := slot_on e h0 (by decide); replace h3 := slot_on e h3 (by decide); replace h4 := slot_on e h4 (by decide); clear h18 h19; have h20 := g20; clear g20; clear e
  have Y : (execOp a17.eval o8_3_3).run Try.prog w16 = .ok (.value (.tuple #[.agg #[.int .i64 x.k, .string (str x.nm), .int .i64 x.i, .slice ax x.args.length cx], .int .i64 70])) w16 := by unfold o8_3_3; go_simp
  refine st_val g8_3_3 rfl (wanted_free rfl) Y fun a19 e => ?_; clear Y
  have g17 := R.at_ e (by decide); replace R := R.put e; replace h0 := slot_on e h0 (by decide); replace h3 := slot_on e h3 (by decide); replace h4 := slot_on e h4 (by decide); clear h20; have h17 := g17; clear g17; clear e
  have Y : (execOp a19.eval o8_3_4).run Try.prog w16 = .ok (.value (.agg #[.int .i64 x.k, .string (str x.nm), .int .i64 x.i, .slice ax x.args.length cx])) w16 := by unfold o8_3_4; go_simp
  refine st_val g8_3_4 rfl (wanted_free rfl) Y fun a21 e => ?_; clear Y
  have g21 := R.at_ e (by decide); replace R := R.put e; replace h0 := slot_on e h0 (by decide); replace h3 := slot_on e h3 (by decide); replace h4 := slot_on e h4 (by decide); replace h17 := slot_on e h17 (by decide); have h21 := g21; clear g21; clear e
  have Y : (execOp a21.eval o8_3_5).run Try.prog w16 = .ok (.value (.int .i64 70)) w16 := by unfold o8_3_5; go_simp
  refine st_val g8_3_5 rfl (wanted_free rfl) Y fun a23 e => ?_; clear Y
  have g22 := R.at_ e (by decide); replace R := R.put e; replace h0 := slot_on e h0 (by decide); replace h3 := slot_on e h3 (by decide); replace h4 := slot_on e h4 (by decide); replace h21 := slot_on e h21 (by decide); clear h17; have h22 := g22; clear g22; clear e
  have MK1 := K1
  have MK2 := K2
  have Y : (execOp a23.eval o8_3_6).run Try.prog w16 = .ok (.value (.pointer (some ⟨w16.heap.size, 0, none⟩))) (w16.alloc (.cells #[.int .i64 0, .string (⟨#[]⟩), .int .i64 0, .slice none 0 0] 24)) := by unfold o8_3_6; go_simp
  have B25 := Blk.new w16 24 #[.int .i64 0, .string (⟨#[]⟩), .int .i64 0, .slice none 0 0]
  replace K1 := K1.alloc (.cells #[.int .i64 0, .string (⟨#[]⟩), .int .i64 0, .slice none 0 0] 24)
  replace K2 := K2.alloc (.cells #[.int .i64 0, .string (⟨#[]⟩), .int .i64 0, .slice none 0 0] 24)
  have Nb1_b25 := Nat.ne_of_lt B1.lt; replace B1 := B1.alloc (.cells #[.int .i64 0, .string (⟨#[]⟩), .int .i64 0, .slice none 0 0] 24)
  obtain ⟨w26, hw26⟩ : ∃ x, x = w16.alloc (.cells #[.int .i64 0, .string (⟨#[]⟩), .int .i64 0, .slice none 0 0] 24) := ⟨_, rfl⟩
  rw [← hw26] at Y B25 K1 K2 B1
  obtain ⟨b25, hb25⟩ : ∃ x, x = w16.heap.size := ⟨_, rfl⟩
  rw [← hb25] at Y B25 Nb1_b25
  have LK1_b25 : W.heap.size ≤ b25 := by rw [hb25]; first | exact Nat.le_refl _ | exact MK1.size
  have LK2_b25 : w16.heap.size ≤ b25 := by rw [hb25]; first | exact Nat.le_refl _ | exact MK2.size
  clear hw26 hb25 MK1 MK2
  refine st_val g8_3_6 rfl (wanted_free rfl) Y fun a27 e => ?_; clear Y
  have g5 := R.at_ e (by decide); replace R := R.put e; replace h0 := slot_on e h0 (by decide); replace h3 := slot_on e h3 (by decide); replace h4 := slot_on e h4 (by decide); replace h21 := slot_on e h21 (by decide); replace h22 := slot_on e h22 (by decide); have h5 := g5; clear g5; clear e
  have Y : (execOp a27.eval o8_3_7).run Try.prog w26 = .ok .skip ((((w26.setCell ⟨b25, 0, none⟩ (.int .i64 x.k)).setCell ⟨b25, 1, none⟩ (.string (str x.nm))).setCell ⟨b25, 2, none⟩ (.int .i64 x.i)).setCell ⟨b25, 3, none⟩ (.slice ax x.args.length cx)) := by have qq0 : w26.cell? ⟨b25, 0, none⟩ = some (.int .i64 0) := B25.cell 0; have qq1 : w26.cell? ⟨b25, 1, none⟩ = some (.string (⟨#[]⟩)) := B25.cell 1; have qq2 : w26.cell? ⟨b25, 2, none⟩ = some (.int .i64 0) := B25.cell 2; have qq3 : w26.cell? ⟨b25, 3, none⟩ = some (.slice none 0 0) := B25.cell 3; have z0 := B25.frozen 0; have z1 := B25.frozen 1; have z2 := B25.frozen 2; have z3 := B25.frozen 3; unfold o8_3_7; go_simp
  replace K1 := ((((K1.setCell (p := ⟨b25, 0, none⟩) (Nat.not_lt.2 LK1_b25) (.int .i64 x.k)).setCell (p := ⟨b25, 1, none⟩) (Nat.not_lt.2 LK1_b25) (.string (str x.nm))).setCell (p := ⟨b25, 2, none⟩) (Nat.not_lt.2 LK1_b25) (.int .i64 x.i)).setCell (p := ⟨b25, 3, none⟩) (Nat.not_lt.2 LK1_b25) (.slice ax x.args.length cx))
  replace K2 := ((((K2.setCell (p := ⟨b25, 0, none⟩) (Nat.not_lt.2 LK2_b25) (.int .i64 x.k)).setCell (p := ⟨b25, 1, none⟩) (Nat.not_lt.2 LK2_b25) (.string (str x.nm))).setCell (p := ⟨b25, 2, none⟩) (Nat.not_lt.2 LK2_b25) (.int .i64 x.i)).setCell (p := ⟨b25, 3, none⟩) (Nat.not_lt.2 LK2_b25) (.slice ax x.args.length cx))
  replace B1 := ((((B1.far (p := ⟨b25, 0, none⟩) Nb1_b25 (.int .i64 x.k)).far (p := ⟨b25, 1, none⟩) Nb1_b25 (.string (str x.nm))).far (p := ⟨b25, 2, none⟩) Nb1_b25 (.int .i64 x.i)).far (p := ⟨b25, 3, none⟩) Nb1_b25 (.slice ax x.args.length cx))
  replace B25 : Blk ((((w26.setCell ⟨b25, 0, none⟩ (.int .i64 x.k)).setCell ⟨b25, 1, none⟩ (.string (str x.nm))).setCell ⟨b25, 2, none⟩ (.int .i64 x.i)).setCell ⟨b25, 3, none⟩ (.slice ax x.args.length cx)) b25 24 #[.int .i64 x.k, .string (str x.nm), .int .i64 x.i, .slice ax x.args.length cx] := ((((B25.set_ 0 (.int .i64 x.k)).set_ 1 (.string (str x.nm))).set_ 2 (.int .i64 x.i)).set_ 3 (.slice ax x.args.length cx))
  generalize ((((w26.setCell ⟨b25, 0, none⟩ (.int .i64 x.k)).setCell ⟨b25, 1, none⟩ (.string (str x.nm))).setCell ⟨b25, 2, none⟩ (.int .i64 x.i)).setCell ⟨b25, 3, none⟩ (.slice ax x.args.length cx)) = w29 at Y K1 K2 B1 B25
  refine st_skip g8_3_7 rfl (wanted_free rfl) Y ?_; clear Y
  have Y : (execOp a27.eval o8_3_8).run Try.prog w29 = .ok (.value (.int .i64 70)) w29 := by unfold o8_3_8; go_simp
  refine st_val g8_3_8 rfl (wanted_free rfl) Y fun a30 e => ?_; clear Y
  have g6 := R.at_ e (by decide); replace R := R.put e; replace h0 := slot_on e h0 (by decide); replace h3 := slot_on e h3 (by decide); replace h4 := slot_on e h4 (by decide); replace h5 := slot_on e h5 (by decide); clear h21 h22; have h6 := g6; clear g6; clear e
  refine st_end ?_
  change (c8_12).wp _ _ _ _
  refine wp_seq (x := c8_13) (y := c8_20) ?_
  refine wp_seq (x := c8_14) (y := c8_15) ?_
  change (Code.region 4 O8_4 false).wp _ _ _ _
  refine reg_in (l := [0, 1]) rfl ?_
  have Y : (execOp a30.eval o8_4_0).run Try.prog w29 = .ok (.value (.int .i64 70)) w29 := by unfold o8_4_0; go_simp
  refine st_val g8_4_0 rfl (wanted_free rfl) Y fun a32 e => ?_; clear Y
  have g23 := R.at_ e (by decide); replace R := R.put e; replace h0 := slot_on e h0 (by decide); replace h3 := slot_on e h3 (by decide); replace h4 := slot_on e h4 (by decide); replace h5 := slot_on e h5 (by decide); replace h6 := slot_on e h6 (by decide); have h23 := g23; clear g23; clear e
  have Y : (execOp a32.eval o8_4_1).run Try.prog w29 = .ok (.value (.bool true)) w29 := by unfold o8_4_1; go_simp
  refine st_val g8_4_1 rfl (wanted_free rfl) Y fun a34 e => ?_; clear Y
  have g24 := R.at_ e (by decide); replace R := R.put e; replace h0 := slot_on e h0 (by decide); replace h3 := slot_on e h3 (by decide); replace h4 := slot_on e h4 (by decide); replace h5 := slot_on e h5 (by decide); replace h6 := slot_on e h6 (by decide); clear h23; have h24 := g24; clear g24; clear e
  refine st_end ?_
  change (c8_15).wp _ _ _ _
  refine wp_cond_true (x := c8_16) (y := Code.skip) (eval_slot h24) ?_
  refine wp_seq (x := c8_17) (y := Code.ret) ?_
  change (Code.region 5 O8_5 false).wp _ _ _ _
  refine reg_in (l := [0, 1, 2, 3, 4, 5, 6, 7]) rfl ?_
  have Y : (execOp a34.eval o8_5_0).run Try.prog w29 = .ok (.value (.int .i64 70)) w29 := by unfold o8_5_0; go_simp
  refine st_val g8_5_0 rfl (wanted_free rfl) Y fun a36 e => ?_; clear Y
  have g25 := R.at_ e (by decide); replace R := R.put e; replace h0 := slot_on e h0 (by decide); replace h3 := slot_on e h3 (by decide); replace h4 := slot_on e h4 (by decide); replace h5 := slot_on e h5 (by decide); clear h6 h24; have h25 := g25; clear g25; clear e
  have Y : (execOp a36.eval o8_5_1).run Try.prog w29 = .ok (.value (.bool true)) w29 := by unfold o8_5_1; go_simp
  refine st_val g8_5_1 rfl (wanted_free rfl) Y fun a38 e => ?_; clear Y
  have g26 := R.at_ e (by decide); replace R := R.put e; replace h0 := slot_on e h0 (by decide); replace h3 := slot_on e h3 (by decide); replace h4 := slot_on e h4 (by decide); replace h5 := slot_on e h5 (by decide); clear h25; have h26 := g26; clear g26; clear e
  have Y : (execOp a38.eval o8_5_2).run Try.prog w29 = .ok (.value (.bool true)) w29 := by unfold o8_5_2; go_simp
  refine st_val g8_5_2 rfl (wanted_free rfl) Y fun a40 e => ?_; clear Y
  have g27 := R.at_ e (by decide); replace R := R.put e; replace h0 := slot_on e h0 (by decide); replace h3 := slot_on e h3 (by decide); replace h4 := slot_on e h4 (by decide); replace h5 := slot_on e h5 (by decide); clear h26; have h27 := g27; clear g27; clear e
  have Y : (execOp a40.eval o8_5_3).run Try.prog w29 = .ok (.value (.pointer (some ⟨b25, 0, none⟩))) w29 := by unfold o8_5_3; go_simp
  refine st_val g8_5_3 rfl (wanted_is (j := 2) (d := 27) rfl rfl h27 rfl) Y fun a42 e => ?_; clear Y
  have g28 := R.at_ e (by decide); replace R := R.put e; replace h0 := slot_on e h0 (by decide); replace h3 := slot_on e h3 (by decide); replace h4 := slot_on e h4 (by decide); replace h5 := slot_on e h5 (by decide); replace h27 := slot_on e h27 (by decide); have h28 := g28; clear g28; clear e
  have Y : (execOp a42.eval o8_5_4).run Try.prog w29 = .ok (.value (.int .i64 x.k)) w29 := by have qq0 : w29.cell? ⟨b25, 0, none⟩ = some (.int .i64 x.k) := B25.cell 0; have qq1 : w29.cell? ⟨b25, 1, none⟩ = some (.string (str x.nm)) := B25.cell 1; have qq2 : w29.cell? ⟨b25, 2, none⟩ = some (.int .i64 x.i) := B25.cell 2; have qq3 : w29.cell? ⟨b25, 3, none⟩ = some (.slice ax x.args.length cx) := B25.cell 3; unfold o8_5_4; go_simp
  refine st_val g8_5_4 rfl (wanted_is (j := 2) (d := 27) rfl rfl h27 rfl) Y fun a44 e => ?_; clear Y
  have g29 := R.at_ e (by decide); replace R := R.put e; replace h0 := slot_on e h0 (by decide); replace h3 := slot_on e h3 (by decide); replace h4 := slot_on e h4 (by decide); replace h5 := slot_on e h5 (by decide); replace h27 := slot_on e h27 (by decide); clear h28; have h29 := g29; clear g29; clear e
  have Y : (execOp a44.eval o8_5_5).run Try.prog w29 = .ok (.value (.bool true)) w29 := by have hk := HZ.out; unfold o8_5_5; go_simp
  refine st_val g8_5_5 rfl (wanted_is (j := 2) (d := 27) rfl rfl h27 rfl) Y fun a46 e => ?_; clear Y
  have g30 := R.at_ e (by decide); replace R := R.put e; replace h0 := slot_on e h0 (by decide); replace h3 := slot_on e h3 (by decide); replace h4 := slot_on e h4 (by decide); replace h5 := slot_on e h5 (by decide); replace h27 := slot_on e h27 (by decide); clear h29; have h30 := g30; clear g30; clear e
  have Y : (execOp a46.eval o8_5_6).run Try.prog w29 = .ok (.value (.bool true)) w29 := by unfold o8_5_6; go_simp
  refine st_val g8_5_6 rfl (wanted_free rfl) Y fun a48 e => ?_; clear Y
  have g31 := R.at_ e (by decide); replace R := R.put e; replace h0 := slot_on e h0 (by decide); replace h3 := slot_on e h3 (by decide); replace h4 := slot_on e h4 (by decide); replace h5 := slot_on e h5 (by decide); clear h27 h30; have h31 := g31; clear g31; clear e
  have Y : (execOp a48.eval o8_5_7).run Try.prog w29 = .ok (.value (.bool true)) w29 := by unfold o8_5_7; go_simp
  refine st_val g8_5_7 rfl (wanted_free rfl) Y fun a50 e => ?_; clear Y
  have g4 := R.at_ e (by decide); replace R := R.put e; replace h0 := slot_on e h0 (by decide); replace h3 := slot_on e h3 (by decide); replace h5 := slot_on e h5 (by decide); clear h4 h31; have h4 := g4; clear g4; clear e
  refine st_end ?_
  change (Code.ret).wp _ _ _ _
  refine wp_ret ?_
  change bodyPost Try.prog Try.f8 (fun e w' => e = .returned (.bool true) ∧ Keep (fun g => g < W.heap.size) W w') .ret a50 w29
  refine ret_one rfl R h4 ?_
  exact ⟨rfl, K1⟩

set_option maxRecDepth 100000 in
set_option maxHeartbeats 4000000 in
theorem lw_t {W : World} {u x : Tm} {ua sa : Option Addr} {uc sc : Nat} {ps : List TP}  {f0 : Act} {w0 : World} (R : FrS 102 f0) (h0 : f0.tmps[0]? = some (.slice sa ps.length sc)) (h1 : f0.tmps[1]? = some (.agg #[.int .i64 u.k, .string (str u.nm), .int .i64 u.i, .slice ua u.args.length uc])) (K1 : Keep (fun g => g < W.heap.size) W w0)  (HT : Hid (TmAt W.heap.size W u ua uc)) (HTS : Hid (TmSl W.heap.size W sa ps)) (HLN : Hid (ps.length ≤ 2305843009213693951)) (HSA : Hid (∀ g off, sa = some ⟨g, off, none⟩ → g < W.heap.size)) (HL : Hid (lsV (ps.map (·.1)) u = (x, 0))) (HD : Hid (x.depth ≤ 100)) (HRU : Hid (u.right = true)) (HI : Hid ((itV x).1.length ≤ 100)) (HF : Hid ((itV x).1 = (ps.map (·.1)).map (fun t => t.tree.tm) ++ (itV u).1 ∧ (itV x).2 = (itV u).2 ∧ (∀ t ∈ ps.map (·.1), t.right = true) ∧ ((∀ y ∈ (itV u).1, y.right = true) ∧ (itV u).2.right = true) ∧ lsV [] u = (u.tree.tm, 0))) : c8_0.wp Try.prog (bodyPost Try.prog Try.f8 (fun e w' => e = .returned (.bool true) ∧ Keep (fun g => g < W.heap.size) W w')) f0 w0 := by
  refine wp_seq (x := c8_1) (y := c8_2) ?_
  change (Code.region 0 O8_0 false).wp _ _ _ _
  refine reg_in (l := [0, 1]) rfl ?_
  have MK1 := K1
  have Y : (execOp f0.eval o8_0_0).run Try.prog w0 = .ok (.value (.pointer (some ⟨w0.heap.size, 0, none⟩))) (w0.alloc (.cells #[.int .i64 u.k, .string (str u.nm), .int .i64 u.i, .slice ua u.args.length uc] 24)) := by unfold o8_0_0; go_simp
  have B52 := Blk.new w0 24 #[.int .i64 u.k, .string (str u.nm), .int .i64 u.i, .slice ua u.args.length uc]
  replace K1 := K1.alloc (.cells #[.int .i64 u.k, .string (str u.nm), .int .i64 u.i, .slice ua u.args.length uc] 24)
  obtain ⟨w53, hw53⟩ : ∃ x, x = w0.alloc (.cells #[.int .i64 u.k, .string (str u.nm), .int .i64 u.i, .slice ua u.args.length uc] 24) := ⟨_, rfl⟩
  rw [← hw53] at Y B52 K1
  obtain ⟨b52, hb52⟩ : ∃ x, x = w0.heap.size := ⟨_, rfl⟩
  rw [← hb52] at Y B52
  have LK1_b52 : W.heap.size ≤ b52 := by rw [hb52]; first | exact Nat.le_refl _ | exact MK1.size
  clear hw53 hb52 MK1
  refine st_val g8_0_0 rfl (wanted_free rfl) Y fun a54 e => ?_; clear Y
  have g3 := R.at_ e (by decide); replace R := R.put e; replace h0 := slot_on e h0 (by decide); clear h1; have h3 := g3; clear g3; clear e
  have Y : (execOp a54.eval o8_0_1).run Try.prog w53 = .ok (.value (.bool false)) w53 := by unfold o8_0_1; go_simp
  refine st_val g8_0_1 rfl (wanted_free rfl) Y fun a56 e => ?_; clear Y
  have g4 := R.at_ e (by decide); replace R := R.put e; replace h0 := slot_on e h0 (by decide); replace h3 := slot_on e h3 (by decide); have h4 := g4; clear g4; clear e
  refine st_end ?_
  change (c8_2).wp _ _ _ _
  refine wp_seq (x := c8_3) (y := c8_10) ?_
  refine wp_seq (x := c8_4) (y := c8_5) ?_
  change (Code.region 1 O8_1 false).wp _ _ _ _
  refine reg_in (l := [0, 1]) rfl ?_
  have Y : (execOp a56.eval o8_1_0).run Try.prog w53 = .ok (.enter 13 #[]) w53 := by unfold o8_1_0; go_simp
  refine st_call g8_1_0 rfl (wanted_free rfl) Y ((alive_any (w := w53)).mono ?_); clear Y
  rintro e9 w58 ⟨rfl, kk⟩
  replace K1 := keep_onto K1 kk
  replace B52 := blk_on B52 kk
  clear kk
  refine ⟨_, rfl, fun a59 e => ?_⟩
  have g15 := R.at_ e (by decide); replace R := R.put e; replace h0 := slot_on e h0 (by decide); replace h3 := slot_on e h3 (by decide); replace h4 := slot_on e h4 (by decide); have h15 := g15; clear g15; clear e
  have Y : (execOp a59.eval o8_1_1).run Try.prog w58 = .ok (.value (.bool false)) w58 := by unfold o8_1_1; go_simp
  refine st_val g8_1_1 rfl (wanted_free rfl) Y fun a61 e => ?_; clear Y
  have g16 := R.at_ e (by decide); replace R := R.put e; replace h0 := slot_on e h0 (by decide); replace h3 := slot_on e h3 (by decide); replace h4 := slot_on e h4 (by decide); clear h15; have h16 := g16; clear g16; clear e
  refine st_end ?_
  change (c8_5).wp _ _ _ _
  refine wp_cond_false (x := c8_6) (y := Code.skip) (eval_slot h16) ?_
  refine wp_skip ?_
  change (c8_10).wp _ _ _ _
  refine wp_seq (x := c8_11) (y := c8_12) ?_
  change (Code.region 3 O8_3 false).wp _ _ _ _
  refine reg_in (l := [0, 1, 2, 3, 4, 5, 6, 7, 8]) rfl ?_
  have Y : (execOp a61.eval o8_3_0).run Try.prog w58 = .ok (.value (.slice sa ps.length sc)) w58 := by unfold o8_3_0; go_simp
  refine st_val g8_3_0 rfl (wanted_free rfl) Y fun a63 e => ?_; clear Y
  have g18 := R.at_ e (by decide); replace R := R.put e; replace h0 := slot_on e h0 (by decide); replace h3 := slot_on e h3 (by decide); replace h4 := slot_on e h4 (by decide); clear h16; have h18 := g18; clear g18; clear e
  have Y : (execOp a63.eval o8_3_1).run Try.prog w58 = .ok (.value (.agg #[.int .i64 u.k, .string (str u.nm), .int .i64 u.i, .slice ua u.args.length uc])) w58 := by have qq0 : w58.cell? ⟨b52, 0, none⟩ = some (.int .i64 u.k) := B52.cell 0; have qq1 : w58.cell? ⟨b52, 1, none⟩ = some (.string (str u.nm)) := B52.cell 1; have qq2 : w58.cell? ⟨b52, 2, none⟩ = some (.int .i64 u.i) := B52.cell 2; have qq3 : w58.cell? ⟨b52, 3, none⟩ = some (.slice ua u.args.length uc) := B52.cell 3; unfold o8_3_1; go_simp
  refine st_val g8_3_1 rfl (wanted_free rfl) Y fun a65 e => ?_; clear Y
  have g19 := R.at_ e (by decide); replace R := R.put e; replace h0 := slot_on e h0 (by decide); replace h3 := slot_on e h3 (by decide); replace h4 := slot_on e h4 (by decide); replace h18 := slot_on e h18 (by decide); have h19 := g19; clear g19; clear e
  have Y : (execOp a65.eval o8_3_2).run Try.prog w58 = .ok (.enter 39 #[.slice sa ps.length sc, .agg #[.int .i64 u.k, .string (str u.nm), .int .i64 u.i, .slice ua u.args.length uc]]) w58 := by unfold o8_3_2; go_simp
  have hsa9 : ∀ g off, sa = some ⟨g, off, none⟩ → g < w58.heap.size := fun g off h => Nat.lt_of_lt_of_le (HSA.out g off h) K1.size
  refine st_call g8_3_2 rfl (wanted_free rfl) Y ((list_sx (tmsl_on HTS.out K1) (HT.out.on K1) HLN.out hsa9 HL.out).mono ?_); clear Y
  rintro e9 w67 ⟨ax, cx, rfl, hx, kk⟩
  replace K1 := keep_onto K1 kk
  replace B52 := blk_on B52 kk
  clear kk
  clear hsa9
  have HX := Lib.hid hx; clear hx
  have K2 := Keep.refl (fun g => g < w67.heap.size) w67
  refine ⟨_, rfl, fun a68 e => ?_⟩
  have g20 := R.at_ e (by decide); replace R := R.put e; replace h0 := slot_on e h0 (by decide); replace h3 := slot_on e h3 (by decide); replace h4 := slot_on e h4 (by decide); clear h18 h19; have h20 := g20; clear g20; clear e
  have Y : (execOp a68.eval o8_3_3).run Try.prog w67 = .ok (.value (.tuple #[.agg #[.int .i64 x.k, .string (str x.nm), .int .i64 x.i, .slice ax x.args.length cx], .int .i64 0])) w67 := by unfold o8_3_3; go_simp
  refine st_val g8_3_3 rfl (wanted_free rfl) Y fun a70 e => ?_; clear Y
  have g17 := R.at_ e (by decide); replace R := R.put e; replace h0 := slot_on e h0 (by decide); replace h3 := slot_on e h3 (by decide); replace h4 := slot_on e h4 (by decide); clear h20; have h17 := g17; clear g17; clear e
  have Y : (execOp a70.eval o8_3_4).run Try.prog w67 = .ok (.value (.agg #[.int .i64 x.k, .string (str x.nm), .int .i64 x.i, .slice ax x.args.length cx])) w67 := by unfold o8_3_4; go_simp
  refine st_val g8_3_4 rfl (wanted_free rfl) Y fun a72 e => ?_; clear Y
  have g21 := R.at_ e (by decide); replace R := R.put e; replace h0 := slot_on e h0 (by decide); replace h3 := slot_on e h3 (by decide); replace h4 := slot_on e h4 (by decide); replace h17 := slot_on e h17 (by decide); have h21 := g21; clear g21; clear e
  have Y : (execOp a72.eval o8_3_5).run Try.prog w67 = .ok (.value (.int .i64 0)) w67 := by unfold o8_3_5; go_simp
  refine st_val g8_3_5 rfl (wanted_free rfl) Y fun a74 e => ?_; clear Y
  have g22 := R.at_ e (by decide); replace R := R.put e; replace h0 := slot_on e h0 (by decide); replace h3 := slot_on e h3 (by decide); replace h4 := slot_on e h4 (by decide); replace h21 := slot_on e h21 (by decide); clear h17; have h22 := g22; clear g22; clear e
  have MK1 := K1
  have MK2 := K2
  have Y : (execOp a74.eval o8_3_6).run Try.prog w67 = .ok (.value (.pointer (some ⟨w67.heap.size, 0, none⟩))) (w67.alloc (.cells #[.int .i64 0, .string (⟨#[]⟩), .int .i64 0, .slice none 0 0] 24)) := by unfold o8_3_6; go_simp
  have B76 := Blk.new w67 24 #[.int .i64 0, .string (⟨#[]⟩), .int .i64 0, .slice none 0 0]
  replace K1 := K1.alloc (.cells #[.int .i64 0, .string (⟨#[]⟩), .int .i64 0, .slice none 0 0] 24)
  replace K2 := K2.alloc (.cells #[.int .i64 0, .string (⟨#[]⟩), .int .i64 0, .slice none 0 0] 24)
  have Nb52_b76 := Nat.ne_of_lt B52.lt; replace B52 := B52.alloc (.cells #[.int .i64 0, .string (⟨#[]⟩), .int .i64 0, .slice none 0 0] 24)
  obtain ⟨w77, hw77⟩ : ∃ x, x = w67.alloc (.cells #[.int .i64 0, .string (⟨#[]⟩), .int .i64 0, .slice none 0 0] 24) := ⟨_, rfl⟩
  rw [← hw77] at Y B76 K1 K2 B52
  obtain ⟨b76, hb76⟩ : ∃ x, x = w67.heap.size := ⟨_, rfl⟩
  rw [← hb76] at Y B76 Nb52_b76
  have LK1_b76 : W.heap.size ≤ b76 := by rw [hb76]; first | exact Nat.le_refl _ | exact MK1.size
  have LK2_b76 : w67.heap.size ≤ b76 := by rw [hb76]; first | exact Nat.le_refl _ | exact MK2.size
  clear hw77 hb76 MK1 MK2
  refine st_val g8_3_6 rfl (wanted_free rfl) Y fun a78 e => ?_; clear Y
  have g5 := R.at_ e (by decide); replace R := R.put e; replace h0 := slot_on e h0 (by decide); replace h3 := slot_on e h3 (by decide); replace h4 := slot_on e h4 (by decide); replace h21 := slot_on e h21 (by decide); replace h22 := slot_on e h22 (by decide); have h5 := g5; clear g5; clear e
  have Y : (execOp a78.eval o8_3_7).run Try.prog w77 = .ok .skip ((((w77.setCell ⟨b76, 0, none⟩ (.int .i64 x.k)).setCell ⟨b76, 1, none⟩ (.string (str x.nm))).setCell ⟨b76, 2, none⟩ (.int .i64 x.i)).setCell ⟨b76, 3, none⟩ (.slice ax x.args.length cx)) := by have qq0 : w77.cell? ⟨b76, 0, none⟩ = some (.int .i64 0) := B76.cell 0; have qq1 : w77.cell? ⟨b76, 1, none⟩ = some (.string (⟨#[]⟩)) := B76.cell 1; have qq2 : w77.cell? ⟨b76, 2, none⟩ = some (.int .i64 0) := B76.cell 2; have qq3 : w77.cell? ⟨b76, 3, none⟩ = some (.slice none 0 0) := B76.cell 3; have z0 := B76.frozen 0; have z1 := B76.frozen 1; have z2 := B76.frozen 2; have z3 := B76.frozen 3; unfold o8_3_7; go_simp
  replace K1 := ((((K1.setCell (p := ⟨b76, 0, none⟩) (Nat.not_lt.2 LK1_b76) (.int .i64 x.k)).setCell (p := ⟨b76, 1, none⟩) (Nat.not_lt.2 LK1_b76) (.string (str x.nm))).setCell (p := ⟨b76, 2, none⟩) (Nat.not_lt.2 LK1_b76) (.int .i64 x.i)).setCell (p := ⟨b76, 3, none⟩) (Nat.not_lt.2 LK1_b76) (.slice ax x.args.length cx))
  replace K2 := ((((K2.setCell (p := ⟨b76, 0, none⟩) (Nat.not_lt.2 LK2_b76) (.int .i64 x.k)).setCell (p := ⟨b76, 1, none⟩) (Nat.not_lt.2 LK2_b76) (.string (str x.nm))).setCell (p := ⟨b76, 2, none⟩) (Nat.not_lt.2 LK2_b76) (.int .i64 x.i)).setCell (p := ⟨b76, 3, none⟩) (Nat.not_lt.2 LK2_b76) (.slice ax x.args.length cx))
  replace B52 := ((((B52.far (p := ⟨b76, 0, none⟩) Nb52_b76 (.int .i64 x.k)).far (p := ⟨b76, 1, none⟩) Nb52_b76 (.string (str x.nm))).far (p := ⟨b76, 2, none⟩) Nb52_b76 (.int .i64 x.i)).far (p := ⟨b76, 3, none⟩) Nb52_b76 (.slice ax x.args.length cx))
  replace B76 : Blk ((((w77.setCell ⟨b76, 0, none⟩ (.int .i64 x.k)).setCell ⟨b76, 1, none⟩ (.string (str x.nm))).setCell ⟨b76, 2, none⟩ (.int .i64 x.i)).setCell ⟨b76, 3, none⟩ (.slice ax x.args.length cx)) b76 24 #[.int .i64 x.k, .string (str x.nm), .int .i64 x.i, .slice ax x.args.length cx] := ((((B76.set_ 0 (.int .i64 x.k)).set_ 1 (.string (str x.nm))).set_ 2 (.int .i64 x.i)).set_ 3 (.slice ax x.args.length cx))
  generalize ((((w77.setCell ⟨b76, 0, none⟩ (.int .i64 x.k)).setCell ⟨b76, 1, none⟩ (.string (str x.nm))).setCell ⟨b76, 2, none⟩ (.int .i64 x.i)).setCell ⟨b76, 3, none⟩ (.slice ax x.args.length cx)) = w80 at Y K1 K2 B52 B76
  refine st_skip g8_3_7 rfl (wanted_free rfl) Y ?_; clear Y
  have Y : (execOp a78.eval o8_3_8).run Try.prog w80 = .ok (.value (.int .i64 0)) w80 := by unfold o8_3_8; go_simp
  refine st_val g8_3_8 rfl (wanted_free rfl) Y fun a81 e => ?_; clear Y
  have g6 := R.at_ e (by decide); replace R := R.put e; replace h0 := slot_on e h0 (by decide); replace h3 := slot_on e h3 (by decide); replace h4 := slot_on e h4 (by decide); replace h5 := slot_on e h5 (by decide); clear h21 h22; have h6 := g6; clear g6; clear e
  refine st_end ?_
  change (c8_12).wp _ _ _ _
  refine wp_seq (x := c8_13) (y := c8_20) ?_
  refine wp_seq (x := c8_14) (y := c8_15) ?_
  change (Code.region 4 O8_4 false).wp _ _ _ _
  refine reg_in (l := [0, 1]) rfl ?_
  have Y : (execOp a81.eval o8_4_0).run Try.prog w80 = .ok (.value (.int .i64 0)) w80 := by unfold o8_4_0; go_simp
  refine st_val g8_4_0 rfl (wanted_free rfl) Y fun a83 e => ?_; clear Y
  have g23 := R.at_ e (by decide); replace R := R.put e; replace h0 := slot_on e h0 (by decide); replace h3 := slot_on e h3 (by decide); replace h4 := slot_on e h4 (by decide); replace h5 := slot_on e h5 (by decide); replace h6 := slot_on e h6 (by decide); have h23 := g23; clear g23; clear e
  have Y : (execOp a83.eval o8_4_1).run Try.prog w80 = .ok (.value (.bool false)) w80 := by unfold o8_4_1; go_simp
  refine st_val g8_4_1 rfl (wanted_free rfl) Y fun a85 e => ?_; clear Y
  have g24 := R.at_ e (by decide); replace R := R.put e; replace h0 := slot_on e h0 (by decide); replace h3 := slot_on e h3 (by decide); replace h4 := slot_on e h4 (by decide); replace h5 := slot_on e h5 (by decide); replace h6 := slot_on e h6 (by decide); clear h23; have h24 := g24; clear g24; clear e
  refine st_end ?_
  change (c8_15).wp _ _ _ _
  refine wp_cond_false (x := c8_16) (y := Code.skip) (eval_slot h24) ?_
  refine wp_skip ?_
  change (c8_20).wp _ _ _ _
  refine wp_seq (x := c8_21) (y := c8_22) ?_
  change (Code.region 6 O8_6 false).wp _ _ _ _
  refine reg_in (l := [0, 1, 2, 3, 4, 5, 6, 7]) rfl ?_
  have Y : (execOp a85.eval o8_6_0).run Try.prog w80 = .ok (.value (.agg #[.int .i64 u.k, .string (str u.nm), .int .i64 u.i, .slice ua u.args.length uc])) w80 := by have qq0 : w80.cell? ⟨b52, 0, none⟩ = some (.int .i64 u.k) := B52.cell 0; have qq1 : w80.cell? ⟨b52, 1, none⟩ = some (.string (str u.nm)) := B52.cell 1; have qq2 : w80.cell? ⟨b52, 2, none⟩ = some (.int .i64 u.i) := B52.cell 2; have qq3 : w80.cell? ⟨b52, 3, none⟩ = some (.slice ua u.args.length uc) := B52.cell 3; unfold o8_6_0; go_simp
  refine st_val g8_6_0 rfl (wanted_free rfl) Y fun a87 e => ?_; clear Y
  have g33 := R.at_ e (by decide); replace R := R.put e; replace h0 := slot_on e h0 (by decide); replace h3 := slot_on e h3 (by decide); replace h4 := slot_on e h4 (by decide); replace h5 := slot_on e h5 (by decide); clear h6 h24; have h33 := g33; clear g33; clear e
  have Y : (execOp a87.eval o8_6_1).run Try.prog w80 = .ok (.enter 41 #[.agg #[.int .i64 u.k, .string (str u.nm), .int .i64 u.i, .slice ua u.args.length uc]]) w80 := by unfold o8_6_1; go_simp
  refine st_call g8_6_1 rfl (wanted_free rfl) Y ((items_sx (HT.out.on K1)).mono ?_); clear Y
  rintro e9 w89 ⟨s1, k1, ps1, a1, c1, rfl, hx, kk⟩
  replace K1 := keep_onto K1 kk
  replace K2 := keep_onto K2 kk
  replace B52 := blk_on B52 kk
  replace B76 := blk_on B76 kk
  clear kk
  have H1 := Lib.hid hx; have HE1 := Lib.hid hx.2.2.1; clear hx
  have K3 := Keep.refl (fun g => g < w89.heap.size) w89
  refine ⟨_, rfl, fun a90 e => ?_⟩
  have g34 := R.at_ e (by decide); replace R := R.put e; replace h0 := slot_on e h0 (by decide); replace h3 := slot_on e h3 (by decide); replace h4 := slot_on e h4 (by decide); replace h5 := slot_on e h5 (by decide); clear h33; have h34 := g34; clear g34; clear e
  have Y : (execOp a90.eval o8_6_2).run Try.prog w89 = .ok (.value (.tuple #[.slice s1 ps1.length k1, .agg #[.int .i64 ((itV u).2.k), .string (str (itV u).2.nm), .int .i64 ((itV u).2.i), .slice a1 (itV u).2.args.length c1]])) w89 := by unfold o8_6_2; go_simp
  refine st_val g8_6_2 rfl (wanted_free rfl) Y fun a92 e => ?_; clear Y
  have g32 := R.at_ e (by decide); replace R := R.put e; replace h0 := slot_on e h0 (by decide); replace h3 := slot_on e h3 (by decide); replace h4 := slot_on e h4 (by decide); replace h5 := slot_on e h5 (by decide); clear h34; have h32 := g32; clear g32; clear e
  have Y : (execOp a92.eval o8_6_3).run Try.prog w89 = .ok (.value (.slice s1 ps1.length k1)) w89 := by unfold o8_6_3; go_simp
  refine st_val g8_6_3 rfl (wanted_free rfl) Y fun a94 e => ?_; clear Y
  have g35 := R.at_ e (by decide); replace R := R.put e; replace h0 := slot_on e h0 (by decide); replace h3 := slot_on e h3 (by decide); replace h4 := slot_on e h4 (by decide); replace h5 := slot_on e h5 (by decide); replace h32 := slot_on e h32 (by decide); have h35 := g35; clear g35; clear e
  have Y : (execOp a94.eval o8_6_4).run Try.prog w89 = .ok (.value (.agg #[.int .i64 ((itV u).2.k), .string (str (itV u).2.nm), .int .i64 ((itV u).2.i), .slice a1 (itV u).2.args.length c1])) w89 := by unfold o8_6_4; go_simp
  refine st_val g8_6_4 rfl (wanted_free rfl) Y fun a96 e => ?_; clear Y
  have g36 := R.at_ e (by decide); replace R := R.put e; replace h0 := slot_on e h0 (by decide); replace h3 := slot_on e h3 (by decide); replace h4 := slot_on e h4 (by decide); replace h5 := slot_on e h5 (by decide); replace h35 := slot_on e h35 (by decide); clear h32; have h36 := g36; clear g36; clear e
  have MK1 := K1
  have MK2 := K2
  have MK3 := K3
  have Y : (execOp a96.eval o8_6_5).run Try.prog w89 = .ok (.value (.pointer (some ⟨w89.heap.size, 0, none⟩))) (w89.alloc (.cells #[.int .i64 0, .string (⟨#[]⟩), .int .i64 0, .slice none 0 0] 24)) := by unfold o8_6_5; go_simp
  have B98 := Blk.new w89 24 #[.int .i64 0, .string (⟨#[]⟩), .int .i64 0, .slice none 0 0]
  replace K1 := K1.alloc (.cells #[.int .i64 0, .string (⟨#[]⟩), .int .i64 0, .slice none 0 0] 24)
  replace K2 := K2.alloc (.cells #[.int .i64 0, .string (⟨#[]⟩), .int .i64 0, .slice none 0 0] 24)
  replace K3 := K3.alloc (.cells #[.int .i64 0, .string (⟨#[]⟩), .int .i64 0, .slice none 0 0] 24)
  have Nb52_b98 := Nat.ne_of_lt B52.lt; replace B52 := B52.alloc (.cells #[.int .i64 0, .string (⟨#[]⟩), .int .i64 0, .slice none 0 0] 24)
  have Nb76_b98 := Nat.ne_of_lt B76.lt; replace B76 := B76.alloc (.cells #[.int .i64 0, .string (⟨#[]⟩), .int .i64 0, .slice none 0 0] 24)
  obtain ⟨w99, hw99⟩ : ∃ x, x = w89.alloc (.cells #[.int .i64 0, .string (⟨#[]⟩), .int .i64 0, .slice none 0 0] 24) := ⟨_, rfl⟩
  rw [← hw99] at Y B98 K1 K2 K3 B52 B76
  obtain ⟨b98, hb98⟩ : ∃ x, x = w89.heap.size := ⟨_, rfl⟩
  rw [← hb98] at Y B98 Nb52_b98 Nb76_b98
  have LK1_b98 : W.heap.size ≤ b98 := by rw [hb98]; first | exact Nat.le_refl _ | exact MK1.size
  have LK2_b98 : w67.heap.size ≤ b98 := by rw [hb98]; first | exact Nat.le_refl _ | exact MK2.size
  have LK3_b98 : w89.heap.size ≤ b98 := by rw [hb98]; first | exact Nat.le_refl _ | exact MK3.size
  clear hw99 hb98 MK1 MK2 MK3
  refine st_val g8_6_5 rfl (wanted_free rfl) Y fun a100 e => ?_; clear Y
  have g8 := R.at_ e (by decide); replace R := R.put e; replace h0 := slot_on e h0 (by decide); replace h3 := slot_on e h3 (by decide); replace h4 := slot_on e h4 (by decide); replace h5 := slot_on e h5 (by decide); replace h35 := slot_on e h35 (by decide); replace h36 := slot_on e h36 (by decide); have h8 := g8; clear g8; clear e
  have Y : (execOp a100.eval o8_6_6).run Try.prog w99 = .ok (.value (.slice s1 ps1.length k1)) w99 := by unfold o8_6_6; go_simp
  refine st_val g8_6_6 rfl (wanted_free rfl) Y fun a102 e => ?_; clear Y
  have g7 := R.at_ e (by decide); replace R := R.put e; replace h0 := slot_on e h0 (by decide); replace h3 := slot_on e h3 (by decide); replace h4 := slot_on e h4 (by decide); replace h5 := slot_on e h5 (by decide); replace h8 := slot_on e h8 (by decide); replace h36 := slot_on e h36 (by decide); clear h35; have h7 := g7; clear g7; clear e
  have Y : (execOp a102.eval o8_6_7).run Try.prog w99 = .ok .skip ((((w99.setCell ⟨b98, 0, none⟩ (.int .i64 ((itV u).2.k))).setCell ⟨b98, 1, none⟩ (.string (str (itV u).2.nm))).setCell ⟨b98, 2, none⟩ (.int .i64 ((itV u).2.i))).setCell ⟨b98, 3, none⟩ (.slice a1 (itV u).2.args.length c1)) := by have qq0 : w99.cell? ⟨b98, 0, none⟩ = some (.int .i64 0) := B98.cell 0; have qq1 : w99.cell? ⟨b98, 1, none⟩ = some (.string (⟨#[]⟩)) := B98.cell 1; have qq2 : w99.cell? ⟨b98, 2, none⟩ = some (.int .i64 0) := B98.cell 2; have qq3 : w99.cell? ⟨b98, 3, none⟩ = some (.slice none 0 0) := B98.cell 3; have z0 := B98.frozen 0; have z1 := B98.frozen 1; have z2 := B98.frozen 2; have z3 := B98.frozen 3; unfold o8_6_7; go_simp
  replace K1 := ((((K1.setCell (p := ⟨b98, 0, none⟩) (Nat.not_lt.2 LK1_b98) (.int .i64 ((itV u).2.k))).setCell (p := ⟨b98, 1, none⟩) (Nat.not_lt.2 LK1_b98) (.string (str (itV u).2.nm))).setCell (p := ⟨b98, 2, none⟩) (Nat.not_lt.2 LK1_b98) (.int .i64 ((itV u).2.i))).setCell (p := ⟨b98, 3, none⟩) (Nat.not_lt.2 LK1_b98) (.slice a1 (itV u).2.args.length c1))
  replace K2 := ((((K2.setCell (p := ⟨b98, 0, none⟩) (Nat.not_lt.2 LK2_b98) (.int .i64 ((itV u).2.k))).setCell (p := ⟨b98, 1, none⟩) (Nat.not_lt.2 LK2_b98) (.string (str (itV u).2.nm))).setCell (p := ⟨b98, 2, none⟩) (Nat.not_lt.2 LK2_b98) (.int .i64 ((itV u).2.i))).setCell (p := ⟨b98, 3, none⟩) (Nat.not_lt.2 LK2_b98) (.slice a1 (itV u).2.args.length c1))
  replace K3 := ((((K3.setCell (p := ⟨b98, 0, none⟩) (Nat.not_lt.2 LK3_b98) (.int .i64 ((itV u).2.k))).setCell (p := ⟨b98, 1, none⟩) (Nat.not_lt.2 LK3_b98) (.string (str (itV u).2.nm))).setCell (p := ⟨b98, 2, none⟩) (Nat.not_lt.2 LK3_b98) (.int .i64 ((itV u).2.i))).setCell (p := ⟨b98, 3, none⟩) (Nat.not_lt.2 LK3_b98) (.slice a1 (itV u).2.args.length c1))
  replace B52 := ((((B52.far (p := ⟨b98, 0, none⟩) Nb52_b98 (.int .i64 ((itV u).2.k))).far (p := ⟨b98, 1, none⟩) Nb52_b98 (.string (str (itV u).2.nm))).far (p := ⟨b98, 2, none⟩) Nb52_b98 (.int .i64 ((itV u).2.i))).far (p := ⟨b98, 3, none⟩) Nb52_b98 (.slice a1 (itV u).2.args.length c1))
  replace B76 := ((((B76.far (p := ⟨b98, 0, none⟩) Nb76_b98 (.int .i64 ((itV u).2.k))).far (p := ⟨b98, 1, none⟩) Nb76_b98 (.string (str (itV u).2.nm))).far (p := ⟨b98, 2, none⟩) Nb76_b98 (.int .i64 ((itV u).2.i))).far (p := ⟨b98, 3, none⟩) Nb76_b98 (.slice a1 (itV u).2.args.length c1))
  replace B98 : Blk ((((w99.setCell ⟨b98, 0, none⟩ (.int .i64 ((itV u).2.k))).setCell ⟨b98, 1, none⟩ (.string (str (itV u).2.nm))).setCell ⟨b98, 2, none⟩ (.int .i64 ((itV u).2.i))).setCell ⟨b98, 3, none⟩ (.slice a1 (itV u).2.args.length c1)) b98 24 #[.int .i64 ((itV u).2.k), .string (str (itV u).2.nm), .int .i64 ((itV u).2.i), .slice a1 (itV u).2.args.length c1] := ((((B98.set_ 0 (.int .i64 ((itV u).2.k))).set_ 1 (.string (str (itV u).2.nm))).set_ 2 (.int .i64 ((itV u).2.i))).set_ 3 (.slice a1 (itV u).2.args.length c1))
  generalize ((((w99.setCell ⟨b98, 0, none⟩ (.int .i64 ((itV u).2.k))).setCell ⟨b98, 1, none⟩ (.string (str (itV u).2.nm))).setCell ⟨b98, 2, none⟩ (.int .i64 ((itV u).2.i))).setCell ⟨b98, 3, none⟩ (.slice a1 (itV u).2.args.length c1)) = w104 at Y K1 K2 K3 B52 B76 B98
  refine st_skip g8_6_7 rfl (wanted_free rfl) Y ?_; clear Y
  refine st_end ?_
  change (c8_22).wp _ _ _ _
  refine wp_seq (x := c8_23) (y := c8_24) ?_
  change (Code.region 7 O8_7 false).wp _ _ _ _
  refine reg_in (l := [0, 1, 2, 3, 4, 5, 6, 7]) rfl ?_
  have Y : (execOp a102.eval o8_7_0).run Try.prog w104 = .ok (.value (.agg #[.int .i64 x.k, .string (str x.nm), .int .i64 x.i, .slice ax x.args.length cx])) w104 := by have qq0 : w104.cell? ⟨b76, 0, none⟩ = some (.int .i64 x.k) := B76.cell 0; have qq1 : w104.cell? ⟨b76, 1, none⟩ = some (.string (str x.nm)) := B76.cell 1; have qq2 : w104.cell? ⟨b76, 2, none⟩ = some (.int .i64 x.i) := B76.cell 2; have qq3 : w104.cell? ⟨b76, 3, none⟩ = some (.slice ax x.args.length cx) := B76.cell 3; unfold o8_7_0; go_simp
  refine st_val g8_7_0 rfl (wanted_free rfl) Y fun a105 e => ?_; clear Y
  have g38 := R.at_ e (by decide); replace R := R.put e; replace h0 := slot_on e h0 (by decide); replace h3 := slot_on e h3 (by decide); replace h4 := slot_on e h4 (by decide); replace h5 := slot_on e h5 (by decide); replace h7 := slot_on e h7 (by decide); replace h8 := slot_on e h8 (by decide); clear h36; have h38 := g38; clear g38; clear e
  have Y : (execOp a105.eval o8_7_1).run Try.prog w104 = .ok (.enter 41 #[.agg #[.int .i64 x.k, .string (str x.nm), .int .i64 x.i, .slice ax x.args.length cx]]) w104 := by unfold o8_7_1; go_simp
  refine st_call g8_7_1 rfl (wanted_free rfl) Y ((items_sx (HX.out.on K2)).mono ?_); clear Y
  rintro e9 w107 ⟨s2, k2, ps2, a2, c2, rfl, hx, kk⟩
  replace K1 := keep_onto K1 kk
  replace K2 := keep_onto K2 kk
  replace K3 := keep_onto K3 kk
  replace B52 := blk_on B52 kk
  replace B76 := blk_on B76 kk
  replace B98 := blk_on B98 kk
  clear kk
  have H2 := Lib.hid hx; have HE2 := Lib.hid hx.2.2.1; clear hx
  have K4 := Keep.refl (fun g => g < w107.heap.size) w107
  have hln : ps2.length = ps.length + ps1.length := by have e1 := congrArg List.length H1.out.2.1; have e2 := congrArg List.length H2.out.2.1; rw [HF.out.1] at e2; simp only [List.length_append, List.length_map] at e1 e2; omega
  have HLE := Lib.hid hln; clear hln
  have HS2 : Hid (ps2.length ≤ 100) := Lib.hid (by have e2 := congrArg List.length H2.out.2.1; rw [List.length_map] at e2; rw [e2]; exact HI.out)
  have HP1 : Hid (∀ (j : Nat) p p2, ps[j]? = some p → ps2[j]? = some p2 → sameV p2.1 p.1 = true) := Lib.hid fun j p p2 hp hp2 => by
        have e2 := congrArg (fun l => l[j]?) H2.out.2.1
        simp only [HF.out.1, List.getElem?_map, hp2, Option.map_some] at e2
        have hj : j < ps.length := (List.getElem?_eq_some_iff.1 hp).1
        rw [List.getElem?_append_left (by simpa using hj), List.getElem?_map, List.getElem?_map, hp] at e2
        simp only [Option.map_some, Option.some.injEq] at e2
        rw [e2]; exact same_tm (HF.out.2.2.1 _ (List.mem_map_of_mem (List.mem_of_getElem? hp)))
  have HP2 : Hid (∀ (k : Nat) p p2, ps1[k]? = some p → ps2[ps.length + k]? = some p2 → sameV p2.1 p.1 = true) := Lib.hid fun k p p2 hp hp2 => by
        have e2 := congrArg (fun l => l[ps.length + k]?) H2.out.2.1
        have e1 := congrArg (fun l => l[k]?) H1.out.2.1
        simp only [HF.out.1, List.getElem?_map, hp2, Option.map_some] at e2
        simp only [List.getElem?_map, hp, Option.map_some] at e1
        rw [List.getElem?_append_right (by simp), List.length_map, List.length_map, Nat.add_sub_cancel_left, ← e1] at e2
        simp only [Option.some.injEq] at e2
        rw [e2]; exact same_self (HF.out.2.2.2.1.1 _ (List.mem_of_getElem? e1.symm))
  refine ⟨_, rfl, fun a108 e => ?_⟩
  have g39 := R.at_ e (by decide); replace R := R.put e; replace h0 := slot_on e h0 (by decide); replace h3 := slot_on e h3 (by decide); replace h4 := slot_on e h4 (by decide); replace h5 := slot_on e h5 (by decide); replace h7 := slot_on e h7 (by decide); replace h8 := slot_on e h8 (by decide); clear h38; have h39 := g39; clear g39; clear e
  have Y : (execOp a108.eval o8_7_2).run Try.prog w107 = .ok (.value (.tuple #[.slice s2 ps2.length k2, .agg #[.int .i64 ((itV x).2.k), .string (str (itV x).2.nm), .int .i64 ((itV x).2.i), .slice a2 (itV x).2.args.length c2]])) w107 := by unfold o8_7_2; go_simp
  refine st_val g8_7_2 rfl (wanted_free rfl) Y fun a110 e => ?_; clear Y
  have g37 := R.at_ e (by decide); replace R := R.put e; replace h0 := slot_on e h0 (by decide); replace h3 := slot_on e h3 (by decide); replace h4 := slot_on e h4 (by decide); replace h5 := slot_on e h5 (by decide); replace h7 := slot_on e h7 (by decide); replace h8 := slot_on e h8 (by decide); clear h39; have h37 := g37; clear g37; clear e
  have Y : (execOp a110.eval o8_7_3).run Try.prog w107 = .ok (.value (.slice s2 ps2.length k2)) w107 := by unfold o8_7_3; go_simp
  refine st_val g8_7_3 rfl (wanted_free rfl) Y fun a112 e => ?_; clear Y
  have g40 := R.at_ e (by decide); replace R := R.put e; replace h0 := slot_on e h0 (by decide); replace h3 := slot_on e h3 (by decide); replace h4 := slot_on e h4 (by decide); replace h5 := slot_on e h5 (by decide); replace h7 := slot_on e h7 (by decide); replace h8 := slot_on e h8 (by decide); replace h37 := slot_on e h37 (by decide); have h40 := g40; clear g40; clear e
  have Y : (execOp a112.eval o8_7_4).run Try.prog w107 = .ok (.value (.agg #[.int .i64 ((itV x).2.k), .string (str (itV x).2.nm), .int .i64 ((itV x).2.i), .slice a2 (itV x).2.args.length c2])) w107 := by unfold o8_7_4; go_simp
  refine st_val g8_7_4 rfl (wanted_free rfl) Y fun a114 e => ?_; clear Y
  have g41 := R.at_ e (by decide); replace R := R.put e; replace h0 := slot_on e h0 (by decide); replace h3 := slot_on e h3 (by decide); replace h4 := slot_on e h4 (by decide); replace h5 := slot_on e h5 (by decide); replace h7 := slot_on e h7 (by decide); replace h8 := slot_on e h8 (by decide); replace h40 := slot_on e h40 (by decide); clear h37; have h41 := g41; clear g41; clear e
  have MK1 := K1
  have MK2 := K2
  have MK3 := K3
  have MK4 := K4
  have Y : (execOp a114.eval o8_7_5).run Try.prog w107 = .ok (.value (.pointer (some ⟨w107.heap.size, 0, none⟩))) (w107.alloc (.cells #[.int .i64 0, .string (⟨#[]⟩), .int .i64 0, .slice none 0 0] 24)) := by unfold o8_7_5; go_simp
  have B116 := Blk.new w107 24 #[.int .i64 0, .string (⟨#[]⟩), .int .i64 0, .slice none 0 0]
  replace K1 := K1.alloc (.cells #[.int .i64 0, .string (⟨#[]⟩), .int .i64 0, .slice none 0 0] 24)
  replace K2 := K2.alloc (.cells #[.int .i64 0, .string (⟨#[]⟩), .int .i64 0, .slice none 0 0] 24)
  replace K3 := K3.alloc (.cells #[.int .i64 0, .string (⟨#[]⟩), .int .i64 0, .slice none 0 0] 24)
  replace K4 := K4.alloc (.cells #[.int .i64 0, .string (⟨#[]⟩), .int .i64 0, .slice none 0 0] 24)
  have Nb52_b116 := Nat.ne_of_lt B52.lt; replace B52 := B52.alloc (.cells #[.int .i64 0, .string (⟨#[]⟩), .int .i64 0, .slice none 0 0] 24)
  have Nb76_b116 := Nat.ne_of_lt B76.lt; replace B76 := B76.alloc (.cells #[.int .i64 0, .string (⟨#[]⟩), .int .i64 0, .slice none 0 0] 24)
  have Nb98_b116 := Nat.ne_of_lt B98.lt; replace B98 := B98.alloc (.cells #[.int .i64 0, .string (⟨#[]⟩), .int .i64 0, .slice none 0 0] 24)
  obtain ⟨w117, hw117⟩ : ∃ x, x = w107.alloc (.cells #[.int .i64 0, .string (⟨#[]⟩), .int .i64 0, .slice none 0 0] 24) := ⟨_, rfl⟩
  rw [← hw117] at Y B116 K1 K2 K3 K4 B52 B76 B98
  obtain ⟨b116, hb116⟩ : ∃ x, x = w107.heap.size := ⟨_, rfl⟩
  rw [← hb116] at Y B116 Nb52_b116 Nb76_b116 Nb98_b116
  have LK1_b116 : W.heap.size ≤ b116 := by rw [hb116]; first | exact Nat.le_refl _ | exact MK1.size
  have LK2_b116 : w67.heap.size ≤ b116 := by rw [hb116]; first | exact Nat.le_refl _ | exact MK2.size
  have LK3_b116 : w89.heap.size ≤ b116 := by rw [hb116]; first | exact Nat.le_refl _ | exact MK3.size
  have LK4_b116 : w107.heap.size ≤ b116 := by rw [hb116]; first | exact Nat.le_refl _ | exact MK4.size
  clear hw117 hb116 MK1 MK2 MK3 MK4
  refine st_val g8_7_5 rfl (wanted_free rfl) Y fun a118 e => ?_; clear Y
  have g10 := R.at_ e (by decide); replace R := R.put e; replace h0 := slot_on e h0 (by decide); replace h3 := slot_on e h3 (by decide); replace h4 := slot_on e h4 (by decide); replace h5 := slot_on e h5 (by decide); replace h7 := slot_on e h7 (by decide); replace h8 := slot_on e h8 (by decide); replace h40 := slot_on e h40 (by decide); replace h41 := slot_on e h41 (by decide); have h10 := g10; clear g10; clear e
  have Y : (execOp a118.eval o8_7_6).run Try.prog w117 = .ok (.value (.slice s2 ps2.length k2)) w117 := by unfold o8_7_6; go_simp
  refine st_val g8_7_6 rfl (wanted_free rfl) Y fun a120 e => ?_; clear Y
  have g9 := R.at_ e (by decide); replace R := R.put e; replace h0 := slot_on e h0 (by decide); replace h3 := slot_on e h3 (by decide); replace h4 := slot_on e h4 (by decide); replace h5 := slot_on e h5 (by decide); replace h7 := slot_on e h7 (by decide); replace h8 := slot_on e h8 (by decide); replace h10 := slot_on e h10 (by decide); replace h41 := slot_on e h41 (by decide); clear h40; have h9 := g9; clear g9; clear e
  have Y : (execOp a120.eval o8_7_7).run Try.prog w117 = .ok .skip ((((w117.setCell ⟨b116, 0, none⟩ (.int .i64 ((itV x).2.k))).setCell ⟨b116, 1, none⟩ (.string (str (itV x).2.nm))).setCell ⟨b116, 2, none⟩ (.int .i64 ((itV x).2.i))).setCell ⟨b116, 3, none⟩ (.slice a2 (itV x).2.args.length c2)) := by have qq0 : w117.cell? ⟨b116, 0, none⟩ = some (.int .i64 0) := B116.cell 0; have qq1 : w117.cell? ⟨b116, 1, none⟩ = some (.string (⟨#[]⟩)) := B116.cell 1; have qq2 : w117.cell? ⟨b116, 2, none⟩ = some (.int .i64 0) := B116.cell 2; have qq3 : w117.cell? ⟨b116, 3, none⟩ = some (.slice none 0 0) := B116.cell 3; have z0 := B116.frozen 0; have z1 := B116.frozen 1; have z2 := B116.frozen 2; have z3 := B116.frozen 3; unfold o8_7_7; go_simp
  replace K1 := ((((K1.setCell (p := ⟨b116, 0, none⟩) (Nat.not_lt.2 LK1_b116) (.int .i64 ((itV x).2.k))).setCell (p := ⟨b116, 1, none⟩) (Nat.not_lt.2 LK1_b116) (.string (str (itV x).2.nm))).setCell (p := ⟨b116, 2, none⟩) (Nat.not_lt.2 LK1_b116) (.int .i64 ((itV x).2.i))).setCell (p := ⟨b116, 3, none⟩) (Nat.not_lt.2 LK1_b116) (.slice a2 (itV x).2.args.length c2))
  replace K2 := ((((K2.setCell (p := ⟨b116, 0, none⟩) (Nat.not_lt.2 LK2_b116) (.int .i64 ((itV x).2.k))).setCell (p := ⟨b116, 1, none⟩) (Nat.not_lt.2 LK2_b116) (.string (str (itV x).2.nm))).setCell (p := ⟨b116, 2, none⟩) (Nat.not_lt.2 LK2_b116) (.int .i64 ((itV x).2.i))).setCell (p := ⟨b116, 3, none⟩) (Nat.not_lt.2 LK2_b116) (.slice a2 (itV x).2.args.length c2))
  replace K3 := ((((K3.setCell (p := ⟨b116, 0, none⟩) (Nat.not_lt.2 LK3_b116) (.int .i64 ((itV x).2.k))).setCell (p := ⟨b116, 1, none⟩) (Nat.not_lt.2 LK3_b116) (.string (str (itV x).2.nm))).setCell (p := ⟨b116, 2, none⟩) (Nat.not_lt.2 LK3_b116) (.int .i64 ((itV x).2.i))).setCell (p := ⟨b116, 3, none⟩) (Nat.not_lt.2 LK3_b116) (.slice a2 (itV x).2.args.length c2))
  replace K4 := ((((K4.setCell (p := ⟨b116, 0, none⟩) (Nat.not_lt.2 LK4_b116) (.int .i64 ((itV x).2.k))).setCell (p := ⟨b116, 1, none⟩) (Nat.not_lt.2 LK4_b116) (.string (str (itV x).2.nm))).setCell (p := ⟨b116, 2, none⟩) (Nat.not_lt.2 LK4_b116) (.int .i64 ((itV x).2.i))).setCell (p := ⟨b116, 3, none⟩) (Nat.not_lt.2 LK4_b116) (.slice a2 (itV x).2.args.length c2))
  replace B52 := ((((B52.far (p := ⟨b116, 0, none⟩) Nb52_b116 (.int .i64 ((itV x).2.k))).far (p := ⟨b116, 1, none⟩) Nb52_b116 (.string (str (itV x).2.nm))).far (p := ⟨b116, 2, none⟩) Nb52_b116 (.int .i64 ((itV x).2.i))).far (p := ⟨b116, 3, none⟩) Nb52_b116 (.slice a2 (itV x).2.args.length c2))
  replace B76 := ((((B76.far (p := ⟨b116, 0, none⟩) Nb76_b116 (.int .i64 ((itV x).2.k))).far (p := ⟨b116, 1, none⟩) Nb76_b116 (.string (str (itV x).2.nm))).far (p := ⟨b116, 2, none⟩) Nb76_b116 (.int .i64 ((itV x).2.i))).far (p := ⟨b116, 3, none⟩) Nb76_b116 (.slice a2 (itV x).2.args.length c2))
  replace B98 := ((((B98.far (p := ⟨b116, 0, none⟩) Nb98_b116 (.int .i64 ((itV x).2.k))).far (p := ⟨b116, 1, none⟩) Nb98_b116 (.string (str (itV x).2.nm))).far (p := ⟨b116, 2, none⟩) Nb98_b116 (.int .i64 ((itV x).2.i))).far (p := ⟨b116, 3, none⟩) Nb98_b116 (.slice a2 (itV x).2.args.length c2))
  replace B116 : Blk ((((w117.setCell ⟨b116, 0, none⟩ (.int .i64 ((itV x).2.k))).setCell ⟨b116, 1, none⟩ (.string (str (itV x).2.nm))).setCell ⟨b116, 2, none⟩ (.int .i64 ((itV x).2.i))).setCell ⟨b116, 3, none⟩ (.slice a2 (itV x).2.args.length c2)) b116 24 #[.int .i64 ((itV x).2.k), .string (str (itV x).2.nm), .int .i64 ((itV x).2.i), .slice a2 (itV x).2.args.length c2] := ((((B116.set_ 0 (.int .i64 ((itV x).2.k))).set_ 1 (.string (str (itV x).2.nm))).set_ 2 (.int .i64 ((itV x).2.i))).set_ 3 (.slice a2 (itV x).2.args.length c2))
  generalize ((((w117.setCell ⟨b116, 0, none⟩ (.int .i64 ((itV x).2.k))).setCell ⟨b116, 1, none⟩ (.string (str (itV x).2.nm))).setCell ⟨b116, 2, none⟩ (.int .i64 ((itV x).2.i))).setCell ⟨b116, 3, none⟩ (.slice a2 (itV x).2.args.length c2)) = w122 at Y K1 K2 K3 K4 B52 B76 B98 B116
  refine st_skip g8_7_7 rfl (wanted_free rfl) Y ?_; clear Y
  refine st_end ?_
  change (c8_24).wp _ _ _ _
  refine wp_seq (x := c8_25) (y := c8_32) ?_
  refine wp_seq (x := c8_26) (y := c8_27) ?_
  change (Code.region 8 O8_8 false).wp _ _ _ _
  refine reg_in (l := [0, 1, 2, 3, 4, 5, 6, 7, 8, 9, 10, 11, 12, 13]) rfl ?_
  have Y : (execOp a120.eval o8_8_0).run Try.prog w122 = .ok (.value (.slice s2 ps2.length k2)) w122 := by unfold o8_8_0; go_simp
  refine st_val g8_8_0 rfl (wanted_free rfl) Y fun a123 e => ?_; clear Y
  have g42 := R.at_ e (by decide); replace R := R.put e; replace h0 := slot_on e h0 (by decide); replace h3 := slot_on e h3 (by decide); replace h4 := slot_on e h4 (by decide); replace h5 := slot_on e h5 (by decide); replace h7 := slot_on e h7 (by decide); replace h8 := slot_on e h8 (by decide); replace h9 := slot_on e h9 (by decide); replace h10 := slot_on e h10 (by decide); clear h41; have h42 := g42; clear g42; clear e
  have Y : (execOp a123.eval o8_8_1).run Try.prog w122 = .ok (.value (.int .i64 ps2.length)) w122 := by unfold o8_8_1; go_simp
  refine st_val g8_8_1 rfl (wanted_free rfl) Y fun a125 e => ?_; clear Y
  have g43 := R.at_ e (by decide); replace R := R.put e; replace h0 := slot_on e h0 (by decide); replace h3 := slot_on e h3 (by decide); replace h4 := slot_on e h4 (by decide); replace h5 := slot_on e h5 (by decide); replace h7 := slot_on e h7 (by decide); replace h8 := slot_on e h8 (by decide); replace h9 := slot_on e h9 (by decide); replace h10 := slot_on e h10 (by decide); clear h42; have h43 := g43; clear g43; clear e
  have Y : (execOp a125.eval o8_8_2).run Try.prog w122 = .ok (.value (.slice sa ps.length sc)) w122 := by unfold o8_8_2; go_simp
  refine st_val g8_8_2 rfl (wanted_free rfl) Y fun a127 e => ?_; clear Y
  have g44 := R.at_ e (by decide); replace R := R.put e; replace h0 := slot_on e h0 (by decide); replace h3 := slot_on e h3 (by decide); replace h4 := slot_on e h4 (by decide); replace h5 := slot_on e h5 (by decide); replace h7 := slot_on e h7 (by decide); replace h8 := slot_on e h8 (by decide); replace h9 := slot_on e h9 (by decide); replace h10 := slot_on e h10 (by decide); replace h43 := slot_on e h43 (by decide); have h44 := g44; clear g44; clear e
  have Y : (execOp a127.eval o8_8_3).run Try.prog w122 = .ok (.value (.int .i64 ps.length)) w122 := by unfold o8_8_3; go_simp
  refine st_val g8_8_3 rfl (wanted_free rfl) Y fun a129 e => ?_; clear Y
  have g45 := R.at_ e (by decide); replace R := R.put e; replace h0 := slot_on e h0 (by decide); replace h3 := slot_on e h3 (by decide); replace h4 := slot_on e h4 (by decide); replace h5 := slot_on e h5 (by decide); replace h7 := slot_on e h7 (by decide); replace h8 := slot_on e h8 (by decide); replace h9 := slot_on e h9 (by decide); replace h10 := slot_on e h10 (by decide); replace h43 := slot_on e h43 (by decide); clear h44; have h45 := g45; clear g45; clear e
  have Y : (execOp a129.eval o8_8_4).run Try.prog w122 = .ok (.value (.slice s1 ps1.length k1)) w122 := by unfold o8_8_4; go_simp
  refine st_val g8_8_4 rfl (wanted_free rfl) Y fun a131 e => ?_; clear Y
  have g46 := R.at_ e (by decide); replace R := R.put e; replace h0 := slot_on e h0 (by decide); replace h3 := slot_on e h3 (by decide); replace h4 := slot_on e h4 (by decide); replace h5 := slot_on e h5 (by decide); replace h7 := slot_on e h7 (by decide); replace h8 := slot_on e h8 (by decide); replace h9 := slot_on e h9 (by decide); replace h10 := slot_on e h10 (by decide); replace h43 := slot_on e h43 (by decide); replace h45 := slot_on e h45 (by decide); have h46 := g46; clear g46; clear e
  have Y : (execOp a131.eval o8_8_5).run Try.prog w122 = .ok (.value (.int .i64 ps1.length)) w122 := by unfold o8_8_5; go_simp
  refine st_val g8_8_5 rfl (wanted_free rfl) Y fun a133 e => ?_; clear Y
  have g47 := R.at_ e (by decide); replace R := R.put e; replace h0 := slot_on e h0 (by decide); replace h3 := slot_on e h3 (by decide); replace h4 := slot_on e h4 (by decide); replace h5 := slot_on e h5 (by decide); replace h7 := slot_on e h7 (by decide); replace h8 := slot_on e h8 (by decide); replace h9 := slot_on e h9 (by decide); replace h10 := slot_on e h10 (by decide); replace h43 := slot_on e h43 (by decide); replace h45 := slot_on e h45 (by decide); clear h46; have h47 := g47; clear g47; clear e
  have Y : (execOp a133.eval o8_8_6).run Try.prog w122 = .ok (.value (.int .i64 (ps2.length : Int))) w122 := by have h9 := HLE.out; have h8 := HLN.out; have h7 := HS2.out; have hw : IntKind.i64.wrap ((ps.length : Int) + (ps1.length : Int)) = (ps2.length : Int) := (by rw [IntKind.wrap_i64]; omega); unfold o8_8_6; go_simp
  refine st_val g8_8_6 rfl (wanted_free rfl) Y fun a135 e => ?_; clear Y
  have g48 := R.at_ e (by decide); replace R := R.put e; replace h0 := slot_on e h0 (by decide); replace h3 := slot_on e h3 (by decide); replace h4 := slot_on e h4 (by decide); replace h5 := slot_on e h5 (by decide); replace h7 := slot_on e h7 (by decide); replace h8 := slot_on e h8 (by decide); replace h9 := slot_on e h9 (by decide); replace h10 := slot_on e h10 (by decide); replace h43 := slot_on e h43 (by decide); clear h45 h47; have h48 := g48; clear g48; clear e
  have Y : (execOp a135.eval o8_8_7).run Try.prog w122 = .ok (.value (.bool false)) w122 := by unfold o8_8_7; go_simp
  refine st_val g8_8_7 rfl (wanted_free rfl) Y fun a137 e => ?_; clear Y
  have g49 := R.at_ e (by decide); replace R := R.put e; replace h0 := slot_on e h0 (by decide); replace h3 := slot_on e h3 (by decide); replace h4 := slot_on e h4 (by decide); replace h5 := slot_on e h5 (by decide); replace h7 := slot_on e h7 (by decide); replace h8 := slot_on e h8 (by decide); replace h9 := slot_on e h9 (by decide); replace h10 := slot_on e h10 (by decide); clear h43 h48; have h49 := g49; clear g49; clear e
  have Y : (execOp a137.eval o8_8_8).run Try.prog w122 = .ok (.value (.bool false)) w122 := by unfold o8_8_8; go_simp
  refine st_val g8_8_8 rfl (wanted_free rfl) Y fun a139 e => ?_; clear Y
  have g50 := R.at_ e (by decide); replace R := R.put e; replace h0 := slot_on e h0 (by decide); replace h3 := slot_on e h3 (by decide); replace h4 := slot_on e h4 (by decide); replace h5 := slot_on e h5 (by decide); replace h7 := slot_on e h7 (by decide); replace h8 := slot_on e h8 (by decide); replace h9 := slot_on e h9 (by decide); replace h10 := slot_on e h10 (by decide); clear h49; have h50 := g50; clear g50; clear e
  have Y : (execOp a139.eval o8_8_9).run Try.prog w122 = .ok (.value (.agg #[.int .i64 ((itV x).2.k), .string (str (itV x).2.nm), .int .i64 ((itV x).2.i), .slice a2 (itV x).2.args.length c2])) w122 := by have qq0 : w122.cell? ⟨b116, 0, none⟩ = some (.int .i64 ((itV x).2.k)) := B116.cell 0; have qq1 : w122.cell? ⟨b116, 1, none⟩ = some (.string (str (itV x).2.nm)) := B116.cell 1; have qq2 : w122.cell? ⟨b116, 2, none⟩ = some (.int .i64 ((itV x).2.i)) := B116.cell 2; have qq3 : w122.cell? ⟨b116, 3, none⟩ = some (.slice a2 (itV x).2.args.length c2) := B116.cell 3; unfold o8_8_9; go_simp
  refine st_val g8_8_9 rfl (wanted_is (j := 8) (d := 50) rfl rfl h50 rfl) Y fun a141 e => ?_; clear Y
  have g51 := R.at_ e (by decide); replace R := R.put e; replace h0 := slot_on e h0 (by decide); replace h3 := slot_on e h3 (by decide); replace h4 := slot_on e h4 (by decide); replace h5 := slot_on e h5 (by decide); replace h7 := slot_on e h7 (by decide); replace h8 := slot_on e h8 (by decide); replace h9 := slot_on e h9 (by decide); replace h50 := slot_on e h50 (by decide); clear h10; have h51 := g51; clear g51; clear e
  have Y : (execOp a141.eval o8_8_10).run Try.prog w122 = .ok (.value (.agg #[.int .i64 ((itV u).2.k), .string (str (itV u).2.nm), .int .i64 ((itV u).2.i), .slice a1 (itV u).2.args.length c1])) w122 := by have qq0 : w122.cell? ⟨b98, 0, none⟩ = some (.int .i64 ((itV u).2.k)) := B98.cell 0; have qq1 : w122.cell? ⟨b98, 1, none⟩ = some (.string (str (itV u).2.nm)) := B98.cell 1; have qq2 : w122.cell? ⟨b98, 2, none⟩ = some (.int .i64 ((itV u).2.i)) := B98.cell 2; have qq3 : w122.cell? ⟨b98, 3, none⟩ = some (.slice a1 (itV u).2.args.length c1) := B98.cell 3; unfold o8_8_10; go_simp
  refine st_val g8_8_10 rfl (wanted_is (j := 8) (d := 50) rfl rfl h50 rfl) Y fun a143 e => ?_; clear Y
  have g52 := R.at_ e (by decide); replace R := R.put e; replace h0 := slot_on e h0 (by decide); replace h3 := slot_on e h3 (by decide); replace h4 := slot_on e h4 (by decide); replace h5 := slot_on e h5 (by decide); replace h7 := slot_on e h7 (by decide); replace h9 := slot_on e h9 (by decide); replace h50 := slot_on e h50 (by decide); replace h51 := slot_on e h51 (by decide); clear h8; have h52 := g52; clear g52; clear e
  have Y : (execOp a143.eval o8_8_11).run Try.prog w122 = .ok (.enter 19 #[.agg #[.int .i64 ((itV x).2.k), .string (str (itV x).2.nm), .int .i64 ((itV x).2.i), .slice a2 (itV x).2.args.length c2], .agg #[.int .i64 ((itV u).2.k), .string (str (itV u).2.nm), .int .i64 ((itV u).2.i), .slice a1 (itV u).2.args.length c1]]) w122 := by unfold o8_8_11; go_simp
  refine st_call g8_8_11 rfl (wanted_is (j := 8) (d := 50) rfl rfl h50 rfl) Y ((same_sx (z := true) (HE2.out.on K4) (HE1.out.on K3) (by rw [HF.out.2.1]; exact same_self HF.out.2.2.2.1.2)).mono ?_); clear Y
  rintro e9 w145 ⟨rfl, kk⟩
  replace K1 := keep_onto K1 kk
  replace K2 := keep_onto K2 kk
  replace K3 := keep_onto K3 kk
  replace K4 := keep_onto K4 kk
  replace B52 := blk_on B52 kk
  replace B76 := blk_on B76 kk
  replace B98 := blk_on B98 kk
  replace B116 := blk_on B116 kk
  clear kk
  refine ⟨_, rfl, fun a146 e => ?_⟩
  have g53 := R.at_ e (by decide); replace R := R.put e; replace h0 := slot_on e h0 (by decide); replace h3 := slot_on e h3 (by decide); replace h4 := slot_on e h4 (by decide); replace h5 := slot_on e h5 (by decide); replace h7 := slot_on e h7 (by decide); replace h9 := slot_on e h9 (by decide); replace h50 := slot_on e h50 (by decide); clear h51 h52; have h53 := g53; clear g53; clear e
  have Y : (execOp a146.eval o8_8_12).run Try.prog w145 = .ok (.value (.bool false)) w145 := by unfold o8_8_12; go_simp
  refine st_val g8_8_12 rfl (wanted_is (j := 8) (d := 50) rfl rfl h50 rfl) Y fun a148 e => ?_; clear Y
  have g54 := R.at_ e (by decide); replace R := R.put e; replace h0 := slot_on e h0 (by decide); replace h3 := slot_on e h3 (by decide); replace h4 := slot_on e h4 (by decide); replace h5 := slot_on e h5 (by decide); replace h7 := slot_on e h7 (by decide); replace h9 := slot_on e h9 (by decide); replace h50 := slot_on e h50 (by decide); clear h53; have h54 := g54; clear g54; clear e
  have Y : (execOp a148.eval o8_8_13).run Try.prog w145 = .ok (.value (.bool false)) w145 := by unfold o8_8_13; go_simp
  refine st_val g8_8_13 rfl (wanted_free rfl) Y fun a150 e => ?_; clear Y
  have g55 := R.at_ e (by decide); replace R := R.put e; replace h0 := slot_on e h0 (by decide); replace h3 := slot_on e h3 (by decide); replace h4 := slot_on e h4 (by decide); replace h5 := slot_on e h5 (by decide); replace h7 := slot_on e h7 (by decide); replace h9 := slot_on e h9 (by decide); clear h50 h54; have h55 := g55; clear g55; clear e
  refine st_end ?_
  change (c8_27).wp _ _ _ _
  refine wp_cond_false (x := c8_28) (y := Code.skip) (eval_slot h55) ?_
  refine wp_skip ?_
  change (c8_32).wp _ _ _ _
  refine wp_seq (x := c8_33) (y := c8_63) ?_
  refine wp_seq (x := c8_34) (y := c8_35) ?_
  change (Code.region 10 O8_10 false).wp _ _ _ _
  refine reg_in (l := [0, 1, 2]) rfl ?_
  have Y : (execOp a150.eval o8_10_0).run Try.prog w145 = .ok (.value (.slice s2 ps2.length k2)) w145 := by unfold o8_10_0; go_simp
  refine st_val g8_10_0 rfl (wanted_free rfl) Y fun a152 e => ?_; clear Y
  have g56 := R.at_ e (by decide); replace R := R.put e; replace h0 := slot_on e h0 (by decide); replace h3 := slot_on e h3 (by decide); replace h4 := slot_on e h4 (by decide); replace h5 := slot_on e h5 (by decide); replace h7 := slot_on e h7 (by decide); replace h9 := slot_on e h9 (by decide); clear h55; have h56 := g56; clear g56; clear e
  have Y : (execOp a152.eval o8_10_1).run Try.prog w145 = .ok (.value (.int .i64 ps2.length)) w145 := by unfold o8_10_1; go_simp
  refine st_val g8_10_1 rfl (wanted_free rfl) Y fun a154 e => ?_; clear Y
  have g57 := R.at_ e (by decide); replace R := R.put e; replace h0 := slot_on e h0 (by decide); replace h3 := slot_on e h3 (by decide); replace h4 := slot_on e h4 (by decide); replace h5 := slot_on e h5 (by decide); replace h7 := slot_on e h7 (by decide); replace h9 := slot_on e h9 (by decide); clear h56; have h57 := g57; clear g57; clear e
  have Y : (execOp a154.eval o8_10_2).run Try.prog w145 = .ok (.value (.int .i64 0)) w145 := by unfold o8_10_2; go_simp
  refine st_val g8_10_2 rfl (wanted_free rfl) Y fun a156 e => ?_; clear Y
  have g58 := R.at_ e (by decide); replace R := R.put e; replace h0 := slot_on e h0 (by decide); replace h3 := slot_on e h3 (by decide); replace h4 := slot_on e h4 (by decide); replace h5 := slot_on e h5 (by decide); replace h7 := slot_on e h7 (by decide); replace h9 := slot_on e h9 (by decide); replace h57 := slot_on e h57 (by decide); have h58 := g58; clear g58; clear e
  refine st_end ?_
  change (c8_35).wp _ _ _ _
  refine wp_block (id := 0) (c := c8_36) ?_
  refine wp_loop_ghost (c := c8_37) (fun n f9 w9 => ∃ j : Nat, n = ps2.length - j ∧ FrS 102 f9 ∧ f9.tmps[0]? = some (.slice sa ps.length sc) ∧ f9.tmps[3]? = some (.pointer (some ⟨b52, 0, none⟩)) ∧ f9.tmps[4]? = some (.bool false) ∧ f9.tmps[5]? = some (.pointer (some ⟨b76, 0, none⟩)) ∧ f9.tmps[7]? = some (.slice s1 ps1.length k1) ∧ f9.tmps[9]? = some (.slice s2 ps2.length k2) ∧ f9.tmps[57]? = some (.int .i64 ps2.length) ∧ f9.tmps[58]? = some (.int .i64 (j : Int)) ∧ Keep (fun g => g < W.heap.size) W w9 ∧ Keep (fun g => g < w67.heap.size) w67 w9 ∧ Keep (fun g => g < w89.heap.size) w89 w9 ∧ Keep (fun g => g < w107.heap.size) w107 w9 ∧ Blk w9 b52 24 #[.int .i64 u.k, .string (str u.nm), .int .i64 u.i, .slice ua u.args.length uc] ∧ Blk w9 b76 24 #[.int .i64 x.k, .string (str x.nm), .int .i64 x.i, .slice ax x.args.length cx] ∧ Blk w9 b98 24 #[.int .i64 ((itV u).2.k), .string (str (itV u).2.nm), .int .i64 ((itV u).2.i), .slice a1 (itV u).2.args.length c1] ∧ Blk w9 b116 24 #[.int .i64 ((itV x).2.k), .string (str (itV x).2.nm), .int .i64 ((itV x).2.i), .slice a2 (itV x).2.args.length c2] ∧ j ≤ ps2.length) (ps2.length - 0) ⟨0, rfl, R, h0, h3, h4, h5, h7, h9, h57, h58, K1, K2, K3, K4, B52, B76, B98, B116, Nat.zero_le _⟩ ?_
  clear R h0 h3 h4 h5 h7 h9 h57 h58 K1 K2 K3 K4 B52 B76 B98 B116
  rintro n160 a158 w159 ⟨j, rfl, R, h0, h3, h4, h5, h7, h9, h57, h58, K1, K2, K3, K4, B52, B76, B98, B116, hj⟩
  have hj2 : j ≤ 100 := Nat.le_trans hj HS2.out
  have hwj : IntKind.i64.wrap ((j : Int) + 1) = (j : Int) + 1 := by rw [IntKind.wrap_i64]; omega
  refine wp_seq (x := c8_38) (y := c8_39) ?_
  change (Code.region 11 O8_11 false).wp _ _ _ _
  refine reg_in (l := [0]) rfl ?_
  obtain ⟨b161, hb161⟩ : ∃ x, (decide ((j : Int) < (ps2.length : Int))) = x := ⟨_, rfl⟩
  have Y : (execOp a158.eval o8_11_0).run Try.prog w159 = .ok (.value (.bool b161)) w159 := by rw [← hb161]; unfold o8_11_0; go_simp
  refine st_val g8_11_0 rfl (wanted_free rfl) Y fun a162 e => ?_; clear Y
  have g59 := R.at_ e (by decide); replace R := R.put e; replace h0 := slot_on e h0 (by decide); replace h3 := slot_on e h3 (by decide); replace h4 := slot_on e h4 (by decide); replace h5 := slot_on e h5 (by decide); replace h7 := slot_on e h7 (by decide); replace h9 := slot_on e h9 (by decide); replace h57 := slot_on e h57 (by decide); replace h58 := slot_on e h58 (by decide); have h59 := g59; clear g59; clear e
  refine st_end ?_
  change (c8_39).wp _ _ _ _
  refine wp_seq (x := c8_40) (y := c8_43) ?_
  cases b161 with
  | false =>
    have fb161 := hb161; clear hb161
    simp only [decide_eq_true_eq, decide_eq_false_iff_not, Bool.not_eq_true', Bool.not_eq_false', Bool.not_eq_eq_eq_not, Bool.not_true, Bool.not_false] at fb161
    refine wp_cond_false (x := Code.skip) (y := c8_42) (eval_slot h59) ?_
    refine wp_exit ?_
    change (c8_63).wp _ _ _ _
    refine wp_seq (x := c8_64) (y := c8_65) ?_
    change (Code.region 20 O8_20 false).wp _ _ _ _
    refine reg_in (l := [0, 1, 2, 3, 4, 5, 6, 7]) rfl ?_
    have Y : (execOp a162.eval o8_20_0).run Try.prog w159 = .ok (.value (.agg #[.int .i64 u.k, .string (str u.nm), .int .i64 u.i, .slice ua u.args.length uc])) w159 := by have qq0 : w159.cell? ⟨b52, 0, none⟩ = some (.int .i64 u.k) := B52.cell 0; have qq1 : w159.cell? ⟨b52, 1, none⟩ = some (.string (str u.nm)) := B52.cell 1; have qq2 : w159.cell? ⟨b52, 2, none⟩ = some (.int .i64 u.i) := B52.cell 2; have qq3 : w159.cell? ⟨b52, 3, none⟩ = some (.slice ua u.args.length uc) := B52.cell 3; unfold o8_20_0; go_simp
    refine st_val g8_20_0 rfl (wanted_free rfl) Y fun a164 e => ?_; clear Y
    have g86 := R.at_ e (by decide); replace R := R.put e; replace h0 := slot_on e h0 (by decide); replace h3 := slot_on e h3 (by decide); replace h4 := slot_on e h4 (by decide); replace h5 := slot_on e h5 (by decide); replace h7 := slot_on e h7 (by decide); replace h9 := slot_on e h9 (by decide); replace h57 := slot_on e h57 (by decide); replace h58 := slot_on e h58 (by decide); replace h59 := slot_on e h59 (by decide); have h86 := g86; clear g86; clear e
    have Y : (execOp a164.eval o8_20_1).run Try.prog w159 = .ok (.enter 39 #[Value.slice none 0 0, .agg #[.int .i64 u.k, .string (str u.nm), .int .i64 u.i, .slice ua u.args.length uc]]) w159 := by unfold o8_20_1; go_simp
    refine st_call g8_20_1 rfl (wanted_free rfl) Y ((list_sx (a := none) (ps := []) (cap := 0) (fun j p h => by simp at h) (HT.out.on K1) (by decide) (fun g off h => by cases h) HF.out.2.2.2.2).mono ?_); clear Y
    rintro e9 w166 ⟨an, cn, rfl, hx, kk⟩
    replace K1 := keep_onto K1 kk
    replace K2 := keep_onto K2 kk
    replace K3 := keep_onto K3 kk
    replace K4 := keep_onto K4 kk
    replace B52 := blk_on B52 kk
    replace B76 := blk_on B76 kk
    replace B98 := blk_on B98 kk
    replace B116 := blk_on B116 kk
    clear kk
    have HN := Lib.hid hx; clear hx
    have K5 := Keep.refl (fun g => g < w166.heap.size) w166
    refine ⟨_, rfl, fun a167 e => ?_⟩
    have g87 := R.at_ e (by decide); replace R := R.put e; replace h0 := slot_on e h0 (by decide); replace h3 := slot_on e h3 (by decide); replace h4 := slot_on e h4 (by decide); replace h5 := slot_on e h5 (by decide); replace h7 := slot_on e h7 (by decide); replace h9 := slot_on e h9 (by decide); replace h57 := slot_on e h57 (by decide); replace h58 := slot_on e h58 (by decide); replace h59 := slot_on e h59 (by decide); clear h86; have h87 := g87; clear g87; clear e
    have Y : (execOp a167.eval o8_20_2).run Try.prog w166 = .ok (.value (.tuple #[.agg #[.int .i64 u.tree.tm.k, .string (str u.tree.tm.nm), .int .i64 u.tree.tm.i, .slice an u.tree.tm.args.length cn], .int .i64 0])) w166 := by unfold o8_20_2; go_simp
    refine st_val g8_20_2 rfl (wanted_free rfl) Y fun a169 e => ?_; clear Y
    have g85 := R.at_ e (by decide); replace R := R.put e; replace h0 := slot_on e h0 (by decide); replace h3 := slot_on e h3 (by decide); replace h4 := slot_on e h4 (by decide); replace h5 := slot_on e h5 (by decide); replace h7 := slot_on e h7 (by decide); replace h9 := slot_on e h9 (by decide); replace h57 := slot_on e h57 (by decide); replace h58 := slot_on e h58 (by decide); replace h59 := slot_on e h59 (by decide); clear h87; have h85 := g85; clear g85; clear e
    have Y : (execOp a169.eval o8_20_3).run Try.prog w166 = .ok (.value (.agg #[.int .i64 u.tree.tm.k, .string (str u.tree.tm.nm), .int .i64 u.tree.tm.i, .slice an u.tree.tm.args.length cn])) w166 := by unfold o8_20_3; go_simp
    refine st_val g8_20_3 rfl (wanted_free rfl) Y fun a171 e => ?_; clear Y
    have g88 := R.at_ e (by decide); replace R := R.put e; replace h0 := slot_on e h0 (by decide); replace h3 := slot_on e h3 (by decide); replace h4 := slot_on e h4 (by decide); replace h5 := slot_on e h5 (by decide); replace h7 := slot_on e h7 (by decide); replace h9 := slot_on e h9 (by decide); replace h57 := slot_on e h57 (by decide); replace h58 := slot_on e h58 (by decide); replace h59 := slot_on e h59 (by decide); replace h85 := slot_on e h85 (by decide); have h88 := g88; clear g88; clear e
    have Y : (execOp a171.eval o8_20_4).run Try.prog w166 = .ok (.value (.int .i64 0)) w166 := by unfold o8_20_4; go_simp
    refine st_val g8_20_4 rfl (wanted_free rfl) Y fun a173 e => ?_; clear Y
    have g89 := R.at_ e (by decide); replace R := R.put e; replace h0 := slot_on e h0 (by decide); replace h3 := slot_on e h3 (by decide); replace h4 := slot_on e h4 (by decide); replace h5 := slot_on e h5 (by decide); replace h7 := slot_on e h7 (by decide); replace h9 := slot_on e h9 (by decide); replace h57 := slot_on e h57 (by decide); replace h58 := slot_on e h58 (by decide); replace h59 := slot_on e h59 (by decide); replace h88 := slot_on e h88 (by decide); clear h85; have h89 := g89; clear g89; clear e
    have MK1 := K1
    have MK2 := K2
    have MK3 := K3
    have MK4 := K4
    have MK5 := K5
    have Y : (execOp a173.eval o8_20_5).run Try.prog w166 = .ok (.value (.pointer (some ⟨w166.heap.size, 0, none⟩))) (w166.alloc (.cells #[.int .i64 0, .string (⟨#[]⟩), .int .i64 0, .slice none 0 0] 24)) := by unfold o8_20_5; go_simp
    have B175 := Blk.new w166 24 #[.int .i64 0, .string (⟨#[]⟩), .int .i64 0, .slice none 0 0]
    replace K1 := K1.alloc (.cells #[.int .i64 0, .string (⟨#[]⟩), .int .i64 0, .slice none 0 0] 24)
    replace K2 := K2.alloc (.cells #[.int .i64 0, .string (⟨#[]⟩), .int .i64 0, .slice none 0 0] 24)
    replace K3 := K3.alloc (.cells #[.int .i64 0, .string (⟨#[]⟩), .int .i64 0, .slice none 0 0] 24)
    replace K4 := K4.alloc (.cells #[.int .i64 0, .string (⟨#[]⟩), .int .i64 0, .slice none 0 0] 24)
    replace K5 := K5.alloc (.cells #[.int .i64 0, .string (⟨#[]⟩), .int .i64 0, .slice none 0 0] 24)
    have Nb52_b175 := Nat.ne_of_lt B52.lt; replace B52 := B52.alloc (.cells #[.int .i64 0, .string (⟨#[]⟩), .int .i64 0, .slice none 0 0] 24)
    have Nb76_b175 := Nat.ne_of_lt B76.lt; replace B76 := B76.alloc (.cells #[.int .i64 0, .string (⟨#[]⟩), .int .i64 0, .slice none 0 0] 24)
    have Nb98_b175 := Nat.ne_of_lt B98.lt; replace B98 := B98.alloc (.cells #[.int .i64 0, .string (⟨#[]⟩), .int .i64 0, .slice none 0 0] 24)
    have Nb116_b175 := Nat.ne_of_lt B116.lt; replace B116 := B116.alloc (.cells #[.int .i64 0, .string (⟨#[]⟩), .int .i64 0, .slice none 0 0] 24)
    obtain ⟨w176, hw176⟩ : ∃ x, x = w166.alloc (.cells #[.int .i64 0, .string (⟨#[]⟩), .int .i64 0, .slice none 0 0] 24) := ⟨_, rfl⟩
    rw [← hw176] at Y B175 K1 K2 K3 K4 K5 B52 B76 B98 B116
    obtain ⟨b175, hb175⟩ : ∃ x, x = w166.heap.size := ⟨_, rfl⟩
    rw [← hb175] at Y B175 Nb52_b175 Nb76_b175 Nb98_b175 Nb116_b175
    have LK1_b175 : W.heap.size ≤ b175 := by rw [hb175]; first | exact Nat.le_refl _ | exact MK1.size
    have LK2_b175 : w67.heap.size ≤ b175 := by rw [hb175]; first | exact Nat.le_refl _ | exact MK2.size
    have LK3_b175 : w89.heap.size ≤ b175 := by rw [hb175]; first | exact Nat.le_refl _ | exact MK3.size
    have LK4_b175 : w107.heap.size ≤ b175 := by rw [hb175]; first | exact Nat.le_refl _ | exact MK4.size
    have LK5_b175 : w166.heap.size ≤ b175 := by rw [hb175]; first | exact Nat.le_refl _ | exact MK5.size
    clear hw176 hb175 MK1 MK2 MK3 MK4 MK5
    refine st_val g8_20_5 rfl (wanted_free rfl) Y fun a177 e => ?_; clear Y
    have g13 := R.at_ e (by decide); replace R := R.put e; replace h0 := slot_on e h0 (by decide); replace h3 := slot_on e h3 (by decide); replace h4 := slot_on e h4 (by decide); replace h5 := slot_on e h5 (by decide); replace h7 := slot_on e h7 (by decide); replace h9 := slot_on e h9 (by decide); replace h57 := slot_on e h57 (by decide); replace h58 := slot_on e h58 (by decide); replace h59 := slot_on e h59 (by decide); replace h88 := slot_on e h88 (by decide); replace h89 := slot_on e h89 (by decide); have h13 := g13; clear g13; clear e
    have Y : (execOp a177.eval o8_20_6).run Try.prog w176 = .ok .skip ((((w176.setCell ⟨b175, 0, none⟩ (.int .i64 u.tree.tm.k)).setCell ⟨b175, 1, none⟩ (.string (str u.tree.tm.nm))).setCell ⟨b175, 2, none⟩ (.int .i64 u.tree.tm.i)).setCell ⟨b175, 3, none⟩ (.slice an u.tree.tm.args.length cn)) := by have qq0 : w176.cell? ⟨b175, 0, none⟩ = some (.int .i64 0) := B175.cell 0; have qq1 : w176.cell? ⟨b175, 1, none⟩ = some (.string (⟨#[]⟩)) := B175.cell 1; have qq2 : w176.cell? ⟨b175, 2, none⟩ = some (.int .i64 0) := B175.cell 2; have qq3 : w176.cell? ⟨b175, 3, none⟩ = some (.slice none 0 0) := B175.cell 3; have z0 := B175.frozen 0; have z1 := B175.frozen 1; have z2 := B175.frozen 2; have z3 := B175.frozen 3; unfold o8_20_6; go_simp
    replace K1 := ((((K1.setCell (p := ⟨b175, 0, none⟩) (Nat.not_lt.2 LK1_b175) (.int .i64 u.tree.tm.k)).setCell (p := ⟨b175, 1, none⟩) (Nat.not_lt.2 LK1_b175) (.string (str u.tree.tm.nm))).setCell (p := ⟨b175, 2, none⟩) (Nat.not_lt.2 LK1_b175) (.int .i64 u.tree.tm.i)).setCell (p := ⟨b175, 3, none⟩) (Nat.not_lt.2 LK1_b175) (.slice an u.tree.tm.args.length cn))
    replace K2 := ((((K2.setCell (p := ⟨b175, 0, none⟩) (Nat.not_lt.2 LK2_b175) (.int .i64 u.tree.tm.k)).setCell (p := ⟨b175, 1, none⟩) (Nat.not_lt.2 LK2_b175) (.string (str u.tree.tm.nm))).setCell (p := ⟨b175, 2, none⟩) (Nat.not_lt.2 LK2_b175) (.int .i64 u.tree.tm.i)).setCell (p := ⟨b175, 3, none⟩) (Nat.not_lt.2 LK2_b175) (.slice an u.tree.tm.args.length cn))
    replace K3 := ((((K3.setCell (p := ⟨b175, 0, none⟩) (Nat.not_lt.2 LK3_b175) (.int .i64 u.tree.tm.k)).setCell (p := ⟨b175, 1, none⟩) (Nat.not_lt.2 LK3_b175) (.string (str u.tree.tm.nm))).setCell (p := ⟨b175, 2, none⟩) (Nat.not_lt.2 LK3_b175) (.int .i64 u.tree.tm.i)).setCell (p := ⟨b175, 3, none⟩) (Nat.not_lt.2 LK3_b175) (.slice an u.tree.tm.args.length cn))
    replace K4 := ((((K4.setCell (p := ⟨b175, 0, none⟩) (Nat.not_lt.2 LK4_b175) (.int .i64 u.tree.tm.k)).setCell (p := ⟨b175, 1, none⟩) (Nat.not_lt.2 LK4_b175) (.string (str u.tree.tm.nm))).setCell (p := ⟨b175, 2, none⟩) (Nat.not_lt.2 LK4_b175) (.int .i64 u.tree.tm.i)).setCell (p := ⟨b175, 3, none⟩) (Nat.not_lt.2 LK4_b175) (.slice an u.tree.tm.args.length cn))
    replace K5 := ((((K5.setCell (p := ⟨b175, 0, none⟩) (Nat.not_lt.2 LK5_b175) (.int .i64 u.tree.tm.k)).setCell (p := ⟨b175, 1, none⟩) (Nat.not_lt.2 LK5_b175) (.string (str u.tree.tm.nm))).setCell (p := ⟨b175, 2, none⟩) (Nat.not_lt.2 LK5_b175) (.int .i64 u.tree.tm.i)).setCell (p := ⟨b175, 3, none⟩) (Nat.not_lt.2 LK5_b175) (.slice an u.tree.tm.args.length cn))
    replace B52 := ((((B52.far (p := ⟨b175, 0, none⟩) Nb52_b175 (.int .i64 u.tree.tm.k)).far (p := ⟨b175, 1, none⟩) Nb52_b175 (.string (str u.tree.tm.nm))).far (p := ⟨b175, 2, none⟩) Nb52_b175 (.int .i64 u.tree.tm.i)).far (p := ⟨b175, 3, none⟩) Nb52_b175 (.slice an u.tree.tm.args.length cn))
    replace B76 := ((((B76.far (p := ⟨b175, 0, none⟩) Nb76_b175 (.int .i64 u.tree.tm.k)).far (p := ⟨b175, 1, none⟩) Nb76_b175 (.string (str u.tree.tm.nm))).far (p := ⟨b175, 2, none⟩) Nb76_b175 (.int .i64 u.tree.tm.i)).far (p := ⟨b175, 3, none⟩) Nb76_b175 (.slice an u.tree.tm.args.length cn))
    replace B98 := ((((B98.far (p := ⟨b175, 0, none⟩) Nb98_b175 (.int .i64 u.tree.tm.k)).far (p := ⟨b175, 1, none⟩) Nb98_b175 (.string (str u.tree.tm.nm))).far (p := ⟨b175, 2, none⟩) Nb98_b175 (.int .i64 u.tree.tm.i)).far (p := ⟨b175, 3, none⟩) Nb98_b175 (.slice an u.tree.tm.args.length cn))
    replace B116 := ((((B116.far (p := ⟨b175, 0, none⟩) Nb116_b175 (.int .i64 u.tree.tm.k)).far (p := ⟨b175, 1, none⟩) Nb116_b175 (.string (str u.tree.tm.nm))).far (p := ⟨b175, 2, none⟩) Nb116_b175 (.int .i64 u.tree.tm.i)).far (p := ⟨b175, 3, none⟩) Nb116_b175 (.slice an u.tree.tm.args.length cn))
    replace B175 : Blk ((((w176.setCell ⟨b175, 0, none⟩ (.int .i64 u.tree.tm.k)).setCell ⟨b175, 1, none⟩ (.string (str u.tree.tm.nm))).setCell ⟨b175, 2, none⟩ (.int .i64 u.tree.tm.i)).setCell ⟨b175, 3, none⟩ (.slice an u.tree.tm.args.length cn)) b175 24 #[.int .i64 u.tree.tm.k, .string (str u.tree.tm.nm), .int .i64 u.tree.tm.i, .slice an u.tree.tm.args.length cn] := ((((B175.set_ 0 (.int .i64 u.tree.tm.k)).set_ 1 (.string (str u.tree.tm.nm))).set_ 2 (.int .i64 u.tree.tm.i)).set_ 3 (.slice an u.tree.tm.args.length cn))
    generalize ((((w176.setCell ⟨b175, 0, none⟩ (.int .i64 u.tree.tm.k)).setCell ⟨b175, 1, none⟩ (.string (str u.tree.tm.nm))).setCell ⟨b175, 2, none⟩ (.int .i64 u.tree.tm.i)).setCell ⟨b175, 3, none⟩ (.slice an u.tree.tm.args.length cn)) = w179 at Y K1 K2 K3 K4 K5 B52 B76 B98 B116 B175
    refine st_skip g8_20_6 rfl (wanted_free rfl) Y ?_; clear Y
    have Y : (execOp a177.eval o8_20_7).run Try.prog w179 = .ok (.value (.int .i64 0)) w179 := by unfold o8_20_7; go_simp
    refine st_val g8_20_7 rfl (wanted_free rfl) Y fun a180 e => ?_; clear Y
    have g14 := R.at_ e (by decide); replace R := R.put e; replace h0 := slot_on e h0 (by decide); replace h3 := slot_on e h3 (by decide); replace h4 := slot_on e h4 (by decide); replace h5 := slot_on e h5 (by decide); replace h7 := slot_on e h7 (by decide); replace h9 := slot_on e h9 (by decide); replace h13 := slot_on e h13 (by decide); replace h57 := slot_on e h57 (by decide); replace h58 := slot_on e h58 (by decide); replace h59 := slot_on e h59 (by decide); clear h88 h89; have h14 := g14; clear g14; clear e
    refine st_end ?_
    change (c8_65).wp _ _ _ _
    refine wp_seq (x := c8_66) (y := Code.ret) ?_
    change (Code.region 21 O8_21 false).wp _ _ _ _
    refine reg_in (l := [0, 1, 2, 3, 4, 5, 6, 7, 8, 9, 10, 11, 12]) rfl ?_
    have Y : (execOp a180.eval o8_21_0).run Try.prog w179 = .ok (.value (.int .i64 0)) w179 := by unfold o8_21_0; go_simp
    refine st_val g8_21_0 rfl (wanted_free rfl) Y fun a182 e => ?_; clear Y
    have g90 := R.at_ e (by decide); replace R := R.put e; replace h0 := slot_on e h0 (by decide); replace h3 := slot_on e h3 (by decide); replace h4 := slot_on e h4 (by decide); replace h5 := slot_on e h5 (by decide); replace h7 := slot_on e h7 (by decide); replace h9 := slot_on e h9 (by decide); replace h13 := slot_on e h13 (by decide); replace h57 := slot_on e h57 (by decide); replace h58 := slot_on e h58 (by decide); replace h59 := slot_on e h59 (by decide); clear h14; have h90 := g90; clear g90; clear e
    have Y : (execOp a182.eval o8_21_1).run Try.prog w179 = .ok (.value (.bool true)) w179 := by unfold o8_21_1; go_simp
    refine st_val g8_21_1 rfl (wanted_free rfl) Y fun a184 e => ?_; clear Y
    have g91 := R.at_ e (by decide); replace R := R.put e; replace h0 := slot_on e h0 (by decide); replace h3 := slot_on e h3 (by decide); replace h4 := slot_on e h4 (by decide); replace h5 := slot_on e h5 (by decide); replace h7 := slot_on e h7 (by decide); replace h9 := slot_on e h9 (by decide); replace h13 := slot_on e h13 (by decide); replace h57 := slot_on e h57 (by decide); replace h58 := slot_on e h58 (by decide); replace h59 := slot_on e h59 (by decide); clear h90; have h91 := g91; clear g91; clear e
    have Y : (execOp a184.eval o8_21_2).run Try.prog w179 = .ok (.value (.bool true)) w179 := by unfold o8_21_2; go_simp
    refine st_val g8_21_2 rfl (wanted_free rfl) Y fun a186 e => ?_; clear Y
    have g92 := R.at_ e (by decide); replace R := R.put e; replace h0 := slot_on e h0 (by decide); replace h3 := slot_on e h3 (by decide); replace h4 := slot_on e h4 (by decide); replace h5 := slot_on e h5 (by decide); replace h7 := slot_on e h7 (by decide); replace h9 := slot_on e h9 (by decide); replace h13 := slot_on e h13 (by decide); replace h57 := slot_on e h57 (by decide); replace h58 := slot_on e h58 (by decide); replace h59 := slot_on e h59 (by decide); clear h91; have h92 := g92; clear g92; clear e
    have Y : (execOp a186.eval o8_21_3).run Try.prog w179 = .ok (.value (.agg #[.int .i64 u.tree.tm.k, .string (str u.tree.tm.nm), .int .i64 u.tree.tm.i, .slice an u.tree.tm.args.length cn])) w179 := by have qq0 : w179.cell? ⟨b175, 0, none⟩ = some (.int .i64 u.tree.tm.k) := B175.cell 0; have qq1 : w179.cell? ⟨b175, 1, none⟩ = some (.string (str u.tree.tm.nm)) := B175.cell 1; have qq2 : w179.cell? ⟨b175, 2, none⟩ = some (.int .i64 u.tree.tm.i) := B175.cell 2; have qq3 : w179.cell? ⟨b175, 3, none⟩ = some (.slice an u.tree.tm.args.length cn) := B175.cell 3; unfold o8_21_3; go_simp
    refine st_val g8_21_3 rfl (wanted_is (j := 2) (d := 92) rfl rfl h92 rfl) Y fun a188 e => ?_; clear Y
    have g93 := R.at_ e (by decide); replace R := R.put e; replace h0 := slot_on e h0 (by decide); replace h3 := slot_on e h3 (by decide); replace h4 := slot_on e h4 (by decide); replace h5 := slot_on e h5 (by decide); replace h7 := slot_on e h7 (by decide); replace h9 := slot_on e h9 (by decide); replace h57 := slot_on e h57 (by decide); replace h58 := slot_on e h58 (by decide); replace h59 := slot_on e h59 (by decide); replace h92 := slot_on e h92 (by decide); clear h13; have h93 := g93; clear g93; clear e
    have Y : (execOp a188.eval o8_21_4).run Try.prog w179 = .ok (.value (.agg #[.int .i64 u.k, .string (str u.nm), .int .i64 u.i, .slice ua u.args.length uc])) w179 := by have qq0 : w179.cell? ⟨b52, 0, none⟩ = some (.int .i64 u.k) := B52.cell 0; have qq1 : w179.cell? ⟨b52, 1, none⟩ = some (.string (str u.nm)) := B52.cell 1; have qq2 : w179.cell? ⟨b52, 2, none⟩ = some (.int .i64 u.i) := B52.cell 2; have qq3 : w179.cell? ⟨b52, 3, none⟩ = some (.slice ua u.args.length uc) := B52.cell 3; unfold o8_21_4; go_simp
    refine st_val g8_21_4 rfl (wanted_is (j := 2) (d := 92) rfl rfl h92 rfl) Y fun a190 e => ?_; clear Y
    have g94 := R.at_ e (by decide); replace R := R.put e; replace h0 := slot_on e h0 (by decide); replace h4 := slot_on e h4 (by decide); replace h5 := slot_on e h5 (by decide); replace h7 := slot_on e h7 (by decide); replace h9 := slot_on e h9 (by decide); replace h57 := slot_on e h57 (by decide); replace h58 := slot_on e h58 (by decide); replace h59 := slot_on e h59 (by decide); replace h92 := slot_on e h92 (by decide); replace h93 := slot_on e h93 (by decide); clear h3; have h94 := g94; clear g94; clear e
    have Y : (execOp a190.eval o8_21_5).run Try.prog w179 = .ok (.enter 19 #[.agg #[.int .i64 u.tree.tm.k, .string (str u.tree.tm.nm), .int .i64 u.tree.tm.i, .slice an u.tree.tm.args.length cn], .agg #[.int .i64 u.k, .string (str u.nm), .int .i64 u.i, .slice ua u.args.length uc]]) w179 := by unfold o8_21_5; go_simp
    refine st_call g8_21_5 rfl (wanted_is (j := 2) (d := 92) rfl rfl h92 rfl) Y ((same_sx (z := true) (HN.out.on K5) (HT.out.on K1) (same_tm HRU.out)).mono ?_); clear Y
    rintro e9 w192 ⟨rfl, kk⟩
    replace K1 := keep_onto K1 kk
    replace K2 := keep_onto K2 kk
    replace K3 := keep_onto K3 kk
    replace K4 := keep_onto K4 kk
    replace K5 := keep_onto K5 kk
    replace B52 := blk_on B52 kk
    replace B76 := blk_on B76 kk
    replace B98 := blk_on B98 kk
    replace B116 := blk_on B116 kk
    replace B175 := blk_on B175 kk
    clear kk
    refine ⟨_, rfl, fun a193 e => ?_⟩
    have g95 := R.at_ e (by decide); replace R := R.put e; replace h0 := slot_on e h0 (by decide); replace h4 := slot_on e h4 (by decide); replace h5 := slot_on e h5 (by decide); replace h7 := slot_on e h7 (by decide); replace h9 := slot_on e h9 (by decide); replace h57 := slot_on e h57 (by decide); replace h58 := slot_on e h58 (by decide); replace h59 := slot_on e h59 (by decide); replace h92 := slot_on e h92 (by decide); clear h93 h94; have h95 := g95; clear g95; clear e
    have Y : (execOp a193.eval o8_21_6).run Try.prog w192 = .ok (.value (.bool true)) w192 := by unfold o8_21_6; go_simp
    refine st_val g8_21_6 rfl (wanted_free rfl) Y fun a195 e => ?_; clear Y
    have g96 := R.at_ e (by decide); replace R := R.put e; replace h0 := slot_on e h0 (by decide); replace h4 := slot_on e h4 (by decide); replace h5 := slot_on e h5 (by decide); replace h7 := slot_on e h7 (by decide); replace h9 := slot_on e h9 (by decide); replace h57 := slot_on e h57 (by decide); replace h58 := slot_on e h58 (by decide); replace h59 := slot_on e h59 (by decide); clear h92 h95; have h96 := g96; clear g96; clear e
    have Y : (execOp a195.eval o8_21_7).run Try.prog w192 = .ok (.value (.bool true)) w192 := by unfold o8_21_7; go_simp
    refine st_val g8_21_7 rfl (wanted_free rfl) Y fun a197 e => ?_; clear Y
    have g97 := R.at_ e (by decide); replace R := R.put e; replace h0 := slot_on e h0 (by decide); replace h4 := slot_on e h4 (by decide); replace h5 := slot_on e h5 (by decide); replace h7 := slot_on e h7 (by decide); replace h9 := slot_on e h9 (by decide); replace h57 := slot_on e h57 (by decide); replace h58 := slot_on e h58 (by decide); replace h59 := slot_on e h59 (by decide); clear h96; have h97 := g97; clear g97; clear e
    have Y : (execOp a197.eval o8_21_8).run Try.prog w192 = .ok (.value (.agg #[.int .i64 x.k, .string (str x.nm), .int .i64 x.i, .slice ax x.args.length cx])) w192 := by have qq0 : w192.cell? ⟨b76, 0, none⟩ = some (.int .i64 x.k) := B76.cell 0; have qq1 : w192.cell? ⟨b76, 1, none⟩ = some (.string (str x.nm)) := B76.cell 1; have qq2 : w192.cell? ⟨b76, 2, none⟩ = some (.int .i64 x.i) := B76.cell 2; have qq3 : w192.cell? ⟨b76, 3, none⟩ = some (.slice ax x.args.length cx) := B76.cell 3; unfold o8_21_8; go_simp
    refine st_val g8_21_8 rfl (wanted_is (j := 7) (d := 97) rfl rfl h97 rfl) Y fun a199 e => ?_; clear Y
    have g98 := R.at_ e (by decide); replace R := R.put e; replace h0 := slot_on e h0 (by decide); replace h4 := slot_on e h4 (by decide); replace h7 := slot_on e h7 (by decide); replace h9 := slot_on e h9 (by decide); replace h57 := slot_on e h57 (by decide); replace h58 := slot_on e h58 (by decide); replace h59 := slot_on e h59 (by decide); replace h97 := slot_on e h97 (by decide); clear h5; have h98 := g98; clear g98; clear e
    have Y : (execOp a199.eval o8_21_9).run Try.prog w192 = .ok (.enter 17 #[.agg #[.int .i64 x.k, .string (str x.nm), .int .i64 x.i, .slice ax x.args.length cx]]) w192 := by unfold o8_21_9; go_simp
    refine st_call g8_21_9 rfl (wanted_is (j := 7) (d := 97) rfl rfl h97 rfl) Y ((depth_sx (HX.out.on K2) rfl).mono ?_); clear Y
    rintro e9 w201 ⟨rfl, kk⟩
    replace K1 := keep_onto K1 kk
    replace K2 := keep_onto K2 kk
    replace K3 := keep_onto K3 kk
    replace K4 := keep_onto K4 kk
    replace K5 := keep_onto K5 kk
    replace B52 := blk_on B52 kk
    replace B76 := blk_on B76 kk
    replace B98 := blk_on B98 kk
    replace B116 := blk_on B116 kk
    replace B175 := blk_on B175 kk
    clear kk
    refine ⟨_, rfl, fun a202 e => ?_⟩
    have g99 := R.at_ e (by decide); replace R := R.put e; replace h0 := slot_on e h0 (by decide); replace h4 := slot_on e h4 (by decide); replace h7 := slot_on e h7 (by decide); replace h9 := slot_on e h9 (by decide); replace h57 := slot_on e h57 (by decide); replace h58 := slot_on e h58 (by decide); replace h59 := slot_on e h59 (by decide); replace h97 := slot_on e h97 (by decide); clear h98; have h99 := g99; clear g99; clear e
    have Y : (execOp a202.eval o8_21_10).run Try.prog w201 = .ok (.value (.bool true)) w201 := by have hd := HD.out; unfold o8_21_10; go_simp
    refine st_val g8_21_10 rfl (wanted_is (j := 7) (d := 97) rfl rfl h97 rfl) Y fun a204 e => ?_; clear Y
    have g100 := R.at_ e (by decide); replace R := R.put e; replace h0 := slot_on e h0 (by decide); replace h4 := slot_on e h4 (by decide); replace h7 := slot_on e h7 (by decide); replace h9 := slot_on e h9 (by decide); replace h57 := slot_on e h57 (by decide); replace h58 := slot_on e h58 (by decide); replace h59 := slot_on e h59 (by decide); replace h97 := slot_on e h97 (by decide); clear h99; have h100 := g100; clear g100; clear e
    have Y : (execOp a204.eval o8_21_11).run Try.prog w201 = .ok (.value (.bool true)) w201 := by unfold o8_21_11; go_simp
    refine st_val g8_21_11 rfl (wanted_free rfl) Y fun a206 e => ?_; clear Y
    have g101 := R.at_ e (by decide); replace R := R.put e; replace h0 := slot_on e h0 (by decide); replace h4 := slot_on e h4 (by decide); replace h7 := slot_on e h7 (by decide); replace h9 := slot_on e h9 (by decide); replace h57 := slot_on e h57 (by decide); replace h58 := slot_on e h58 (by decide); replace h59 := slot_on e h59 (by decide); clear h97 h100; have h101 := g101; clear g101; clear e
    have Y : (execOp a206.eval o8_21_12).run Try.prog w201 = .ok (.value (.bool true)) w201 := by unfold o8_21_12; go_simp
    refine st_val g8_21_12 rfl (wanted_free rfl) Y fun a208 e => ?_; clear Y
    have g4 := R.at_ e (by decide); replace R := R.put e; replace h0 := slot_on e h0 (by decide); replace h7 := slot_on e h7 (by decide); replace h9 := slot_on e h9 (by decide); replace h57 := slot_on e h57 (by decide); replace h58 := slot_on e h58 (by decide); replace h59 := slot_on e h59 (by decide); clear h4 h101; have h4 := g4; clear g4; clear e
    refine st_end ?_
    change (Code.ret).wp _ _ _ _
    refine wp_ret ?_
    change bodyPost Try.prog Try.f8 (fun e w' => e = .returned (.bool true) ∧ Keep (fun g => g < W.heap.size) W w') .ret a208 w201
    refine ret_one rfl R h4 ?_
    exact ⟨rfl, K1⟩
  | true =>
    have fb161 := hb161; clear hb161
    simp only [decide_eq_true_eq, decide_eq_false_iff_not, Bool.not_eq_true', Bool.not_eq_false', Bool.not_eq_eq_eq_not, Bool.not_true, Bool.not_false] at fb161
    refine wp_cond_true (x := Code.skip) (y := c8_42) (eval_slot h59) ?_
    refine wp_skip ?_
    change (c8_43).wp _ _ _ _
    refine wp_seq (x := c8_44) (y := c8_62) ?_
    refine wp_block (id := 1) (c := c8_45) ?_
    refine wp_seq (x := c8_46) (y := c8_47) ?_
    change (Code.region 12 O8_12 false).wp _ _ _ _
    refine reg_in (l := [0, 1]) rfl ?_
    have Y : (execOp a162.eval o8_12_0).run Try.prog w159 = .ok (.value (.int .i64 (j : Int))) w159 := by unfold o8_12_0; go_simp
    refine st_val g8_12_0 rfl (wanted_free rfl) Y fun a210 e => ?_; clear Y
    have g60 := R.at_ e (by decide); replace R := R.put e; replace h0 := slot_on e h0 (by decide); replace h3 := slot_on e h3 (by decide); replace h4 := slot_on e h4 (by decide); replace h5 := slot_on e h5 (by decide); replace h7 := slot_on e h7 (by decide); replace h9 := slot_on e h9 (by decide); replace h57 := slot_on e h57 (by decide); replace h58 := slot_on e h58 (by decide); replace h59 := slot_on e h59 (by decide); have h60 := g60; clear g60; clear e
    have Y : (execOp a210.eval o8_12_1).run Try.prog w159 = .ok (.value (.int .i64 (j : Int))) w159 := by unfold o8_12_1; go_simp
    refine st_val g8_12_1 rfl (wanted_free rfl) Y fun a212 e => ?_; clear Y
    have g11 := R.at_ e (by decide); replace R := R.put e; replace h0 := slot_on e h0 (by decide); replace h3 := slot_on e h3 (by decide); replace h4 := slot_on e h4 (by decide); replace h5 := slot_on e h5 (by decide); replace h7 := slot_on e h7 (by decide); replace h9 := slot_on e h9 (by decide); replace h57 := slot_on e h57 (by decide); replace h58 := slot_on e h58 (by decide); replace h59 := slot_on e h59 (by decide); replace h60 := slot_on e h60 (by decide); have h11 := g11; clear g11; clear e
    refine st_end ?_
    change (c8_47).wp _ _ _ _
    refine wp_seq (x := c8_48) (y := c8_49) ?_
    change (Code.region 13 O8_13 false).wp _ _ _ _
    refine reg_in (l := [0, 1, 2]) rfl ?_
    have Y : (execOp a212.eval o8_13_0).run Try.prog w159 = .ok (.value (.agg #[.int .i64 0, .string (⟨#[]⟩), .int .i64 0, .slice none 0 0])) w159 := by unfold o8_13_0; go_simp
    refine st_val g8_13_0 rfl (wanted_free rfl) Y fun a214 e => ?_; clear Y
    have g61 := R.at_ e (by decide); replace R := R.put e; replace h0 := slot_on e h0 (by decide); replace h3 := slot_on e h3 (by decide); replace h4 := slot_on e h4 (by decide); replace h5 := slot_on e h5 (by decide); replace h7 := slot_on e h7 (by decide); replace h9 := slot_on e h9 (by decide); replace h11 := slot_on e h11 (by decide); replace h57 := slot_on e h57 (by decide); replace h58 := slot_on e h58 (by decide); replace h59 := slot_on e h59 (by decide); replace h60 := slot_on e h60 (by decide); have h61 := g61; clear g61; clear e
    have MK1 := K1
    have MK2 := K2
    have MK3 := K3
    have MK4 := K4
    have Y : (execOp a214.eval o8_13_1).run Try.prog w159 = .ok (.value (.pointer (some ⟨w159.heap.size, 0, none⟩))) (w159.alloc (.cells #[.int .i64 0, .string (⟨#[]⟩), .int .i64 0, .slice none 0 0] 24)) := by unfold o8_13_1; go_simp
    have B216 := Blk.new w159 24 #[.int .i64 0, .string (⟨#[]⟩), .int .i64 0, .slice none 0 0]
    replace K1 := K1.alloc (.cells #[.int .i64 0, .string (⟨#[]⟩), .int .i64 0, .slice none 0 0] 24)
    replace K2 := K2.alloc (.cells #[.int .i64 0, .string (⟨#[]⟩), .int .i64 0, .slice none 0 0] 24)
    replace K3 := K3.alloc (.cells #[.int .i64 0, .string (⟨#[]⟩), .int .i64 0, .slice none 0 0] 24)
    replace K4 := K4.alloc (.cells #[.int .i64 0, .string (⟨#[]⟩), .int .i64 0, .slice none 0 0] 24)
    have Nb52_b216 := Nat.ne_of_lt B52.lt; replace B52 := B52.alloc (.cells #[.int .i64 0, .string (⟨#[]⟩), .int .i64 0, .slice none 0 0] 24)
    have Nb76_b216 := Nat.ne_of_lt B76.lt; replace B76 := B76.alloc (.cells #[.int .i64 0, .string (⟨#[]⟩), .int .i64 0, .slice none 0 0] 24)
    have Nb98_b216 := Nat.ne_of_lt B98.lt; replace B98 := B98.alloc (.cells #[.int .i64 0, .string (⟨#[]⟩), .int .i64 0, .slice none 0 0] 24)
    have Nb116_b216 := Nat.ne_of_lt B116.lt; replace B116 := B116.alloc (.cells #[.int .i64 0, .string (⟨#[]⟩), .int .i64 0, .slice none 0 0] 24)
    obtain ⟨w217, hw217⟩ : ∃ x, x = w159.alloc (.cells #[.int .i64 0, .string (⟨#[]⟩), .int .i64 0, .slice none 0 0] 24) := ⟨_, rfl⟩
    rw [← hw217] at Y B216 K1 K2 K3 K4 B52 B76 B98 B116
    obtain ⟨b216, hb216⟩ : ∃ x, x = w159.heap.size := ⟨_, rfl⟩
    rw [← hb216] at Y B216 Nb52_b216 Nb76_b216 Nb98_b216 Nb116_b216
    have LK1_b216 : W.heap.size ≤ b216 := by rw [hb216]; first | exact Nat.le_refl _ | exact MK1.size
    have LK2_b216 : w67.heap.size ≤ b216 := by rw [hb216]; first | exact Nat.le_refl _ | exact MK2.size
    have LK3_b216 : w89.heap.size ≤ b216 := by rw [hb216]; first | exact Nat.le_refl _ | exact MK3.size
    have LK4_b216 : w107.heap.size ≤ b216 := by rw [hb216]; first | exact Nat.le_refl _ | exact MK4.size
    clear hw217 hb216 MK1 MK2 MK3 MK4
    refine st_val g8_13_1 rfl (wanted_free rfl) Y fun a218 e => ?_; clear Y
    have g12 := R.at_ e (by decide); replace R := R.put e; replace h0 := slot_on e h0 (by decide); replace h3 := slot_on e h3 (by decide); replace h4 := slot_on e h4 (by decide); replace h5 := slot_on e h5 (by decide); replace h7 := slot_on e h7 (by decide); replace h9 := slot_on e h9 (by decide); replace h11 := slot_on e h11 (by decide); replace h57 := slot_on e h57 (by decide); replace h58 := slot_on e h58 (by decide); replace h59 := slot_on e h59 (by decide); replace h60 := slot_on e h60 (by decide); replace h61 := slot_on e h61 (by decide); have h12 := g12; clear g12; clear e
    have Y : (execOp a218.eval o8_13_2).run Try.prog w217 = .ok .skip ((((w217.setCell ⟨b216, 0, none⟩ (.int .i64 0)).setCell ⟨b216, 1, none⟩ (.string (⟨#[]⟩))).setCell ⟨b216, 2, none⟩ (.int .i64 0)).setCell ⟨b216, 3, none⟩ (.slice none 0 0)) := by have qq0 : w217.cell? ⟨b216, 0, none⟩ = some (.int .i64 0) := B216.cell 0; have qq1 : w217.cell? ⟨b216, 1, none⟩ = some (.string (⟨#[]⟩)) := B216.cell 1; have qq2 : w217.cell? ⟨b216, 2, none⟩ = some (.int .i64 0) := B216.cell 2; have qq3 : w217.cell? ⟨b216, 3, none⟩ = some (.slice none 0 0) := B216.cell 3; have z0 := B216.frozen 0; have z1 := B216.frozen 1; have z2 := B216.frozen 2; have z3 := B216.frozen 3; unfold o8_13_2; go_simp
    replace K1 := ((((K1.setCell (p := ⟨b216, 0, none⟩) (Nat.not_lt.2 LK1_b216) (.int .i64 0)).setCell (p := ⟨b216, 1, none⟩) (Nat.not_lt.2 LK1_b216) (.string (⟨#[]⟩))).setCell (p := ⟨b216, 2, none⟩) (Nat.not_lt.2 LK1_b216) (.int .i64 0)).setCell (p := ⟨b216, 3, none⟩) (Nat.not_lt.2 LK1_b216) (.slice none 0 0))
    replace K2 := ((((K2.setCell (p := ⟨b216, 0, none⟩) (Nat.not_lt.2 LK2_b216) (.int .i64 0)).setCell (p := ⟨b216, 1, none⟩) (Nat.not_lt.2 LK2_b216) (.string (⟨#[]⟩))).setCell (p := ⟨b216, 2, none⟩) (Nat.not_lt.2 LK2_b216) (.int .i64 0)).setCell (p := ⟨b216, 3, none⟩) (Nat.not_lt.2 LK2_b216) (.slice none 0 0))
    replace K3 := ((((K3.setCell (p := ⟨b216, 0, none⟩) (Nat.not_lt.2 LK3_b216) (.int .i64 0)).setCell (p := ⟨b216, 1, none⟩) (Nat.not_lt.2 LK3_b216) (.string (⟨#[]⟩))).setCell (p := ⟨b216, 2, none⟩) (Nat.not_lt.2 LK3_b216) (.int .i64 0)).setCell (p := ⟨b216, 3, none⟩) (Nat.not_lt.2 LK3_b216) (.slice none 0 0))
    replace K4 := ((((K4.setCell (p := ⟨b216, 0, none⟩) (Nat.not_lt.2 LK4_b216) (.int .i64 0)).setCell (p := ⟨b216, 1, none⟩) (Nat.not_lt.2 LK4_b216) (.string (⟨#[]⟩))).setCell (p := ⟨b216, 2, none⟩) (Nat.not_lt.2 LK4_b216) (.int .i64 0)).setCell (p := ⟨b216, 3, none⟩) (Nat.not_lt.2 LK4_b216) (.slice none 0 0))
    replace B52 := ((((B52.far (p := ⟨b216, 0, none⟩) Nb52_b216 (.int .i64 0)).far (p := ⟨b216, 1, none⟩) Nb52_b216 (.string (⟨#[]⟩))).far (p := ⟨b216, 2, none⟩) Nb52_b216 (.int .i64 0)).far (p := ⟨b216, 3, none⟩) Nb52_b216 (.slice none 0 0))
    replace B76 := ((((B76.far (p := ⟨b216, 0, none⟩) Nb76_b216 (.int .i64 0)).far (p := ⟨b216, 1, none⟩) Nb76_b216 (.string (⟨#[]⟩))).far (p := ⟨b216, 2, none⟩) Nb76_b216 (.int .i64 0)).far (p := ⟨b216, 3, none⟩) Nb76_b216 (.slice none 0 0))
    replace B98 := ((((B98.far (p := ⟨b216, 0, none⟩) Nb98_b216 (.int .i64 0)).far (p := ⟨b216, 1, none⟩) Nb98_b216 (.string (⟨#[]⟩))).far (p := ⟨b216, 2, none⟩) Nb98_b216 (.int .i64 0)).far (p := ⟨b216, 3, none⟩) Nb98_b216 (.slice none 0 0))
    replace B116 := ((((B116.far (p := ⟨b216, 0, none⟩) Nb116_b216 (.int .i64 0)).far (p := ⟨b216, 1, none⟩) Nb116_b216 (.string (⟨#[]⟩))).far (p := ⟨b216, 2, none⟩) Nb116_b216 (.int .i64 0)).far (p := ⟨b216, 3, none⟩) Nb116_b216 (.slice none 0 0))
    replace B216 : Blk ((((w217.setCell ⟨b216, 0, none⟩ (.int .i64 0)).setCell ⟨b216, 1, none⟩ (.string (⟨#[]⟩))).setCell ⟨b216, 2, none⟩ (.int .i64 0)).setCell ⟨b216, 3, none⟩ (.slice none 0 0)) b216 24 #[.int .i64 0, .string (⟨#[]⟩), .int .i64 0, .slice none 0 0] := ((((B216.set_ 0 (.int .i64 0)).set_ 1 (.string (⟨#[]⟩))).set_ 2 (.int .i64 0)).set_ 3 (.slice none 0 0))
    generalize ((((w217.setCell ⟨b216, 0, none⟩ (.int .i64 0)).setCell ⟨b216, 1, none⟩ (.string (⟨#[]⟩))).setCell ⟨b216, 2, none⟩ (.int .i64 0)).setCell ⟨b216, 3, none⟩ (.slice none 0 0)) = w220 at Y K1 K2 K3 K4 B52 B76 B98 B116 B216
    refine st_skip g8_13_2 rfl (wanted_free rfl) Y ?_; clear Y
    refine st_end ?_
    change (c8_49).wp _ _ _ _
    refine wp_seq (x := c8_50) (y := c8_55) ?_
    refine wp_seq (x := c8_51) (y := c8_52) ?_
    change (Code.region 14 O8_14 false).wp _ _ _ _
    refine reg_in (l := [0, 1, 2, 3]) rfl ?_
    have Y : (execOp a218.eval o8_14_0).run Try.prog w220 = .ok (.value (.int .i64 (j : Int))) w220 := by unfold o8_14_0; go_simp
    refine st_val g8_14_0 rfl (wanted_free rfl) Y fun a221 e => ?_; clear Y
    have g62 := R.at_ e (by decide); replace R := R.put e; replace h0 := slot_on e h0 (by decide); replace h3 := slot_on e h3 (by decide); replace h4 := slot_on e h4 (by decide); replace h5 := slot_on e h5 (by decide); replace h7 := slot_on e h7 (by decide); replace h9 := slot_on e h9 (by decide); replace h11 := slot_on e h11 (by decide); replace h12 := slot_on e h12 (by decide); replace h57 := slot_on e h57 (by decide); replace h58 := slot_on e h58 (by decide); replace h59 := slot_on e h59 (by decide); replace h60 := slot_on e h60 (by decide); replace h61 := slot_on e h61 (by decide); have h62 := g62; clear g62; clear e
    have Y : (execOp a221.eval o8_14_1).run Try.prog w220 = .ok (.value (.slice sa ps.length sc)) w220 := by unfold o8_14_1; go_simp
    refine st_val g8_14_1 rfl (wanted_free rfl) Y fun a223 e => ?_; clear Y
    have g63 := R.at_ e (by decide); replace R := R.put e; replace h0 := slot_on e h0 (by decide); replace h3 := slot_on e h3 (by decide); replace h4 := slot_on e h4 (by decide); replace h5 := slot_on e h5 (by decide); replace h7 := slot_on e h7 (by decide); replace h9 := slot_on e h9 (by decide); replace h11 := slot_on e h11 (by decide); replace h12 := slot_on e h12 (by decide); replace h57 := slot_on e h57 (by decide); replace h58 := slot_on e h58 (by decide); replace h59 := slot_on e h59 (by decide); replace h60 := slot_on e h60 (by decide); replace h61 := slot_on e h61 (by decide); replace h62 := slot_on e h62 (by decide); have h63 := g63; clear g63; clear e
    have Y : (execOp a223.eval o8_14_2).run Try.prog w220 = .ok (.value (.int .i64 ps.length)) w220 := by unfold o8_14_2; go_simp
    refine st_val g8_14_2 rfl (wanted_free rfl) Y fun a225 e => ?_; clear Y
    have g64 := R.at_ e (by decide); replace R := R.put e; replace h0 := slot_on e h0 (by decide); replace h3 := slot_on e h3 (by decide); replace h4 := slot_on e h4 (by decide); replace h5 := slot_on e h5 (by decide); replace h7 := slot_on e h7 (by decide); replace h9 := slot_on e h9 (by decide); replace h11 := slot_on e h11 (by decide); replace h12 := slot_on e h12 (by decide); replace h57 := slot_on e h57 (by decide); replace h58 := slot_on e h58 (by decide); replace h59 := slot_on e h59 (by decide); replace h60 := slot_on e h60 (by decide); replace h61 := slot_on e h61 (by decide); replace h62 := slot_on e h62 (by decide); replace h63 := slot_on e h63 (by decide); have h64 := g64; clear g64; clear e
    obtain ⟨b227, hb227⟩ : ∃ x, (decide ((j : Int) < (ps.length : Int))) = x := ⟨_, rfl⟩
    have Y : (execOp a225.eval o8_14_3).run Try.prog w220 = .ok (.value (.bool b227)) w220 := by rw [← hb227]; unfold o8_14_3; go_simp
    refine st_val g8_14_3 rfl (wanted_free rfl) Y fun a228 e => ?_; clear Y
    have g65 := R.at_ e (by decide); replace R := R.put e; replace h0 := slot_on e h0 (by decide); replace h3 := slot_on e h3 (by decide); replace h4 := slot_on e h4 (by decide); replace h5 := slot_on e h5 (by decide); replace h7 := slot_on e h7 (by decide); replace h9 := slot_on e h9 (by decide); replace h11 := slot_on e h11 (by decide); replace h12 := slot_on e h12 (by decide); replace h57 := slot_on e h57 (by decide); replace h58 := slot_on e h58 (by decide); replace h59 := slot_on e h59 (by decide); replace h60 := slot_on e h60 (by decide); replace h61 := slot_on e h61 (by decide); replace h62 := slot_on e h62 (by decide); replace h63 := slot_on e h63 (by decide); replace h64 := slot_on e h64 (by decide); have h65 := g65; clear g65; clear e
    refine st_end ?_
    change (c8_52).wp _ _ _ _
    cases b227 with
    | false =>
      have fb227 := hb227; clear hb227
      simp only [decide_eq_true_eq, decide_eq_false_iff_not, Bool.not_eq_true', Bool.not_eq_false', Bool.not_eq_eq_eq_not, Bool.not_true, Bool.not_false] at fb227
      refine wp_cond_false (x := c8_53) (y := c8_54) (eval_slot h65) ?_
      change (Code.region 16 O8_16 false).wp _ _ _ _
      refine reg_in (l := [0, 1, 2, 3, 4, 5, 6, 7]) rfl ?_
      have Y : (execOp a228.eval o8_16_0).run Try.prog w220 = .ok (.value (.slice s1 ps1.length k1)) w220 := by unfold o8_16_0; go_simp
      refine st_val g8_16_0 rfl (wanted_free rfl) Y fun a230 e => ?_; clear Y
      have g70 := R.at_ e (by decide); replace R := R.put e; replace h0 := slot_on e h0 (by decide); replace h3 := slot_on e h3 (by decide); replace h4 := slot_on e h4 (by decide); replace h5 := slot_on e h5 (by decide); replace h7 := slot_on e h7 (by decide); replace h9 := slot_on e h9 (by decide); replace h11 := slot_on e h11 (by decide); replace h12 := slot_on e h12 (by decide); replace h57 := slot_on e h57 (by decide); replace h58 := slot_on e h58 (by decide); replace h59 := slot_on e h59 (by decide); replace h60 := slot_on e h60 (by decide); replace h61 := slot_on e h61 (by decide); replace h62 := slot_on e h62 (by decide); replace h63 := slot_on e h63 (by decide); replace h64 := slot_on e h64 (by decide); replace h65 := slot_on e h65 (by decide); have h70 := g70; clear g70; clear e
      have Y : (execOp a230.eval o8_16_1).run Try.prog w220 = .ok (.value (.int .i64 (j : Int))) w220 := by unfold o8_16_1; go_simp
      refine st_val g8_16_1 rfl (wanted_free rfl) Y fun a232 e => ?_; clear Y
      have g71 := R.at_ e (by decide); replace R := R.put e; replace h0 := slot_on e h0 (by decide); replace h3 := slot_on e h3 (by decide); replace h4 := slot_on e h4 (by decide); replace h5 := slot_on e h5 (by decide); replace h7 := slot_on e h7 (by decide); replace h9 := slot_on e h9 (by decide); replace h11 := slot_on e h11 (by decide); replace h12 := slot_on e h12 (by decide); replace h57 := slot_on e h57 (by decide); replace h58 := slot_on e h58 (by decide); replace h59 := slot_on e h59 (by decide); replace h60 := slot_on e h60 (by decide); replace h61 := slot_on e h61 (by decide); replace h62 := slot_on e h62 (by decide); replace h63 := slot_on e h63 (by decide); replace h64 := slot_on e h64 (by decide); replace h65 := slot_on e h65 (by decide); replace h70 := slot_on e h70 (by decide); have h71 := g71; clear g71; clear e
      have Y : (execOp a232.eval o8_16_2).run Try.prog w220 = .ok (.value (.slice sa ps.length sc)) w220 := by unfold o8_16_2; go_simp
      refine st_val g8_16_2 rfl (wanted_free rfl) Y fun a234 e => ?_; clear Y
      have g72 := R.at_ e (by decide); replace R := R.put e; replace h0 := slot_on e h0 (by decide); replace h3 := slot_on e h3 (by decide); replace h4 := slot_on e h4 (by decide); replace h5 := slot_on e h5 (by decide); replace h7 := slot_on e h7 (by decide); replace h9 := slot_on e h9 (by decide); replace h11 := slot_on e h11 (by decide); replace h12 := slot_on e h12 (by decide); replace h57 := slot_on e h57 (by decide); replace h58 := slot_on e h58 (by decide); replace h59 := slot_on e h59 (by decide); replace h60 := slot_on e h60 (by decide); replace h61 := slot_on e h61 (by decide); replace h62 := slot_on e h62 (by decide); replace h63 := slot_on e h63 (by decide); replace h64 := slot_on e h64 (by decide); replace h65 := slot_on e h65 (by decide); replace h70 := slot_on e h70 (by decide); replace h71 := slot_on e h71 (by decide); have h72 := g72; clear g72; clear e
      have Y : (execOp a234.eval o8_16_3).run Try.prog w220 = .ok (.value (.int .i64 ps.length)) w220 := by unfold o8_16_3; go_simp
      refine st_val g8_16_3 rfl (wanted_free rfl) Y fun a236 e => ?_; clear Y
      have g73 := R.at_ e (by decide); replace R := R.put e; replace h0 := slot_on e h0 (by decide); replace h3 := slot_on e h3 (by decide); replace h4 := slot_on e h4 (by decide); replace h5 := slot_on e h5 (by decide); replace h7 := slot_on e h7 (by decide); replace h9 := slot_on e h9 (by decide); replace h11 := slot_on e h11 (by decide); replace h12 := slot_on e h12 (by decide); replace h57 := slot_on e h57 (by decide); replace h58 := slot_on e h58 (by decide); replace h59 := slot_on e h59 (by decide); replace h60 := slot_on e h60 (by decide); replace h61 := slot_on e h61 (by decide); replace h62 := slot_on e h62 (by decide); replace h63 := slot_on e h63 (by decide); replace h64 := slot_on e h64 (by decide); replace h65 := slot_on e h65 (by decide); replace h70 := slot_on e h70 (by decide); replace h71 := slot_on e h71 (by decide); replace h72 := slot_on e h72 (by decide); have h73 := g73; clear g73; clear e
      obtain ⟨k, hk⟩ : ∃ k, j = ps.length + k := ⟨j - ps.length, by omega⟩
      have hlk : k < ps1.length := by have := HLE.out; omega
      have HK := Lib.hid hk; clear hk
      have Y : (execOp a236.eval o8_16_4).run Try.prog w220 = .ok (.value (.int .i64 (k : Int))) w220 := by have hw : IntKind.i64.wrap ((j : Int) - (ps.length : Int)) = (k : Int) := (by have hk := HK.out; rw [IntKind.wrap_i64]; omega); unfold o8_16_4; go_simp
      refine st_val g8_16_4 rfl (wanted_free rfl) Y fun a238 e => ?_; clear Y
      have g74 := R.at_ e (by decide); replace R := R.put e; replace h0 := slot_on e h0 (by decide); replace h3 := slot_on e h3 (by decide); replace h4 := slot_on e h4 (by decide); replace h5 := slot_on e h5 (by decide); replace h7 := slot_on e h7 (by decide); replace h9 := slot_on e h9 (by decide); replace h11 := slot_on e h11 (by decide); replace h12 := slot_on e h12 (by decide); replace h57 := slot_on e h57 (by decide); replace h58 := slot_on e h58 (by decide); replace h59 := slot_on e h59 (by decide); replace h60 := slot_on e h60 (by decide); replace h61 := slot_on e h61 (by decide); replace h62 := slot_on e h62 (by decide); replace h63 := slot_on e h63 (by decide); replace h64 := slot_on e h64 (by decide); replace h65 := slot_on e h65 (by decide); replace h70 := slot_on e h70 (by decide); replace h71 := slot_on e h71 (by decide); replace h72 := slot_on e h72 (by decide); replace h73 := slot_on e h73 (by decide); have h74 := g74; clear g74; clear e
      obtain ⟨bB, obB, hsbB, -⟩ := tmsl_addr (tmsl_on H1.out.1 K3) (show k < ps1.length by omega)
      have hltbB : (k : Int) < (ps1.length : Int) := by omega
      have Y : (execOp a238.eval o8_16_5).run Try.prog w220 = .ok (.value (.pointer (some ⟨bB, obB + k * 4, none⟩))) w220 := by unfold o8_16_5; go_simp
      refine st_val g8_16_5 rfl (wanted_free rfl) Y fun a240 e => ?_; clear Y
      have g75 := R.at_ e (by decide); replace R := R.put e; replace h0 := slot_on e h0 (by decide); replace h3 := slot_on e h3 (by decide); replace h4 := slot_on e h4 (by decide); replace h5 := slot_on e h5 (by decide); replace h7 := slot_on e h7 (by decide); replace h9 := slot_on e h9 (by decide); replace h11 := slot_on e h11 (by decide); replace h12 := slot_on e h12 (by decide); replace h57 := slot_on e h57 (by decide); replace h58 := slot_on e h58 (by decide); replace h59 := slot_on e h59 (by decide); replace h60 := slot_on e h60 (by decide); replace h61 := slot_on e h61 (by decide); replace h62 := slot_on e h62 (by decide); replace h63 := slot_on e h63 (by decide); replace h64 := slot_on e h64 (by decide); replace h65 := slot_on e h65 (by decide); replace h70 := slot_on e h70 (by decide); replace h71 := slot_on e h71 (by decide); replace h72 := slot_on e h72 (by decide); replace h73 := slot_on e h73 (by decide); replace h74 := slot_on e h74 (by decide); have h75 := g75; clear g75; clear e
      obtain ⟨pB, hpB⟩ : ∃ p, ps1[k]? = some p := ⟨_, List.getElem?_eq_getElem (by omega)⟩
      have Y : (execOp a240.eval o8_16_6).run Try.prog w220 = .ok (.value (.agg #[.int .i64 pB.1.k, .string (str pB.1.nm), .int .i64 pB.1.i, .slice pB.2.1 pB.1.args.length pB.2.2])) w220 := by obtain ⟨⟨c0, c1, c2, c3⟩, -⟩ := tmsl_at (tmsl_on H1.out.1 K3) hsbB hpB; unfold o8_16_6; go_simp
      refine st_val g8_16_6 rfl (wanted_free rfl) Y fun a242 e => ?_; clear Y
      have g76 := R.at_ e (by decide); replace R := R.put e; replace h0 := slot_on e h0 (by decide); replace h3 := slot_on e h3 (by decide); replace h4 := slot_on e h4 (by decide); replace h5 := slot_on e h5 (by decide); replace h7 := slot_on e h7 (by decide); replace h9 := slot_on e h9 (by decide); replace h11 := slot_on e h11 (by decide); replace h12 := slot_on e h12 (by decide); replace h57 := slot_on e h57 (by decide); replace h58 := slot_on e h58 (by decide); replace h59 := slot_on e h59 (by decide); replace h60 := slot_on e h60 (by decide); replace h61 := slot_on e h61 (by decide); replace h62 := slot_on e h62 (by decide); replace h63 := slot_on e h63 (by decide); replace h64 := slot_on e h64 (by decide); replace h65 := slot_on e h65 (by decide); replace h70 := slot_on e h70 (by decide); replace h71 := slot_on e h71 (by decide); replace h72 := slot_on e h72 (by decide); replace h73 := slot_on e h73 (by decide); replace h74 := slot_on e h74 (by decide); replace h75 := slot_on e h75 (by decide); have h76 := g76; clear g76; clear e
      have Y : (execOp a242.eval o8_16_7).run Try.prog w220 = .ok .skip ((((w220.setCell ⟨b216, 0, none⟩ (.int .i64 pB.1.k)).setCell ⟨b216, 1, none⟩ (.string (str pB.1.nm))).setCell ⟨b216, 2, none⟩ (.int .i64 pB.1.i)).setCell ⟨b216, 3, none⟩ (.slice pB.2.1 pB.1.args.length pB.2.2)) := by have qq0 : w220.cell? ⟨b216, 0, none⟩ = some (.int .i64 0) := B216.cell 0; have qq1 : w220.cell? ⟨b216, 1, none⟩ = some (.string (⟨#[]⟩)) := B216.cell 1; have qq2 : w220.cell? ⟨b216, 2, none⟩ = some (.int .i64 0) := B216.cell 2; have qq3 : w220.cell? ⟨b216, 3, none⟩ = some (.slice none 0 0) := B216.cell 3; have z0 := B216.frozen 0; have z1 := B216.frozen 1; have z2 := B216.frozen 2; have z3 := B216.frozen 3; unfold o8_16_7; go_simp
      replace K1 := ((((K1.setCell (p := ⟨b216, 0, none⟩) (Nat.not_lt.2 LK1_b216) (.int .i64 pB.1.k)).setCell (p := ⟨b216, 1, none⟩) (Nat.not_lt.2 LK1_b216) (.string (str pB.1.nm))).setCell (p := ⟨b216, 2, none⟩) (Nat.not_lt.2 LK1_b216) (.int .i64 pB.1.i)).setCell (p := ⟨b216, 3, none⟩) (Nat.not_lt.2 LK1_b216) (.slice pB.2.1 pB.1.args.length pB.2.2))
      replace K2 := ((((K2.setCell (p := ⟨b216, 0, none⟩) (Nat.not_lt.2 LK2_b216) (.int .i64 pB.1.k)).setCell (p := ⟨b216, 1, none⟩) (Nat.not_lt.2 LK2_b216) (.string (str pB.1.nm))).setCell (p := ⟨b216, 2, none⟩) (Nat.not_lt.2 LK2_b216) (.int .i64 pB.1.i)).setCell (p := ⟨b216, 3, none⟩) (Nat.not_lt.2 LK2_b216) (.slice pB.2.1 pB.1.args.length pB.2.2))
      replace K3 := ((((K3.setCell (p := ⟨b216, 0, none⟩) (Nat.not_lt.2 LK3_b216) (.int .i64 pB.1.k)).setCell (p := ⟨b216, 1, none⟩) (Nat.not_lt.2 LK3_b216) (.string (str pB.1.nm))).setCell (p := ⟨b216, 2, none⟩) (Nat.not_lt.2 LK3_b216) (.int .i64 pB.1.i)).setCell (p := ⟨b216, 3, none⟩) (Nat.not_lt.2 LK3_b216) (.slice pB.2.1 pB.1.args.length pB.2.2))
      replace K4 := ((((K4.setCell (p := ⟨b216, 0, none⟩) (Nat.not_lt.2 LK4_b216) (.int .i64 pB.1.k)).setCell (p := ⟨b216, 1, none⟩) (Nat.not_lt.2 LK4_b216) (.string (str pB.1.nm))).setCell (p := ⟨b216, 2, none⟩) (Nat.not_lt.2 LK4_b216) (.int .i64 pB.1.i)).setCell (p := ⟨b216, 3, none⟩) (Nat.not_lt.2 LK4_b216) (.slice pB.2.1 pB.1.args.length pB.2.2))
      replace B52 := ((((B52.far (p := ⟨b216, 0, none⟩) Nb52_b216 (.int .i64 pB.1.k)).far (p := ⟨b216, 1, none⟩) Nb52_b216 (.string (str pB.1.nm))).far (p := ⟨b216, 2, none⟩) Nb52_b216 (.int .i64 pB.1.i)).far (p := ⟨b216, 3, none⟩) Nb52_b216 (.slice pB.2.1 pB.1.args.length pB.2.2))
      replace B76 := ((((B76.far (p := ⟨b216, 0, none⟩) Nb76_b216 (.int .i64 pB.1.k)).far (p := ⟨b216, 1, none⟩) Nb76_b216 (.string (str pB.1.nm))).far (p := ⟨b216, 2, none⟩) Nb76_b216 (.int .i64 pB.1.i)).far (p := ⟨b216, 3, none⟩) Nb76_b216 (.slice pB.2.1 pB.1.args.length pB.2.2))
      replace B98 := ((((B98.far (p := ⟨b216, 0, none⟩) Nb98_b216 (.int .i64 pB.1.k)).far (p := ⟨b216, 1, none⟩) Nb98_b216 (.string (str pB.1.nm))).far (p := ⟨b216, 2, none⟩) Nb98_b216 (.int .i64 pB.1.i)).far (p := ⟨b216, 3, none⟩) Nb98_b216 (.slice pB.2.1 pB.1.args.length pB.2.2))
      replace B116 := ((((B116.far (p := ⟨b216, 0, none⟩) Nb116_b216 (.int .i64 pB.1.k)).far (p := ⟨b216, 1, none⟩) Nb116_b216 (.string (str pB.1.nm))).far (p := ⟨b216, 2, none⟩) Nb116_b216 (.int .i64 pB.1.i)).far (p := ⟨b216, 3, none⟩) Nb116_b216 (.slice pB.2.1 pB.1.args.length pB.2.2))
      replace B216 : Blk ((((w220.setCell ⟨b216, 0, none⟩ (.int .i64 pB.1.k)).setCell ⟨b216, 1, none⟩ (.string (str pB.1.nm))).setCell ⟨b216, 2, none⟩ (.int .i64 pB.1.i)).setCell ⟨b216, 3, none⟩ (.slice pB.2.1 pB.1.args.length pB.2.2)) b216 24 #[.int .i64 pB.1.k, .string (str pB.1.nm), .int .i64 pB.1.i, .slice pB.2.1 pB.1.args.length pB.2.2] := ((((B216.set_ 0 (.int .i64 pB.1.k)).set_ 1 (.string (str pB.1.nm))).set_ 2 (.int .i64 pB.1.i)).set_ 3 (.slice pB.2.1 pB.1.args.length pB.2.2))
      generalize ((((w220.setCell ⟨b216, 0, none⟩ (.int .i64 pB.1.k)).setCell ⟨b216, 1, none⟩ (.string (str pB.1.nm))).setCell ⟨b216, 2, none⟩ (.int .i64 pB.1.i)).setCell ⟨b216, 3, none⟩ (.slice pB.2.1 pB.1.args.length pB.2.2)) = w244 at Y K1 K2 K3 K4 B52 B76 B98 B116 B216
      refine st_skip g8_16_7 rfl (wanted_free rfl) Y ?_; clear Y
      refine st_end ?_
      change (c8_55).wp _ _ _ _
      refine wp_seq (x := c8_56) (y := c8_57) ?_
      change (Code.region 17 O8_17 true).wp _ _ _ _
      have D247 := B52
      have D248 := B76
      have D249 := B98
      have D250 := B116
      have D251 := B216
      have K245 := (Keep.refl (fun g => g < w244.heap.size) w244).drew
      have EK1 := K1
      have EK2 := K2
      have EK3 := K3
      have EK4 := K4
      refine dr_in (S := (fun W => Keep (fun g => g < w244.heap.size) w244 W)) (n := 7) (l := #[false, false, false, false, false, false, false]) (by kernel_rfl) K245 rfl rfl ?_
      replace K1 := K1.drew
      replace K2 := K2.drew
      replace K3 := K3.drew
      replace K4 := K4.drew
      replace B52 := B52.drew
      replace B76 := B76.drew
      replace B98 := B98.drew
      replace B116 := B116.drew
      replace B216 := B216.drew
      generalize w244.drew = w246 at K245 K1 K2 K3 K4 B52 B76 B98 B116 B216 ⊢
      have Y : ∀ W, Keep (fun g => g < w244.heap.size) w244 W → (execOp a242.eval o8_17_0).run Try.prog W = .ok (.value (.slice s2 ps2.length k2)) W := by intro W7 hS; unfold o8_17_0; go_simp
      refine dr_take (i := 0) (fuel := 6) (l' := #[true, false, false, false, false, false, false]) g8_17_0 rfl ns8_17 (by kernel_rfl) (by kernel_rfl) rfl (wanted_free rfl) K245 Y fun a252 e => ?_; clear Y
      have g77 := R.at_ e (by decide); replace R := R.put e; replace h0 := slot_on e h0 (by decide); replace h3 := slot_on e h3 (by decide); replace h4 := slot_on e h4 (by decide); replace h5 := slot_on e h5 (by decide); replace h7 := slot_on e h7 (by decide); replace h9 := slot_on e h9 (by decide); replace h11 := slot_on e h11 (by decide); replace h12 := slot_on e h12 (by decide); replace h57 := slot_on e h57 (by decide); replace h58 := slot_on e h58 (by decide); replace h59 := slot_on e h59 (by decide); replace h60 := slot_on e h60 (by decide); replace h61 := slot_on e h61 (by decide); replace h62 := slot_on e h62 (by decide); replace h63 := slot_on e h63 (by decide); replace h64 := slot_on e h64 (by decide); replace h65 := slot_on e h65 (by decide); replace h70 := slot_on e h70 (by decide); replace h71 := slot_on e h71 (by decide); replace h72 := slot_on e h72 (by decide); replace h73 := slot_on e h73 (by decide); replace h74 := slot_on e h74 (by decide); replace h75 := slot_on e h75 (by decide); replace h76 := slot_on e h76 (by decide); have h77 := g77; clear g77; clear e
      have Y : ∀ W, Keep (fun g => g < w244.heap.size) w244 W → (execOp a252.eval o8_17_1).run Try.prog W = .ok (.value (.int .i64 (j : Int))) W := by intro W7 hS; unfold o8_17_1; go_simp
      refine dr_take (i := 1) (fuel := 5) (l' := #[true, true, false, false, false, false, false]) g8_17_1 rfl ns8_17 (by kernel_rfl) (by kernel_rfl) rfl (wanted_free rfl) K245 Y fun a254 e => ?_; clear Y
      have g78 := R.at_ e (by decide); replace R := R.put e; replace h0 := slot_on e h0 (by decide); replace h3 := slot_on e h3 (by decide); replace h4 := slot_on e h4 (by decide); replace h5 := slot_on e h5 (by decide); replace h7 := slot_on e h7 (by decide); replace h9 := slot_on e h9 (by decide); replace h11 := slot_on e h11 (by decide); replace h12 := slot_on e h12 (by decide); replace h57 := slot_on e h57 (by decide); replace h58 := slot_on e h58 (by decide); replace h59 := slot_on e h59 (by decide); replace h60 := slot_on e h60 (by decide); replace h61 := slot_on e h61 (by decide); replace h62 := slot_on e h62 (by decide); replace h63 := slot_on e h63 (by decide); replace h64 := slot_on e h64 (by decide); replace h65 := slot_on e h65 (by decide); replace h70 := slot_on e h70 (by decide); replace h71 := slot_on e h71 (by decide); replace h72 := slot_on e h72 (by decide); replace h73 := slot_on e h73 (by decide); replace h74 := slot_on e h74 (by decide); replace h75 := slot_on e h75 (by decide); replace h76 := slot_on e h76 (by decide); replace h77 := slot_on e h77 (by decide); have h78 := g78; clear g78; clear e
      have Y : ∀ W, Keep (fun g => g < w244.heap.size) w244 W → (execOp a254.eval o8_17_4).run Try.prog W = .ok (.value (.agg #[.int .i64 pB.1.k, .string (str pB.1.nm), .int .i64 pB.1.i, .slice pB.2.1 pB.1.args.length pB.2.2])) W := by intro W7 hS; have D := D251.keep hS D251.lt; have qq0 : W7.cell? ⟨b216, 0, none⟩ = some (.int .i64 pB.1.k) := D.cell 0; have qq1 : W7.cell? ⟨b216, 1, none⟩ = some (.string (str pB.1.nm)) := D.cell 1; have qq2 : W7.cell? ⟨b216, 2, none⟩ = some (.int .i64 pB.1.i) := D.cell 2; have qq3 : W7.cell? ⟨b216, 3, none⟩ = some (.slice pB.2.1 pB.1.args.length pB.2.2) := D.cell 3; unfold o8_17_4; go_simp
      refine dr_take (i := 4) (fuel := 4) (l' := #[true, true, false, false, true, false, false]) g8_17_4 rfl ns8_17 (by kernel_rfl) (by kernel_rfl) rfl (wanted_free rfl) K245 Y fun a256 e => ?_; clear Y
      have g81 := R.at_ e (by decide); replace R := R.put e; replace h0 := slot_on e h0 (by decide); replace h3 := slot_on e h3 (by decide); replace h4 := slot_on e h4 (by decide); replace h5 := slot_on e h5 (by decide); replace h7 := slot_on e h7 (by decide); replace h9 := slot_on e h9 (by decide); replace h11 := slot_on e h11 (by decide); replace h12 := slot_on e h12 (by decide); replace h57 := slot_on e h57 (by decide); replace h58 := slot_on e h58 (by decide); replace h59 := slot_on e h59 (by decide); replace h60 := slot_on e h60 (by decide); replace h61 := slot_on e h61 (by decide); replace h62 := slot_on e h62 (by decide); replace h63 := slot_on e h63 (by decide); replace h64 := slot_on e h64 (by decide); replace h65 := slot_on e h65 (by decide); replace h70 := slot_on e h70 (by decide); replace h71 := slot_on e h71 (by decide); replace h72 := slot_on e h72 (by decide); replace h73 := slot_on e h73 (by decide); replace h74 := slot_on e h74 (by decide); replace h75 := slot_on e h75 (by decide); replace h76 := slot_on e h76 (by decide); replace h77 := slot_on e h77 (by decide); replace h78 := slot_on e h78 (by decide); have h81 := g81; clear g81; clear e
      refine dr_only (i := 2) (fuel := 3) (by kernel_rfl) ?_
      obtain ⟨bC, obC, hsbC, -⟩ := tmsl_addr (tmsl_on H2.out.1 K4) (show j < ps2.length by omega)
      have hltbC : (j : Int) < (ps2.length : Int) := by omega
      have Y : (execOp a256.eval o8_17_2).run Try.prog w246 = .ok (.value (.pointer (some ⟨bC, obC + j * 4, none⟩))) w246 := by unfold o8_17_2; go_simp
      refine dr_val (l' := #[true, true, true, false, true, false, false]) g8_17_2 rfl rfl (wanted_free rfl) Y K245 fun a258 e => ?_; clear Y
      have g79 := R.at_ e (by decide); replace R := R.put e; replace h0 := slot_on e h0 (by decide); replace h3 := slot_on e h3 (by decide); replace h4 := slot_on e h4 (by decide); replace h5 := slot_on e h5 (by decide); replace h7 := slot_on e h7 (by decide); replace h9 := slot_on e h9 (by decide); replace h11 := slot_on e h11 (by decide); replace h12 := slot_on e h12 (by decide); replace h57 := slot_on e h57 (by decide); replace h58 := slot_on e h58 (by decide); replace h59 := slot_on e h59 (by decide); replace h60 := slot_on e h60 (by decide); replace h61 := slot_on e h61 (by decide); replace h62 := slot_on e h62 (by decide); replace h63 := slot_on e h63 (by decide); replace h64 := slot_on e h64 (by decide); replace h65 := slot_on e h65 (by decide); replace h70 := slot_on e h70 (by decide); replace h71 := slot_on e h71 (by decide); replace h72 := slot_on e h72 (by decide); replace h73 := slot_on e h73 (by decide); replace h74 := slot_on e h74 (by decide); replace h75 := slot_on e h75 (by decide); replace h76 := slot_on e h76 (by decide); replace h77 := slot_on e h77 (by decide); replace h78 := slot_on e h78 (by decide); replace h81 := slot_on e h81 (by decide); have h79 := g79; clear g79; clear e
      obtain ⟨pC, hpC⟩ : ∃ p, ps2[j]? = some p := ⟨_, List.getElem?_eq_getElem (by omega)⟩
      have Y : ∀ W, Keep (fun g => g < w244.heap.size) w244 W → (execOp a258.eval o8_17_3).run Try.prog W = .ok (.value (.agg #[.int .i64 pC.1.k, .string (str pC.1.nm), .int .i64 pC.1.i, .slice pC.2.1 pC.1.args.length pC.2.2])) W := by intro W7 hS; obtain ⟨⟨c0, c1, c2, c3⟩, -⟩ := tmsl_at (tmsl_on H2.out.1 (keep_onto EK4 hS)) hsbC hpC; unfold o8_17_3; go_simp
      refine dr_take (i := 3) (fuel := 2) (l' := #[true, true, true, true, true, false, false]) g8_17_3 rfl ns8_17 (by kernel_rfl) (by kernel_rfl) rfl (wanted_free rfl) K245 Y fun a260 e => ?_; clear Y
      have g80 := R.at_ e (by decide); replace R := R.put e; replace h0 := slot_on e h0 (by decide); replace h3 := slot_on e h3 (by decide); replace h4 := slot_on e h4 (by decide); replace h5 := slot_on e h5 (by decide); replace h7 := slot_on e h7 (by decide); replace h9 := slot_on e h9 (by decide); replace h11 := slot_on e h11 (by decide); replace h12 := slot_on e h12 (by decide); replace h57 := slot_on e h57 (by decide); replace h58 := slot_on e h58 (by decide); replace h59 := slot_on e h59 (by decide); replace h60 := slot_on e h60 (by decide); replace h61 := slot_on e h61 (by decide); replace h62 := slot_on e h62 (by decide); replace h63 := slot_on e h63 (by decide); replace h64 := slot_on e h64 (by decide); replace h65 := slot_on e h65 (by decide); replace h70 := slot_on e h70 (by decide); replace h71 := slot_on e h71 (by decide); replace h72 := slot_on e h72 (by decide); replace h73 := slot_on e h73 (by decide); replace h74 := slot_on e h74 (by decide); replace h75 := slot_on e h75 (by decide); replace h76 := slot_on e h76 (by decide); replace h77 := slot_on e h77 (by decide); replace h78 := slot_on e h78 (by decide); replace h79 := slot_on e h79 (by decide); replace h81 := slot_on e h81 (by decide); have h80 := g80; clear g80; clear e
      refine dr_only (i := 5) (fuel := 1) (by kernel_rfl) ?_
      have Y : (execOp a260.eval o8_17_5).run Try.prog w246 = .ok (.enter 19 #[.agg #[.int .i64 pC.1.k, .string (str pC.1.nm), .int .i64 pC.1.i, .slice pC.2.1 pC.1.args.length pC.2.2], .agg #[.int .i64 pB.1.k, .string (str pB.1.nm), .int .i64 pB.1.i, .slice pB.2.1 pB.1.args.length pB.2.2]]) w246 := by unfold o8_17_5; go_simp
      refine dr_call (l' := #[true, true, true, true, true, true, false]) g8_17_5 rfl rfl (wanted_free rfl) Y ((same_sx (z := true) (tmsl_at (tmsl_on H2.out.1 K4) hsbC hpC).2 (tmsl_at (tmsl_on H1.out.1 K3) hsbB hpB).2 (HP2.out k pB pC hpB (by rw [← HK.out]; exact hpC))).mono ?_); clear Y
      rintro e9 w262 ⟨rfl, kk⟩
      replace K1 := keep_onto K1 kk
      replace K2 := keep_onto K2 kk
      replace K3 := keep_onto K3 kk
      replace K4 := keep_onto K4 kk
      replace K245 := keep_onto K245 kk
      replace B52 := blk_on B52 kk
      replace B76 := blk_on B76 kk
      replace B98 := blk_on B98 kk
      replace B116 := blk_on B116 kk
      replace B216 := blk_on B216 kk
      clear kk
      refine ⟨_, rfl, K245, fun a263 e => ?_⟩
      have g82 := R.at_ e (by decide); replace R := R.put e; replace h0 := slot_on e h0 (by decide); replace h3 := slot_on e h3 (by decide); replace h4 := slot_on e h4 (by decide); replace h5 := slot_on e h5 (by decide); replace h7 := slot_on e h7 (by decide); replace h9 := slot_on e h9 (by decide); replace h11 := slot_on e h11 (by decide); replace h12 := slot_on e h12 (by decide); replace h57 := slot_on e h57 (by decide); replace h58 := slot_on e h58 (by decide); replace h59 := slot_on e h59 (by decide); replace h60 := slot_on e h60 (by decide); replace h61 := slot_on e h61 (by decide); replace h62 := slot_on e h62 (by decide); replace h63 := slot_on e h63 (by decide); replace h64 := slot_on e h64 (by decide); replace h65 := slot_on e h65 (by decide); replace h70 := slot_on e h70 (by decide); replace h71 := slot_on e h71 (by decide); replace h72 := slot_on e h72 (by decide); replace h73 := slot_on e h73 (by decide); replace h74 := slot_on e h74 (by decide); replace h75 := slot_on e h75 (by decide); replace h76 := slot_on e h76 (by decide); replace h77 := slot_on e h77 (by decide); replace h78 := slot_on e h78 (by decide); replace h79 := slot_on e h79 (by decide); replace h80 := slot_on e h80 (by decide); replace h81 := slot_on e h81 (by decide); have h82 := g82; clear g82; clear e
      have Y : ∀ W, Keep (fun g => g < w244.heap.size) w244 W → (execOp a263.eval o8_17_6).run Try.prog W = .ok (.value (.bool false)) W := by intro W7 hS; unfold o8_17_6; go_simp
      refine dr_take (i := 6) (fuel := 0) (l' := #[true, true, true, true, true, true, true]) g8_17_6 rfl ns8_17 (by kernel_rfl) (by kernel_rfl) rfl (wanted_free rfl) K245 Y fun a265 e => ?_; clear Y
      have g83 := R.at_ e (by decide); replace R := R.put e; replace h0 := slot_on e h0 (by decide); replace h3 := slot_on e h3 (by decide); replace h4 := slot_on e h4 (by decide); replace h5 := slot_on e h5 (by decide); replace h7 := slot_on e h7 (by decide); replace h9 := slot_on e h9 (by decide); replace h11 := slot_on e h11 (by decide); replace h12 := slot_on e h12 (by decide); replace h57 := slot_on e h57 (by decide); replace h58 := slot_on e h58 (by decide); replace h59 := slot_on e h59 (by decide); replace h60 := slot_on e h60 (by decide); replace h61 := slot_on e h61 (by decide); replace h62 := slot_on e h62 (by decide); replace h63 := slot_on e h63 (by decide); replace h64 := slot_on e h64 (by decide); replace h65 := slot_on e h65 (by decide); replace h70 := slot_on e h70 (by decide); replace h71 := slot_on e h71 (by decide); replace h72 := slot_on e h72 (by decide); replace h73 := slot_on e h73 (by decide); replace h74 := slot_on e h74 (by decide); replace h75 := slot_on e h75 (by decide); replace h76 := slot_on e h76 (by decide); replace h77 := slot_on e h77 (by decide); replace h78 := slot_on e h78 (by decide); replace h79 := slot_on e h79 (by decide); replace h80 := slot_on e h80 (by decide); replace h81 := slot_on e h81 (by decide); replace h82 := slot_on e h82 (by decide); have h83 := g83; clear g83; clear e
      refine dr_end (by kernel_rfl) ?_
      clear K245 EK1 EK2 EK3 EK4 D247 D248 D249 D250 D251
      change (c8_57).wp _ _ _ _
      refine wp_cond_false (x := c8_58) (y := Code.skip) (eval_slot h83) ?_
      refine wp_skip ?_
      change (c8_62).wp _ _ _ _
      change (Code.region 19 O8_19 false).wp _ _ _ _
      refine reg_in (l := [0, 1]) rfl ?_
      have Y : (execOp a265.eval o8_19_0).run Try.prog w262 = .ok (.value (.int .i64 ((j : Int) + 1))) w262 := by unfold o8_19_0; go_simp
      refine st_val g8_19_0 rfl (wanted_free rfl) Y fun a267 e => ?_; clear Y
      have g84 := R.at_ e (by decide); replace R := R.put e; replace h0 := slot_on e h0 (by decide); replace h3 := slot_on e h3 (by decide); replace h4 := slot_on e h4 (by decide); replace h5 := slot_on e h5 (by decide); replace h7 := slot_on e h7 (by decide); replace h9 := slot_on e h9 (by decide); replace h11 := slot_on e h11 (by decide); replace h12 := slot_on e h12 (by decide); replace h57 := slot_on e h57 (by decide); replace h58 := slot_on e h58 (by decide); replace h59 := slot_on e h59 (by decide); replace h60 := slot_on e h60 (by decide); replace h61 := slot_on e h61 (by decide); replace h62 := slot_on e h62 (by decide); replace h63 := slot_on e h63 (by decide); replace h64 := slot_on e h64 (by decide); replace h65 := slot_on e h65 (by decide); replace h70 := slot_on e h70 (by decide); replace h71 := slot_on e h71 (by decide); replace h72 := slot_on e h72 (by decide); replace h73 := slot_on e h73 (by decide); replace h74 := slot_on e h74 (by decide); replace h75 := slot_on e h75 (by decide); replace h76 := slot_on e h76 (by decide); replace h77 := slot_on e h77 (by decide); replace h78 := slot_on e h78 (by decide); replace h79 := slot_on e h79 (by decide); replace h80 := slot_on e h80 (by decide); replace h81 := slot_on e h81 (by decide); replace h82 := slot_on e h82 (by decide); replace h83 := slot_on e h83 (by decide); have h84 := g84; clear g84; clear e
      have Y : (execOp a267.eval o8_19_1).run Try.prog w262 = .ok (.value (.int .i64 ((j : Int) + 1))) w262 := by unfold o8_19_1; go_simp
      refine st_val g8_19_1 rfl (wanted_free rfl) Y fun a269 e => ?_; clear Y
      have g58 := R.at_ e (by decide); replace R := R.put e; replace h0 := slot_on e h0 (by decide); replace h3 := slot_on e h3 (by decide); replace h4 := slot_on e h4 (by decide); replace h5 := slot_on e h5 (by decide); replace h7 := slot_on e h7 (by decide); replace h9 := slot_on e h9 (by decide); replace h11 := slot_on e h11 (by decide); replace h12 := slot_on e h12 (by decide); replace h57 := slot_on e h57 (by decide); replace h59 := slot_on e h59 (by decide); replace h60 := slot_on e h60 (by decide); replace h61 := slot_on e h61 (by decide); replace h62 := slot_on e h62 (by decide); replace h63 := slot_on e h63 (by decide); replace h64 := slot_on e h64 (by decide); replace h65 := slot_on e h65 (by decide); replace h70 := slot_on e h70 (by decide); replace h71 := slot_on e h71 (by decide); replace h72 := slot_on e h72 (by decide); replace h73 := slot_on e h73 (by decide); replace h74 := slot_on e h74 (by decide); replace h75 := slot_on e h75 (by decide); replace h76 := slot_on e h76 (by decide); replace h77 := slot_on e h77 (by decide); replace h78 := slot_on e h78 (by decide); replace h79 := slot_on e h79 (by decide); replace h80 := slot_on e h80 (by decide); replace h81 := slot_on e h81 (by decide); replace h82 := slot_on e h82 (by decide); replace h83 := slot_on e h83 (by decide); replace h84 := slot_on e h84 (by decide); clear h58; have h58 := g58; clear g58; clear e
      refine st_end ?_
      exact ⟨_, by omega, j + 1, rfl, R, h0, h3, h4, h5, h7, h9, h57, h58, K1, K2, K3, K4, B52, B76, B98, B116, (by omega)⟩
    | true =>
      have fb227 := hb227; clear hb227
      simp only [decide_eq_true_eq, decide_eq_false_iff_not, Bool.not_eq_true', Bool.not_eq_false', Bool.not_eq_eq_eq_not, Bool.not_true, Bool.not_false] at fb227
      refine wp_cond_true (x := c8_53) (y := c8_54) (eval_slot h65) ?_
      change (Code.region 15 O8_15 false).wp _ _ _ _
      refine reg_in (l := [0, 1, 2, 3, 4]) rfl ?_
      have Y : (execOp a228.eval o8_15_0).run Try.prog w220 = .ok (.value (.slice sa ps.length sc)) w220 := by unfold o8_15_0; go_simp
      refine st_val g8_15_0 rfl (wanted_free rfl) Y fun a271 e => ?_; clear Y
      have g66 := R.at_ e (by decide); replace R := R.put e; replace h0 := slot_on e h0 (by decide); replace h3 := slot_on e h3 (by decide); replace h4 := slot_on e h4 (by decide); replace h5 := slot_on e h5 (by decide); replace h7 := slot_on e h7 (by decide); replace h9 := slot_on e h9 (by decide); replace h11 := slot_on e h11 (by decide); replace h12 := slot_on e h12 (by decide); replace h57 := slot_on e h57 (by decide); replace h58 := slot_on e h58 (by decide); replace h59 := slot_on e h59 (by decide); replace h60 := slot_on e h60 (by decide); replace h61 := slot_on e h61 (by decide); replace h62 := slot_on e h62 (by decide); replace h63 := slot_on e h63 (by decide); replace h64 := slot_on e h64 (by decide); replace h65 := slot_on e h65 (by decide); have h66 := g66; clear g66; clear e
      have Y : (execOp a271.eval o8_15_1).run Try.prog w220 = .ok (.value (.int .i64 (j : Int))) w220 := by unfold o8_15_1; go_simp
      refine st_val g8_15_1 rfl (wanted_free rfl) Y fun a273 e => ?_; clear Y
      have g67 := R.at_ e (by decide); replace R := R.put e; replace h0 := slot_on e h0 (by decide); replace h3 := slot_on e h3 (by decide); replace h4 := slot_on e h4 (by decide); replace h5 := slot_on e h5 (by decide); replace h7 := slot_on e h7 (by decide); replace h9 := slot_on e h9 (by decide); replace h11 := slot_on e h11 (by decide); replace h12 := slot_on e h12 (by decide); replace h57 := slot_on e h57 (by decide); replace h58 := slot_on e h58 (by decide); replace h59 := slot_on e h59 (by decide); replace h60 := slot_on e h60 (by decide); replace h61 := slot_on e h61 (by decide); replace h62 := slot_on e h62 (by decide); replace h63 := slot_on e h63 (by decide); replace h64 := slot_on e h64 (by decide); replace h65 := slot_on e h65 (by decide); replace h66 := slot_on e h66 (by decide); have h67 := g67; clear g67; clear e
      obtain ⟨bA, obA, hsbA, -⟩ := tmsl_addr (tmsl_on HTS.out K1) (show j < ps.length by omega)
      have hltbA : (j : Int) < (ps.length : Int) := by omega
      have Y : (execOp a273.eval o8_15_2).run Try.prog w220 = .ok (.value (.pointer (some ⟨bA, obA + j * 4, none⟩))) w220 := by unfold o8_15_2; go_simp
      refine st_val g8_15_2 rfl (wanted_free rfl) Y fun a275 e => ?_; clear Y
      have g68 := R.at_ e (by decide); replace R := R.put e; replace h0 := slot_on e h0 (by decide); replace h3 := slot_on e h3 (by decide); replace h4 := slot_on e h4 (by decide); replace h5 := slot_on e h5 (by decide); replace h7 := slot_on e h7 (by decide); replace h9 := slot_on e h9 (by decide); replace h11 := slot_on e h11 (by decide); replace h12 := slot_on e h12 (by decide); replace h57 := slot_on e h57 (by decide); replace h58 := slot_on e h58 (by decide); replace h59 := slot_on e h59 (by decide); replace h60 := slot_on e h60 (by decide); replace h61 := slot_on e h61 (by decide); replace h62 := slot_on e h62 (by decide); replace h63 := slot_on e h63 (by decide); replace h64 := slot_on e h64 (by decide); replace h65 := slot_on e h65 (by decide); replace h66 := slot_on e h66 (by decide); replace h67 := slot_on e h67 (by decide); have h68 := g68; clear g68; clear e
      obtain ⟨pA, hpA⟩ : ∃ p, ps[j]? = some p := ⟨_, List.getElem?_eq_getElem (by omega)⟩
      have Y : (execOp a275.eval o8_15_3).run Try.prog w220 = .ok (.value (.agg #[.int .i64 pA.1.k, .string (str pA.1.nm), .int .i64 pA.1.i, .slice pA.2.1 pA.1.args.length pA.2.2])) w220 := by obtain ⟨⟨c0, c1, c2, c3⟩, -⟩ := tmsl_at (tmsl_on HTS.out K1) hsbA hpA; unfold o8_15_3; go_simp
      refine st_val g8_15_3 rfl (wanted_free rfl) Y fun a277 e => ?_; clear Y
      have g69 := R.at_ e (by decide); replace R := R.put e; replace h0 := slot_on e h0 (by decide); replace h3 := slot_on e h3 (by decide); replace h4 := slot_on e h4 (by decide); replace h5 := slot_on e h5 (by decide); replace h7 := slot_on e h7 (by decide); replace h9 := slot_on e h9 (by decide); replace h11 := slot_on e h11 (by decide); replace h12 := slot_on e h12 (by decide); replace h57 := slot_on e h57 (by decide); replace h58 := slot_on e h58 (by decide); replace h59 := slot_on e h59 (by decide); replace h60 := slot_on e h60 (by decide); replace h61 := slot_on e h61 (by decide); replace h62 := slot_on e h62 (by decide); replace h63 := slot_on e h63 (by decide); replace h64 := slot_on e h64 (by decide); replace h65 := slot_on e h65 (by decide); replace h66 := slot_on e h66 (by decide); replace h67 := slot_on e h67 (by decide); replace h68 := slot_on e h68 (by decide); have h69 := g69; clear g69; clear e
      have Y : (execOp a277.eval o8_15_4).run Try.prog w220 = .ok .skip ((((w220.setCell ⟨b216, 0, none⟩ (.int .i64 pA.1.k)).setCell ⟨b216, 1, none⟩ (.string (str pA.1.nm))).setCell ⟨b216, 2, none⟩ (.int .i64 pA.1.i)).setCell ⟨b216, 3, none⟩ (.slice pA.2.1 pA.1.args.length pA.2.2)) := by have qq0 : w220.cell? ⟨b216, 0, none⟩ = some (.int .i64 0) := B216.cell 0; have qq1 : w220.cell? ⟨b216, 1, none⟩ = some (.string (⟨#[]⟩)) := B216.cell 1; have qq2 : w220.cell? ⟨b216, 2, none⟩ = some (.int .i64 0) := B216.cell 2; have qq3 : w220.cell? ⟨b216, 3, none⟩ = some (.slice none 0 0) := B216.cell 3; have z0 := B216.frozen 0; have z1 := B216.frozen 1; have z2 := B216.frozen 2; have z3 := B216.frozen 3; unfold o8_15_4; go_simp
      replace K1 := ((((K1.setCell (p := ⟨b216, 0, none⟩) (Nat.not_lt.2 LK1_b216) (.int .i64 pA.1.k)).setCell (p := ⟨b216, 1, none⟩) (Nat.not_lt.2 LK1_b216) (.string (str pA.1.nm))).setCell (p := ⟨b216, 2, none⟩) (Nat.not_lt.2 LK1_b216) (.int .i64 pA.1.i)).setCell (p := ⟨b216, 3, none⟩) (Nat.not_lt.2 LK1_b216) (.slice pA.2.1 pA.1.args.length pA.2.2))
      replace K2 := ((((K2.setCell (p := ⟨b216, 0, none⟩) (Nat.not_lt.2 LK2_b216) (.int .i64 pA.1.k)).setCell (p := ⟨b216, 1, none⟩) (Nat.not_lt.2 LK2_b216) (.string (str pA.1.nm))).setCell (p := ⟨b216, 2, none⟩) (Nat.not_lt.2 LK2_b216) (.int .i64 pA.1.i)).setCell (p := ⟨b216, 3, none⟩) (Nat.not_lt.2 LK2_b216) (.slice pA.2.1 pA.1.args.length pA.2.2))
      replace K3 := ((((K3.setCell (p := ⟨b216, 0, none⟩) (Nat.not_lt.2 LK3_b216) (.int .i64 pA.1.k)).setCell (p := ⟨b216, 1, none⟩) (Nat.not_lt.2 LK3_b216) (.string (str pA.1.nm))).setCell (p := ⟨b216, 2, none⟩) (Nat.not_lt.2 LK3_b216) (.int .i64 pA.1.i)).setCell (p := ⟨b216, 3, none⟩) (Nat.not_lt.2 LK3_b216) (.slice pA.2.1 pA.1.args.length pA.2.2))
      replace K4 := ((((K4.setCell (p := ⟨b216, 0, none⟩) (Nat.not_lt.2 LK4_b216) (.int .i64 pA.1.k)).setCell (p := ⟨b216, 1, none⟩) (Nat.not_lt.2 LK4_b216) (.string (str pA.1.nm))).setCell (p := ⟨b216, 2, none⟩) (Nat.not_lt.2 LK4_b216) (.int .i64 pA.1.i)).setCell (p := ⟨b216, 3, none⟩) (Nat.not_lt.2 LK4_b216) (.slice pA.2.1 pA.1.args.length pA.2.2))
      replace B52 := ((((B52.far (p := ⟨b216, 0, none⟩) Nb52_b216 (.int .i64 pA.1.k)).far (p := ⟨b216, 1, none⟩) Nb52_b216 (.string (str pA.1.nm))).far (p := ⟨b216, 2, none⟩) Nb52_b216 (.int .i64 pA.1.i)).far (p := ⟨b216, 3, none⟩) Nb52_b216 (.slice pA.2.1 pA.1.args.length pA.2.2))
      replace B76 := ((((B76.far (p := ⟨b216, 0, none⟩) Nb76_b216 (.int .i64 pA.1.k)).far (p := ⟨b216, 1, none⟩) Nb76_b216 (.string (str pA.1.nm))).far (p := ⟨b216, 2, none⟩) Nb76_b216 (.int .i64 pA.1.i)).far (p := ⟨b216, 3, none⟩) Nb76_b216 (.slice pA.2.1 pA.1.args.length pA.2.2))
      replace B98 := ((((B98.far (p := ⟨b216, 0, none⟩) Nb98_b216 (.int .i64 pA.1.k)).far (p := ⟨b216, 1, none⟩) Nb98_b216 (.string (str pA.1.nm))).far (p := ⟨b216, 2, none⟩) Nb98_b216 (.int .i64 pA.1.i)).far (p := ⟨b216, 3, none⟩) Nb98_b216 (.slice pA.2.1 pA.1.args.length pA.2.2))
      replace B116 := ((((B116.far (p := ⟨b216, 0, none⟩) Nb116_b216 (.int .i64 pA.1.k)).far (p := ⟨b216, 1, none⟩) Nb116_b216 (.string (str pA.1.nm))).far (p := ⟨b216, 2, none⟩) Nb116_b216 (.int .i64 pA.1.i)).far (p := ⟨b216, 3, none⟩) Nb116_b216 (.slice pA.2.1 pA.1.args.length pA.2.2))
      replace B216 : Blk ((((w220.setCell ⟨b216, 0, none⟩ (.int .i64 pA.1.k)).setCell ⟨b216, 1, none⟩ (.string (str pA.1.nm))).setCell ⟨b216, 2, none⟩ (.int .i64 pA.1.i)).setCell ⟨b216, 3, none⟩ (.slice pA.2.1 pA.1.args.length pA.2.2)) b216 24 #[.int .i64 pA.1.k, .string (str pA.1.nm), .int .i64 pA.1.i, .slice pA.2.1 pA.1.args.length pA.2.2] := ((((B216.set_ 0 (.int .i64 pA.1.k)).set_ 1 (.string (str pA.1.nm))).set_ 2 (.int .i64 pA.1.i)).set_ 3 (.slice pA.2.1 pA.1.args.length pA.2.2))
      generalize ((((w220.setCell ⟨b216, 0, none⟩ (.int .i64 pA.1.k)).setCell ⟨b216, 1, none⟩ (.string (str pA.1.nm))).setCell ⟨b216, 2, none⟩ (.int .i64 pA.1.i)).setCell ⟨b216, 3, none⟩ (.slice pA.2.1 pA.1.args.length pA.2.2)) = w279 at Y K1 K2 K3 K4 B52 B76 B98 B116 B216
      refine st_skip g8_15_4 rfl (wanted_free rfl) Y ?_; clear Y
      refine st_end ?_
      change (c8_55).wp _ _ _ _
      refine wp_seq (x := c8_56) (y := c8_57) ?_
      change (Code.region 17 O8_17 true).wp _ _ _ _
      have D282 := B52
      have D283 := B76
      have D284 := B98
      have D285 := B116
      have D286 := B216
      have K280 := (Keep.refl (fun g => g < w279.heap.size) w279).drew
      have EK1 := K1
      have EK2 := K2
      have EK3 := K3
      have EK4 := K4
      refine dr_in (S := (fun W => Keep (fun g => g < w279.heap.size) w279 W)) (n := 7) (l := #[false, false, false, false, false, false, false]) (by kernel_rfl) K280 rfl rfl ?_
      replace K1 := K1.drew
      replace K2 := K2.drew
      replace K3 := K3.drew
      replace K4 := K4.drew
      replace B52 := B52.drew
      replace B76 := B76.drew
      replace B98 := B98.drew
      replace B116 := B116.drew
      replace B216 := B216.drew
      generalize w279.drew = w281 at K280 K1 K2 K3 K4 B52 B76 B98 B116 B216 ⊢
      have Y : ∀ W, Keep (fun g => g < w279.heap.size) w279 W → (execOp a277.eval o8_17_0).run Try.prog W = .ok (.value (.slice s2 ps2.length k2)) W := by intro W7 hS; unfold o8_17_0; go_simp
      refine dr_take (i := 0) (fuel := 6) (l' := #[true, false, false, false, false, false, false]) g8_17_0 rfl ns8_17 (by kernel_rfl) (by kernel_rfl) rfl (wanted_free rfl) K280 Y fun a287 e => ?_; clear Y
      have g77 := R.at_ e (by decide); replace R := R.put e; replace h0 := slot_on e h0 (by decide); replace h3 := slot_on e h3 (by decide); replace h4 := slot_on e h4 (by decide); replace h5 := slot_on e h5 (by decide); replace h7 := slot_on e h7 (by decide); replace h9 := slot_on e h9 (by decide); replace h11 := slot_on e h11 (by decide); replace h12 := slot_on e h12 (by decide); replace h57 := slot_on e h57 (by decide); replace h58 := slot_on e h58 (by decide); replace h59 := slot_on e h59 (by decide); replace h60 := slot_on e h60 (by decide); replace h61 := slot_on e h61 (by decide); replace h62 := slot_on e h62 (by decide); replace h63 := slot_on e h63 (by decide); replace h64 := slot_on e h64 (by decide); replace h65 := slot_on e h65 (by decide); replace h66 := slot_on e h66 (by decide); replace h67 := slot_on e h67 (by decide); replace h68 := slot_on e h68 (by decide); replace h69 := slot_on e h69 (by decide); have h77 := g77; clear g77; clear e
      have Y : ∀ W, Keep (fun g => g < w279.heap.size) w279 W → (execOp a287.eval o8_17_1).run Try.prog W = .ok (.value (.int .i64 (j : Int))) W := by intro W7 hS; unfold o8_17_1; go_simp
      refine dr_take (i := 1) (fuel := 5) (l' := #[true, true, false, false, false, false, false]) g8_17_1 rfl ns8_17 (by kernel_rfl) (by kernel_rfl) rfl (wanted_free rfl) K280 Y fun a289 e => ?_; clear Y
      have g78 := R.at_ e (by decide); replace R := R.put e; replace h0 := slot_on e h0 (by decide); replace h3 := slot_on e h3 (by decide); replace h4 := slot_on e h4 (by decide); replace h5 := slot_on e h5 (by decide); replace h7 := slot_on e h7 (by decide); replace h9 := slot_on e h9 (by decide); replace h11 := slot_on e h11 (by decide); replace h12 := slot_on e h12 (by decide); replace h57 := slot_on e h57 (by decide); replace h58 := slot_on e h58 (by decide); replace h59 := slot_on e h59 (by decide); replace h60 := slot_on e h60 (by decide); replace h61 := slot_on e h61 (by decide); replace h62 := slot_on e h62 (by decide); replace h63 := slot_on e h63 (by decide); replace h64 := slot_on e h64 (by decide); replace h65 := slot_on e h65 (by decide); replace h66 := slot_on e h66 (by decide); replace h67 := slot_on e h67 (by decide); replace h68 := slot_on e h68 (by decide); replace h69 := slot_on e h69 (by decide); replace h77 := slot_on e h77 (by decide); have h78 := g78; clear g78; clear e
      have Y : ∀ W, Keep (fun g => g < w279.heap.size) w279 W → (execOp a289.eval o8_17_4).run Try.prog W = .ok (.value (.agg #[.int .i64 pA.1.k, .string (str pA.1.nm), .int .i64 pA.1.i, .slice pA.2.1 pA.1.args.length pA.2.2])) W := by intro W7 hS; have D := D286.keep hS D286.lt; have qq0 : W7.cell? ⟨b216, 0, none⟩ = some (.int .i64 pA.1.k) := D.cell 0; have qq1 : W7.cell? ⟨b216, 1, none⟩ = some (.string (str pA.1.nm)) := D.cell 1; have qq2 : W7.cell? ⟨b216, 2, none⟩ = some (.int .i64 pA.1.i) := D.cell 2; have qq3 : W7.cell? ⟨b216, 3, none⟩ = some (.slice pA.2.1 pA.1.args.length pA.2.2) := D.cell 3; unfold o8_17_4; go_simp
      refine dr_take (i := 4) (fuel := 4) (l' := #[true, true, false, false, true, false, false]) g8_17_4 rfl ns8_17 (by kernel_rfl) (by kernel_rfl) rfl (wanted_free rfl) K280 Y fun a291 e => ?_; clear Y
      have g81 := R.at_ e (by decide); replace R := R.put e; replace h0 := slot_on e h0 (by decide); replace h3 := slot_on e h3 (by decide); replace h4 := slot_on e h4 (by decide); replace h5 := slot_on e h5 (by decide); replace h7 := slot_on e h7 (by decide); replace h9 := slot_on e h9 (by decide); replace h11 := slot_on e h11 (by decide); replace h12 := slot_on e h12 (by decide); replace h57 := slot_on e h57 (by decide); replace h58 := slot_on e h58 (by decide); replace h59 := slot_on e h59 (by decide); replace h60 := slot_on e h60 (by decide); replace h61 := slot_on e h61 (by decide); replace h62 := slot_on e h62 (by decide); replace h63 := slot_on e h63 (by decide); replace h64 := slot_on e h64 (by decide); replace h65 := slot_on e h65 (by decide); replace h66 := slot_on e h66 (by decide); replace h67 := slot_on e h67 (by decide); replace h68 := slot_on e h68 (by decide); replace h69 := slot_on e h69 (by decide); replace h77 := slot_on e h77 (by decide); replace h78 := slot_on e h78 (by decide); have h81 := g81; clear g81; clear e
      refine dr_only (i := 2) (fuel := 3) (by kernel_rfl) ?_
      obtain ⟨bC, obC, hsbC, -⟩ := tmsl_addr (tmsl_on H2.out.1 K4) (show j < ps2.length by omega)
      have hltbC : (j : Int) < (ps2.length : Int) := by omega
      have Y : (execOp a291.eval o8_17_2).run Try.prog w281 = .ok (.value (.pointer (some ⟨bC, obC + j * 4, none⟩))) w281 := by unfold o8_17_2; go_simp
      refine dr_val (l' := #[true, true, true, false, true, false, false]) g8_17_2 rfl rfl (wanted_free rfl) Y K280 fun a293 e => ?_; clear Y
      have g79 := R.at_ e (by decide); replace R := R.put e; replace h0 := slot_on e h0 (by decide); replace h3 := slot_on e h3 (by decide); replace h4 := slot_on e h4 (by decide); replace h5 := slot_on e h5 (by decide); replace h7 := slot_on e h7 (by decide); replace h9 := slot_on e h9 (by decide); replace h11 := slot_on e h11 (by decide); replace h12 := slot_on e h12 (by decide); replace h57 := slot_on e h57 (by decide); replace h58 := slot_on e h58 (by decide); replace h59 := slot_on e h59 (by decide); replace h60 := slot_on e h60 (by decide); replace h61 := slot_on e h61 (by decide); replace h62 := slot_on e h62 (by decide); replace h63 := slot_on e h63 (by decide); replace h64 := slot_on e h64 (by decide); replace h65 := slot_on e h65 (by decide); replace h66 := slot_on e h66 (by decide); replace h67 := slot_on e h67 (by decide); replace h68 := slot_on e h68 (by decide); replace h69 := slot_on e h69 (by decide); replace h77 := slot_on e h77 (by decide); replace h78 := slot_on e h78 (by decide); replace h81 := slot_on e h81 (by decide); have h79 := g79; clear g79; clear e
      obtain ⟨pC, hpC⟩ : ∃ p, ps2[j]? = some p := ⟨_, List.getElem?_eq_getElem (by omega)⟩
      have Y : ∀ W, Keep (fun g => g < w279.heap.size) w279 W → (execOp a293.eval o8_17_3).run Try.prog W = .ok (.value (.agg #[.int .i64 pC.1.k, .string (str pC.1.nm), .int .i64 pC.1.i, .slice pC.2.1 pC.1.args.length pC.2.2])) W := by intro W7 hS; obtain ⟨⟨c0, c1, c2, c3⟩, -⟩ := tmsl_at (tmsl_on H2.out.1 (keep_onto EK4 hS)) hsbC hpC; unfold o8_17_3; go_simp
      refine dr_take (i := 3) (fuel := 2) (l' := #[true, true, true, true, true, false, false]) g8_17_3 rfl ns8_17 (by kernel_rfl) (by kernel_rfl) rfl (wanted_free rfl) K280 Y fun a295 e => ?_; clear Y
      have g80 := R.at_ e (by decide); replace R := R.put e; replace h0 := slot_on e h0 (by decide); replace h3 := slot_on e h3 (by decide); replace h4 := slot_on e h4 (by decide); replace h5 := slot_on e h5 (by decide); replace h7 := slot_on e h7 (by decide); replace h9 := slot_on e h9 (by decide); replace h11 := slot_on e h11 (by decide); replace h12 := slot_on e h12 (by decide); replace h57 := slot_on e h57 (by decide); replace h58 := slot_on e h58 (by decide); replace h59 := slot_on e h59 (by decide); replace h60 := slot_on e h60 (by decide); replace h61 := slot_on e h61 (by decide); replace h62 := slot_on e h62 (by decide); replace h63 := slot_on e h63 (by decide); replace h64 := slot_on e h64 (by decide); replace h65 := slot_on e h65 (by decide); replace h66 := slot_on e h66 (by decide); replace h67 := slot_on e h67 (by decide); replace h68 := slot_on e h68 (by decide); replace h69 := slot_on e h69 (by decide); replace h77 := slot_on e h77 (by decide); replace h78 := slot_on e h78 (by decide); replace h79 := slot_on e h79 (by decide); replace h81 := slot_on e h81 (by decide); have h80 := g80; clear g80; clear e
      refine dr_only (i := 5) (fuel := 1) (by kernel_rfl) ?_
      have Y : (execOp a295.eval o8_17_5).run Try.prog w281 = .ok (.enter 19 #[.agg #[.int .i64 pC.1.k, .string (str pC.1.nm), .int .i64 pC.1.i, .slice pC.2.1 pC.1.args.length pC.2.2], .agg #[.int .i64 pA.1.k, .string (str pA.1.nm), .int .i64 pA.1.i, .slice pA.2.1 pA.1.args.length pA.2.2]]) w281 := by unfold o8_17_5; go_simp
      refine dr_call (l' := #[true, true, true, true, true, true, false]) g8_17_5 rfl rfl (wanted_free rfl) Y ((same_sx (z := true) (tmsl_at (tmsl_on H2.out.1 K4) hsbC hpC).2 (tmsl_at (tmsl_on HTS.out K1) hsbA hpA).2 (HP1.out j pA pC hpA hpC)).mono ?_); clear Y
      rintro e9 w297 ⟨rfl, kk⟩
      replace K1 := keep_onto K1 kk
      replace K2 := keep_onto K2 kk
      replace K3 := keep_onto K3 kk
      replace K4 := keep_onto K4 kk
      replace K280 := keep_onto K280 kk
      replace B52 := blk_on B52 kk
      replace B76 := blk_on B76 kk
      replace B98 := blk_on B98 kk
      replace B116 := blk_on B116 kk
      replace B216 := blk_on B216 kk
      clear kk
      refine ⟨_, rfl, K280, fun a298 e => ?_⟩
      have g82 := R.at_ e (by decide); replace R := R.put e; replace h0 := slot_on e h0 (by decide); replace h3 := slot_on e h3 (by decide); replace h4 := slot_on e h4 (by decide); replace h5 := slot_on e h5 (by decide); replace h7 := slot_on e h7 (by decide); replace h9 := slot_on e h9 (by decide); replace h11 := slot_on e h11 (by decide); replace h12 := slot_on e h12 (by decide); replace h57 := slot_on e h57 (by decide); replace h58 := slot_on e h58 (by decide); replace h59 := slot_on e h59 (by decide); replace h60 := slot_on e h60 (by decide); replace h61 := slot_on e h61 (by decide); replace h62 := slot_on e h62 (by decide); replace h63 := slot_on e h63 (by decide); replace h64 := slot_on e h64 (by decide); replace h65 := slot_on e h65 (by decide); replace h66 := slot_on e h66 (by decide); replace h67 := slot_on e h67 (by decide); replace h68 := slot_on e h68 (by decide); replace h69 := slot_on e h69 (by decide); replace h77 := slot_on e h77 (by decide); replace h78 := slot_on e h78 (by decide); replace h79 := slot_on e h79 (by decide); replace h80 := slot_on e h80 (by decide); replace h81 := slot_on e h81 (by decide); have h82 := g82; clear g82; clear e
      have Y : ∀ W, Keep (fun g => g < w279.heap.size) w279 W → (execOp a298.eval o8_17_6).run Try.prog W = .ok (.value (.bool false)) W := by intro W7 hS; unfold o8_17_6; go_simp
      refine dr_take (i := 6) (fuel := 0) (l' := #[true, true, true, true, true, true, true]) g8_17_6 rfl ns8_17 (by kernel_rfl) (by kernel_rfl) rfl (wanted_free rfl) K280 Y fun a300 e => ?_; clear Y
      have g83 := R.at_ e (by decide); replace R := R.put e; replace h0 := slot_on e h0 (by decide); replace h3 := slot_on e h3 (by decide); replace h4 := slot_on e h4 (by decide); replace h5 := slot_on e h5 (by decide); replace h7 := slot_on e h7 (by decide); replace h9 := slot_on e h9 (by decide); replace h11 := slot_on e h11 (by decide); replace h12 := slot_on e h12 (by decide); replace h57 := slot_on e h57 (by decide); replace h58 := slot_on e h58 (by decide); replace h59 := slot_on e h59 (by decide); replace h60 := slot_on e h60 (by decide); replace h61 := slot_on e h61 (by decide); replace h62 := slot_on e h62 (by decide); replace h63 := slot_on e h63 (by decide); replace h64 := slot_on e h64 (by decide); replace h65 := slot_on e h65 (by decide); replace h66 := slot_on e h66 (by decide); replace h67 := slot_on e h67 (by decide); replace h68 := slot_on e h68 (by decide); replace h69 := slot_on e h69 (by decide); replace h77 := slot_on e h77 (by decide); replace h78 := slot_on e h78 (by decide); replace h79 := slot_on e h79 (by decide); replace h80 := slot_on e h80 (by decide); replace h81 := slot_on e h81 (by decide); replace h82 := slot_on e h82 (by decide); have h83 := g83; clear g83; clear e
      refine dr_end (by kernel_rfl) ?_
      clear K280 EK1 EK2 EK3 EK4 D282 D283 D284 D285 D286
      change (c8_57).wp _ _ _ _
      refine wp_cond_false (x := c8_58) (y := Code.skip) (eval_slot h83) ?_
      refine wp_skip ?_
      change (c8_62).wp _ _ _ _
      change (Code.region 19 O8_19 false).wp _ _ _ _
      refine reg_in (l := [0, 1]) rfl ?_
      have Y : (execOp a300.eval o8_19_0).run Try.prog w297 = .ok (.value (.int .i64 ((j : Int) + 1))) w297 := by unfold o8_19_0; go_simp
      refine st_val g8_19_0 rfl (wanted_free rfl) Y fun a302 e => ?_; clear Y
      have g84 := R.at_ e (by decide); replace R := R.put e; replace h0 := slot_on e h0 (by decide); replace h3 := slot_on e h3 (by decide); replace h4 := slot_on e h4 (by decide); replace h5 := slot_on e h5 (by decide); replace h7 := slot_on e h7 (by decide); replace h9 := slot_on e h9 (by decide); replace h11 := slot_on e h11 (by decide); replace h12 := slot_on e h12 (by decide); replace h57 := slot_on e h57 (by decide); replace h58 := slot_on e h58 (by decide); replace h59 := slot_on e h59 (by decide); replace h60 := slot_on e h60 (by decide); replace h61 := slot_on e h61 (by decide); replace h62 := slot_on e h62 (by decide); replace h63 := slot_on e h63 (by decide); replace h64 := slot_on e h64 (by decide); replace h65 := slot_on e h65 (by decide); replace h66 := slot_on e h66 (by decide); replace h67 := slot_on e h67 (by decide); replace h68 := slot_on e h68 (by decide); replace h69 := slot_on e h69 (by decide); replace h77 := slot_on e h77 (by decide); replace h78 := slot_on e h78 (by decide); replace h79 := slot_on e h79 (by decide); replace h80 := slot_on e h80 (by decide); replace h81 := slot_on e h81 (by decide); replace h82 := slot_on e h82 (by decide); replace h83 := slot_on e h83 (by decide); have h84 := g84; clear g84; clear e
      have Y : (execOp a302.eval o8_19_1).run Try.prog w297 = .ok (.value (.int .i64 ((j : Int) + 1))) w297 := by unfold o8_19_1; go_simp
      refine st_val g8_19_1 rfl (wanted_free rfl) Y fun a304 e => ?_; clear Y
      have g58 := R.at_ e (by decide); replace R := R.put e; replace h0 := slot_on e h0 (by decide); replace h3 := slot_on e h3 (by decide); replace h4 := slot_on e h4 (by decide); replace h5 := slot_on e h5 (by decide); replace h7 := slot_on e h7 (by decide); replace h9 := slot_on e h9 (by decide); replace h11 := slot_on e h11 (by decide); replace h12 := slot_on e h12 (by decide); replace h57 := slot_on e h57 (by decide); replace h59 := slot_on e h59 (by decide); replace h60 := slot_on e h60 (by decide); replace h61 := slot_on e h61 (by decide); replace h62 := slot_on e h62 (by decide); replace h63 := slot_on e h63 (by decide); replace h64 := slot_on e h64 (by decide); replace h65 := slot_on e h65 (by decide); replace h66 := slot_on e h66 (by decide); replace h67 := slot_on e h67 (by decide); replace h68 := slot_on e h68 (by decide); replace h69 := slot_on e h69 (by decide); replace h77 := slot_on e h77 (by decide); replace h78 := slot_on e h78 (by decide); replace h79 := slot_on e h79 (by decide); replace h80 := slot_on e h80 (by decide); replace h81 := slot_on e h81 (by decide); replace h82 := slot_on e h82 (by decide); replace h83 := slot_on e h83 (by decide); replace h84 := slot_on e h84 (by decide); clear h58; have h58 := g58; clear g58; clear e
      refine st_end ?_
      exact ⟨_, by omega, j + 1, rfl, R, h0, h3, h4, h5, h7, h9, h57, h58, K1, K2, K3, K4, B52, B76, B98, B116, (by omega)⟩


theorem lists_walk {W : World} {ps : List TP} {sa : Option Addr} {sc : Nat} {u : Tm} {ua : Option Addr} {uc : Nat} (hS : TmSl W.heap.size W sa ps) (hlen : ps.length ≤ 2305843009213693951) (hin : ∀ g off, sa = some ⟨g, off, none⟩ → g < W.heap.size) (hT : TmAt W.heap.size W u ua uc) :
    Calls Try.prog 8 #[.slice sa ps.length sc, tv u ua uc] W fun e w' => e = .returned (.bool true) ∧ Keep (fun g => g < W.heap.size) W w' := by
  refine enter_sx Try.func8 body8 rfl (by show (2 : Nat) ≤ 102; decide) fun f0 R hs => ?_
  have h0 := hs 0 _ rfl
  have h1 := hs 1 _ rfl
  have K1 := Keep.refl (fun g => g < W.heap.size) W
  obtain ⟨x, e, hl⟩ : ∃ x e, lsV (ps.map (·.1)) u = (x, e) := ⟨_, _, rfl⟩
  rcases lists_facts hl with ⟨rfl, hk⟩ | ⟨rfl, p1, p2, p3, p4, p5, p6, p7, p8, p9, p10⟩
  · exact lw_f R h0 h1 K1 (Lib.hid hT) (Lib.hid hS) (Lib.hid hlen) (Lib.hid hin) (Lib.hid hl) (Lib.hid hk)
  · have hI : (itV x).1.length ≤ 100 := by
      have hd := (right_of.1 p4).2.2
      have hT := Tm.tree_right (right_of.1 p4)
      rw [itV, if_pos p4]
      show (x.tree.items.1.map T.tm).length ≤ 100
      rw [List.length_map]
      exact Nat.le_trans (itF_len _ _) hT.2.2
    exact lw_t R h0 h1 K1 (Lib.hid hT) (Lib.hid hS) (Lib.hid hlen) (Lib.hid hin) (Lib.hid hl) (Lib.hid p5) (Lib.hid p2) (Lib.hid hI) (Lib.hid ⟨p6, p7, p3, ⟨p8, p9⟩, p10⟩)
end Go.Proofs.Ytaaodgkbopficaa
