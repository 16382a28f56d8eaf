/-
  The law of counts: walked with letter frames. No condition but where the terms lie.
-/
import Derived.Test.YtaaodgkbopficaaSx4
import Derived.Test.YtaaodgkbopficaaTp4
import Derived.Test.YtaaodgkbopficaaTr1
namespace Go.Proofs.Ytaaodgkbopficaa
open Go.RowKit Go.Maps
set_option linter.unusedVariables false
set_option linter.unusedSimpArgs false

def o10_0_0 : Oper := { dst := some 5, op := Go.Op.box 24 (Go.Operand.tmp 2), type := 0, pos := "law.go:307", after := #[], guard := none }
def o10_0_1 : Oper := { dst := some 6, op := Go.Op.assign (Go.Operand.const (Go.Value.bool false)), type := 4, pos := "law.go:307", after := #[], guard := none }
def O10_0 : Array Oper := List.toArray (o10_0_0 :: o10_0_1 :: [])
theorem g10_0_0 : O10_0[0]? = some o10_0_0 := rfl
theorem g10_0_1 : O10_0[1]? = some o10_0_1 := rfl
def c10_1 : Code := Code.region 0 O10_0 false
def o10_1_0 : Oper := { dst := some 17, op := Go.Op.call { callee := Go.Callee.value (Go.Operand.func 13), args := #[], argTypes := #[] }, type := 4, pos := "law.go:308", after := #[], guard := none }
def o10_1_1 : Oper := { dst := some 18, op := Go.Op.unOp Go.UnOp.not 4 (Go.Operand.tmp 17), type := 4, pos := "law.go:308", after := #[{ on := 0, ground := Go.Ground.data }], guard := none }
def O10_1 : Array Oper := List.toArray (o10_1_0 :: o10_1_1 :: [])
theorem g10_1_0 : O10_1[0]? = some o10_1_0 := rfl
theorem g10_1_1 : O10_1[1]? = some o10_1_1 := rfl
def c10_4 : Code := Code.region 1 O10_1 false
def o10_2_0 : Oper := { dst := some 6, op := Go.Op.assign (Go.Operand.const (Go.Value.bool false)), type := 4, pos := "law.go:309", after := #[], guard := none }
def O10_2 : Array Oper := List.toArray (o10_2_0 :: [])
theorem g10_2_0 : O10_2[0]? = some o10_2_0 := rfl
def c10_7 : Code := Code.region 2 O10_2 false
def c10_6 : Code := Code.seq c10_7 Code.ret
def c10_5 : Code := Code.cond (Go.Operand.tmp 18) c10_6 Code.skip
def c10_3 : Code := Code.seq c10_4 c10_5
def o10_3_0 : Oper := { dst := some 19, op := Go.Op.move (Go.Operand.tmp 0), type := 9, pos := "law.go:311", after := #[], guard := none }
def o10_3_1 : Oper := { dst := some 20, op := Go.Op.move (Go.Operand.tmp 1), type := 22, pos := "law.go:311", after := #[], guard := none }
def o10_3_2 : Oper := { dst := some 21, op := Go.Op.build 24 #[(0, Go.Operand.const (Go.Value.int Go.IntKind.i64 4)), (1, Go.Operand.tmp 19), (3, Go.Operand.tmp 20)], type := 24, pos := "law.go:311", after := #[{ on := 0, ground := Go.Ground.data }, { on := 1, ground := Go.Ground.data }], guard := none }
def o10_3_3 : Oper := { dst := some 7, op := Go.Op.alloc 24, type := 0, pos := "law.go:311", after := #[], guard := none }
def o10_3_4 : Oper := { dst := none, op := Go.Op.store 24 (Go.Operand.tmp 7) (Go.Operand.tmp 21), type := 0, pos := "law.go:311", after := #[{ on := 3, ground := Go.Ground.data }, { on := 2, ground := Go.Ground.data }, { on := 0, ground := Go.Ground.phase }, { on := 1, ground := Go.Ground.phase }, { on := 2, ground := Go.Ground.phase }, { on := 3, ground := Go.Ground.phase }], guard := none }
def O10_3 : Array Oper := List.toArray (o10_3_0 :: o10_3_1 :: o10_3_2 :: o10_3_3 :: o10_3_4 :: [])
theorem g10_3_0 : O10_3[0]? = some o10_3_0 := rfl
theorem g10_3_1 : O10_3[1]? = some o10_3_1 := rfl
theorem g10_3_2 : O10_3[2]? = some o10_3_2 := rfl
theorem g10_3_3 : O10_3[3]? = some o10_3_3 := rfl
theorem g10_3_4 : O10_3[4]? = some o10_3_4 := rfl
def c10_11 : Code := Code.region 3 O10_3 false
def o10_4_0 : Oper := { dst := some 22, op := Go.Op.load 24 (Go.Operand.tmp 7), type := 24, pos := "law.go:312", after := #[], guard := none }
def o10_4_1 : Oper := { dst := some 23, op := Go.Op.call { callee := Go.Callee.value (Go.Operand.func 15), args := #[Go.Operand.tmp 22], argTypes := #[24] }, type := 27, pos := "law.go:312", after := #[{ on := 0, ground := Go.Ground.data }], guard := none }
def o10_4_2 : Oper := { dst := some 24, op := Go.Op.binOp Go.BinOp.neq 27 (Go.Operand.tmp 23) (Go.Operand.const (Go.Value.int Go.IntKind.i64 0)) 27, type := 4, pos := "law.go:312", after := #[{ on := 1, ground := Go.Ground.data }], guard := none }
def O10_4 : Array Oper := List.toArray (o10_4_0 :: o10_4_1 :: o10_4_2 :: [])
theorem g10_4_0 : O10_4[0]? = some o10_4_0 := rfl
theorem g10_4_1 : O10_4[1]? = some o10_4_1 := rfl
theorem g10_4_2 : O10_4[2]? = some o10_4_2 := rfl
def c10_14 : Code := Code.region 4 O10_4 false
def o10_5_0 : Oper := { dst := some 25, op := Go.Op.load 24 (Go.Operand.tmp 7), type := 24, pos := "law.go:313", after := #[], guard := none }
def o10_5_1 : Oper := { dst := some 26, op := Go.Op.call { callee := Go.Callee.value (Go.Operand.func 16), args := #[Go.Operand.tmp 25], argTypes := #[24] }, type := 3, pos := "law.go:313", after := #[{ on := 0, ground := Go.Ground.data }], guard := none }
def o10_5_2 : Oper := { dst := some 27, op := Go.Op.binOp Go.BinOp.eql 3 (Go.Operand.tmp 26) (Go.Operand.const (Go.Value.int Go.IntKind.i64 0)) 3, type := 4, pos := "law.go:313", after := #[{ on := 1, ground := Go.Ground.data }], guard := none }
def o10_5_3 : Oper := { dst := some 28, op := Go.Op.move (Go.Operand.tmp 27), type := 4, pos := "law.go:313", after := #[{ on := 2, ground := Go.Ground.data }, { on := 1, ground := Go.Ground.chain }], guard := none }
def o10_5_4 : Oper := { dst := some 29, op := Go.Op.load 24 (Go.Operand.tmp 7), type := 24, pos := "law.go:313", after := #[{ on := 3, ground := Go.Ground.guard }], guard := some (3, true) }
def o10_5_5 : Oper := { dst := some 30, op := Go.Op.call { callee := Go.Callee.value (Go.Operand.func 17), args := #[Go.Operand.tmp 29], argTypes := #[24] }, type := 3, pos := "law.go:313", after := #[{ on := 4, ground := Go.Ground.data }, { on := 3, ground := Go.Ground.chain }, { on := 3, ground := Go.Ground.guard }], guard := some (3, true) }
def o10_5_6 : Oper := { dst := some 31, op := Go.Op.binOp Go.BinOp.eql 3 (Go.Operand.tmp 30) (Go.Operand.const (Go.Value.int Go.IntKind.i64 0)) 3, type := 4, pos := "law.go:313", after := #[{ on := 5, ground := Go.Ground.data }, { on := 3, ground := Go.Ground.guard }], guard := some (3, true) }
def o10_5_7 : Oper := { dst := some 32, op := Go.Op.pick (Go.Operand.tmp 28) (Go.Operand.tmp 31) (Go.Operand.const (Go.Value.bool false)), type := 4, pos := "law.go:313", after := #[{ on := 3, ground := Go.Ground.data }, { on := 6, ground := Go.Ground.data }], guard := none }
def o10_5_8 : Oper := { dst := some 33, op := Go.Op.move (Go.Operand.tmp 32), type := 4, pos := "law.go:313", after := #[{ on := 7, ground := Go.Ground.data }, { on := 5, ground := Go.Ground.chain }], guard := none }
def o10_5_9 : Oper := { dst := some 34, op := Go.Op.load 24 (Go.Operand.tmp 7), type := 24, pos := "law.go:313", after := #[{ on := 8, ground := Go.Ground.guard }], guard := some (8, true) }
def o10_5_10 : Oper := { dst := some 35, op := Go.Op.call { callee := Go.Callee.value (Go.Operand.func 18), args := #[Go.Operand.tmp 34], argTypes := #[24] }, type := 30, pos := "law.go:313", after := #[{ on := 9, ground := Go.Ground.data }, { on := 8, ground := Go.Ground.chain }, { on := 8, ground := Go.Ground.guard }], guard := some (8, true) }
def o10_5_11 : Oper := { dst := some 36, op := Go.Op.call { callee := Go.Callee.builtin Go.Builtin.len, args := #[Go.Operand.tmp 35], argTypes := #[30] }, type := 3, pos := "law.go:313", after := #[{ on := 10, ground := Go.Ground.data }, { on := 8, ground := Go.Ground.guard }], guard := some (8, true) }
def o10_5_12 : Oper := { dst := some 37, op := Go.Op.binOp Go.BinOp.eql 3 (Go.Operand.tmp 36) (Go.Operand.const (Go.Value.int Go.IntKind.i64 0)) 3, type := 4, pos := "law.go:313", after := #[{ on := 11, ground := Go.Ground.data }, { on := 8, ground := Go.Ground.guard }], guard := some (8, true) }
def o10_5_13 : Oper := { dst := some 38, op := Go.Op.pick (Go.Operand.tmp 33) (Go.Operand.tmp 37) (Go.Operand.const (Go.Value.bool false)), type := 4, pos := "law.go:313", after := #[{ on := 8, ground := Go.Ground.data }, { on := 12, ground := Go.Ground.data }], guard := none }
def o10_5_14 : Oper := { dst := some 6, op := Go.Op.assign (Go.Operand.tmp 38), type := 4, pos := "law.go:313", after := #[{ on := 13, ground := Go.Ground.data }, { on := 10, ground := Go.Ground.chain }, { on := 0, ground := Go.Ground.phase }, { on := 1, ground := Go.Ground.phase }, { on := 2, ground := Go.Ground.phase }, { on := 3, ground := Go.Ground.phase }, { on := 4, ground := Go.Ground.phase }, { on := 5, ground := Go.Ground.phase }, { on := 6, ground := Go.Ground.phase }, { on := 7, ground := Go.Ground.phase }, { on := 8, ground := Go.Ground.phase }, { on := 9, ground := Go.Ground.phase }, { on := 10, ground := Go.Ground.phase }, { on := 11, ground := Go.Ground.phase }, { on := 12, ground := Go.Ground.phase }, { on := 13, ground := Go.Ground.phase }], guard := none }
def O10_5 : Array Oper := List.toArray (o10_5_0 :: o10_5_1 :: o10_5_2 :: o10_5_3 :: o10_5_4 :: o10_5_5 :: o10_5_6 :: o10_5_7 :: o10_5_8 :: o10_5_9 :: o10_5_10 :: o10_5_11 :: o10_5_12 :: o10_5_13 :: o10_5_14 :: [])
theorem g10_5_0 : O10_5[0]? = some o10_5_0 := rfl
theorem g10_5_1 : O10_5[1]? = some o10_5_1 := rfl
theorem g10_5_2 : O10_5[2]? = some o10_5_2 := rfl
theorem g10_5_3 : O10_5[3]? = some o10_5_3 := rfl
theorem g10_5_4 : O10_5[4]? = some o10_5_4 := rfl
theorem g10_5_5 : O10_5[5]? = some o10_5_5 := rfl
theorem g10_5_6 : O10_5[6]? = some o10_5_6 := rfl
theorem g10_5_7 : O10_5[7]? = some o10_5_7 := rfl
theorem g10_5_8 : O10_5[8]? = some o10_5_8 := rfl
theorem g10_5_9 : O10_5[9]? = some o10_5_9 := rfl
theorem g10_5_10 : O10_5[10]? = some o10_5_10 := rfl
theorem g10_5_11 : O10_5[11]? = some o10_5_11 := rfl
theorem g10_5_12 : O10_5[12]? = some o10_5_12 := rfl
theorem g10_5_13 : O10_5[13]? = some o10_5_13 := rfl
theorem g10_5_14 : O10_5[14]? = some o10_5_14 := rfl
def c10_17 : Code := Code.region 5 O10_5 false
def c10_16 : Code := Code.seq c10_17 Code.ret
def c10_15 : Code := Code.cond (Go.Operand.tmp 24) c10_16 Code.skip
def c10_13 : Code := Code.seq c10_14 c10_15
def o10_6_0 : Oper := { dst := some 8, op := Go.Op.assign (Go.Operand.const (Go.Value.int Go.IntKind.i64 1)), type := 3, pos := "law.go:315", after := #[], guard := none }
def o10_6_1 : Oper := { dst := some 9, op := Go.Op.assign (Go.Operand.const (Go.Value.int Go.IntKind.i64 0)), type := 3, pos := "law.go:315", after := #[{ on := 0, ground := Go.Ground.chain }, { on := 0, ground := Go.Ground.phase }], guard := none }
def O10_6 : Array Oper := List.toArray (o10_6_0 :: o10_6_1 :: [])
theorem g10_6_0 : O10_6[0]? = some o10_6_0 := rfl
theorem g10_6_1 : O10_6[1]? = some o10_6_1 := rfl
def c10_21 : Code := Code.region 6 O10_6 false
def o10_7_0 : Oper := { dst := some 39, op := Go.Op.buildSlice 30 0 #[], type := 30, pos := "law.go:316", after := #[], guard := none }
def o10_7_1 : Oper := { dst := some 10, op := Go.Op.assign (Go.Operand.tmp 39), type := 30, pos := "law.go:316", after := #[{ on := 0, ground := Go.Ground.data }, { on := 0, ground := Go.Ground.phase }], guard := none }
def O10_7 : Array Oper := List.toArray (o10_7_0 :: o10_7_1 :: [])
theorem g10_7_0 : O10_7[0]? = some o10_7_0 := rfl
theorem g10_7_1 : O10_7[1]? = some o10_7_1 := rfl
def c10_23 : Code := Code.region 7 O10_7 false
def o10_8_0 : Oper := { dst := some 40, op := Go.Op.move (Go.Operand.tmp 1), type := 22, pos := "law.go:317", after := #[], guard := none }
def o10_8_1 : Oper := { dst := some 41, op := Go.Op.call { callee := Go.Callee.builtin Go.Builtin.len, args := #[Go.Operand.tmp 40], argTypes := #[22] }, type := 3, pos := "law.go:317", after := #[{ on := 0, ground := Go.Ground.data }], guard := none }
def o10_8_2 : Oper := { dst := some 42, op := Go.Op.move (Go.Operand.const (Go.Value.int Go.IntKind.i64 0)), type := 3, pos := "law.go:317", after := #[], guard := none }
def O10_8 : Array Oper := List.toArray (o10_8_0 :: o10_8_1 :: o10_8_2 :: [])
theorem g10_8_0 : O10_8[0]? = some o10_8_0 := rfl
theorem g10_8_1 : O10_8[1]? = some o10_8_1 := rfl
theorem g10_8_2 : O10_8[2]? = some o10_8_2 := rfl
def c10_26 : Code := Code.region 8 O10_8 false
def o10_9_0 : Oper := { dst := some 43, op := Go.Op.binOp Go.BinOp.lss 3 (Go.Operand.tmp 42) (Go.Operand.tmp 41) 3, type := 0, pos := "law.go:317", after := #[], guard := none }
def O10_9 : Array Oper := List.toArray (o10_9_0 :: [])
theorem g10_9_0 : O10_9[0]? = some o10_9_0 := rfl
def c10_30 : Code := Code.region 9 O10_9 false
def c10_34 : Code := Code.exit 0
def c10_32 : Code := Code.cond (Go.Operand.tmp 43) Code.skip c10_34
def o10_10_0 : Oper := { dst := some 44, op := Go.Op.indexAddr 22 (Go.Operand.tmp 40) (Go.Operand.tmp 42), type := 0, pos := "law.go:317", after := #[], guard := none }
def o10_10_1 : Oper := { dst := some 45, op := Go.Op.load 24 (Go.Operand.tmp 44), type := 24, pos := "law.go:317", after := #[{ on := 0, ground := Go.Ground.data }], guard := none }
def o10_10_2 : Oper := { dst := some 12, op := Go.Op.alloc 24, type := 0, pos := "law.go:317", after := #[], guard := none }
def o10_10_3 : Oper := { dst := none, op := Go.Op.store 24 (Go.Operand.tmp 12) (Go.Operand.tmp 45), type := 0, pos := "law.go:317", after := #[{ on := 2, ground := Go.Ground.data }, { on := 1, ground := Go.Ground.data }, { on := 0, ground := Go.Ground.phase }, { on := 1, ground := Go.Ground.phase }, { on := 2, ground := Go.Ground.phase }], guard := none }
def O10_10 : Array Oper := List.toArray (o10_10_0 :: o10_10_1 :: o10_10_2 :: o10_10_3 :: [])
theorem g10_10_0 : O10_10[0]? = some o10_10_0 := rfl
theorem g10_10_1 : O10_10[1]? = some o10_10_1 := rfl
theorem g10_10_2 : O10_10[2]? = some o10_10_2 := rfl
theorem g10_10_3 : O10_10[3]? = some o10_10_3 := rfl
def c10_38 : Code := Code.region 10 O10_10 false
def o10_11_0 : Oper := { dst := some 46, op := Go.Op.move (Go.Operand.tmp 8), type := 3, pos := "law.go:318", after := #[], guard := none }
def o10_11_1 : Oper := { dst := some 47, op := Go.Op.load 24 (Go.Operand.tmp 12), type := 24, pos := "law.go:318", after := #[], guard := none }
def o10_11_2 : Oper := { dst := some 48, op := Go.Op.call { callee := Go.Callee.value (Go.Operand.func 16), args := #[Go.Operand.tmp 47], argTypes := #[24] }, type := 3, pos := "law.go:318", after := #[{ on := 1, ground := Go.Ground.data }], guard := none }
def o10_11_3 : Oper := { dst := some 49, op := Go.Op.binOp Go.BinOp.add 3 (Go.Operand.tmp 46) (Go.Operand.tmp 48) 3, type := 3, pos := "law.go:318", after := #[{ on := 0, ground := Go.Ground.data }, { on := 2, ground := Go.Ground.data }], guard := none }
def o10_11_4 : Oper := { dst := some 8, op := Go.Op.assign (Go.Operand.tmp 49), type := 3, pos := "law.go:318", after := #[{ on := 3, ground := Go.Ground.data }, { on := 2, ground := Go.Ground.chain }, { on := 0, ground := Go.Ground.phase }, { on := 1, ground := Go.Ground.phase }, { on := 2, ground := Go.Ground.phase }, { on := 3, ground := Go.Ground.phase }], guard := none }
def O10_11 : Array Oper := List.toArray (o10_11_0 :: o10_11_1 :: o10_11_2 :: o10_11_3 :: o10_11_4 :: [])
theorem g10_11_0 : O10_11[0]? = some o10_11_0 := rfl
theorem g10_11_1 : O10_11[1]? = some o10_11_1 := rfl
theorem g10_11_2 : O10_11[2]? = some o10_11_2 := rfl
theorem g10_11_3 : O10_11[3]? = some o10_11_3 := rfl
theorem g10_11_4 : O10_11[4]? = some o10_11_4 := rfl
def c10_40 : Code := Code.region 11 O10_11 false
def o10_12_0 : Oper := { dst := some 50, op := Go.Op.move (Go.Operand.tmp 9), type := 3, pos := "law.go:319", after := #[], guard := none }
def o10_12_1 : Oper := { dst := some 51, op := Go.Op.load 24 (Go.Operand.tmp 12), type := 24, pos := "law.go:319", after := #[], guard := none }
def o10_12_2 : Oper := { dst := some 52, op := Go.Op.call { callee := Go.Callee.value (Go.Operand.func 17), args := #[Go.Operand.tmp 51], argTypes := #[24] }, type := 3, pos := "law.go:319", after := #[{ on := 1, ground := Go.Ground.data }], guard := none }
def o10_12_3 : Oper := { dst := some 53, op := Go.Op.call { callee := Go.Callee.builtin Go.Builtin.max, args := #[Go.Operand.tmp 50, Go.Operand.tmp 52], argTypes := #[3, 3] }, type := 3, pos := "law.go:319", after := #[{ on := 0, ground := Go.Ground.data }, { on := 2, ground := Go.Ground.data }], guard := none }
def o10_12_4 : Oper := { dst := some 9, op := Go.Op.assign (Go.Operand.tmp 53), type := 3, pos := "law.go:319", after := #[{ on := 3, ground := Go.Ground.data }, { on := 2, ground := Go.Ground.chain }, { on := 0, ground := Go.Ground.phase }, { on := 1, ground := Go.Ground.phase }, { on := 2, ground := Go.Ground.phase }, { on := 3, ground := Go.Ground.phase }], guard := none }
def O10_12 : Array Oper := List.toArray (o10_12_0 :: o10_12_1 :: o10_12_2 :: o10_12_3 :: o10_12_4 :: [])
theorem g10_12_0 : O10_12[0]? = some o10_12_0 := rfl
theorem g10_12_1 : O10_12[1]? = some o10_12_1 := rfl
theorem g10_12_2 : O10_12[2]? = some o10_12_2 := rfl
theorem g10_12_3 : O10_12[3]? = some o10_12_3 := rfl
theorem g10_12_4 : O10_12[4]? = some o10_12_4 := rfl
def c10_42 : Code := Code.region 12 O10_12 false
def o10_13_0 : Oper := { dst := some 54, op := Go.Op.load 24 (Go.Operand.tmp 12), type := 24, pos := "law.go:320", after := #[], guard := none }
def o10_13_1 : Oper := { dst := some 55, op := Go.Op.call { callee := Go.Callee.value (Go.Operand.func 18), args := #[Go.Operand.tmp 54], argTypes := #[24] }, type := 30, pos := "law.go:320", after := #[{ on := 0, ground := Go.Ground.data }], guard := none }
def o10_13_2 : Oper := { dst := some 56, op := Go.Op.call { callee := Go.Callee.builtin Go.Builtin.len, args := #[Go.Operand.tmp 55], argTypes := #[30] }, type := 3, pos := "law.go:320", after := #[{ on := 1, ground := Go.Ground.data }], guard := none }
def o10_13_3 : Oper := { dst := some 57, op := Go.Op.move (Go.Operand.const (Go.Value.int Go.IntKind.i64 0)), type := 3, pos := "law.go:320", after := #[], guard := none }
def O10_13 : Array Oper := List.toArray (o10_13_0 :: o10_13_1 :: o10_13_2 :: o10_13_3 :: [])
theorem g10_13_0 : O10_13[0]? = some o10_13_0 := rfl
theorem g10_13_1 : O10_13[1]? = some o10_13_1 := rfl
theorem g10_13_2 : O10_13[2]? = some o10_13_2 := rfl
theorem g10_13_3 : O10_13[3]? = some o10_13_3 := rfl
def c10_44 : Code := Code.region 13 O10_13 false
def o10_14_0 : Oper := { dst := some 58, op := Go.Op.binOp Go.BinOp.lss 3 (Go.Operand.tmp 57) (Go.Operand.tmp 56) 3, type := 0, pos := "law.go:320", after := #[], guard := none }
def O10_14 : Array Oper := List.toArray (o10_14_0 :: [])
theorem g10_14_0 : O10_14[0]? = some o10_14_0 := rfl
def c10_48 : Code := Code.region 14 O10_14 false
def c10_52 : Code := Code.exit 2
def c10_50 : Code := Code.cond (Go.Operand.tmp 58) Code.skip c10_52
def o10_15_0 : Oper := { dst := some 59, op := Go.Op.indexAddr 30 (Go.Operand.tmp 55) (Go.Operand.tmp 57), type := 0, pos := "law.go:320", after := #[], guard := none }
def o10_15_1 : Oper := { dst := some 60, op := Go.Op.load 2 (Go.Operand.tmp 59), type := 2, pos := "law.go:320", after := #[{ on := 0, ground := Go.Ground.data }], guard := none }
def o10_15_2 : Oper := { dst := some 14, op := Go.Op.assign (Go.Operand.tmp 60), type := 2, pos := "law.go:320", after := #[{ on := 1, ground := Go.Ground.data }, { on := 0, ground := Go.Ground.phase }, { on := 1, ground := Go.Ground.phase }], guard := none }
def O10_15 : Array Oper := List.toArray (o10_15_0 :: o10_15_1 :: o10_15_2 :: [])
theorem g10_15_0 : O10_15[0]? = some o10_15_0 := rfl
theorem g10_15_1 : O10_15[1]? = some o10_15_1 := rfl
theorem g10_15_2 : O10_15[2]? = some o10_15_2 := rfl
def c10_56 : Code := Code.region 15 O10_15 false
def o10_16_0 : Oper := { dst := some 61, op := Go.Op.move (Go.Operand.tmp 10), type := 30, pos := "law.go:321", after := #[], guard := none }
def o10_16_1 : Oper := { dst := some 62, op := Go.Op.move (Go.Operand.tmp 14), type := 2, pos := "law.go:321", after := #[], guard := none }
def o10_16_2 : Oper := { dst := some 63, op := Go.Op.call { callee := Go.Callee.value (Go.Operand.func 31), args := #[Go.Operand.tmp 61, Go.Operand.tmp 62], argTypes := #[30, 2] }, type := 4, pos := "law.go:321", after := #[{ on := 0, ground := Go.Ground.data }, { on := 1, ground := Go.Ground.data }], guard := none }
def o10_16_3 : Oper := { dst := some 64, op := Go.Op.unOp Go.UnOp.not 4 (Go.Operand.tmp 63), type := 4, pos := "law.go:321", after := #[{ on := 2, ground := Go.Ground.data }], guard := none }
def O10_16 : Array Oper := List.toArray (o10_16_0 :: o10_16_1 :: o10_16_2 :: o10_16_3 :: [])
theorem g10_16_0 : O10_16[0]? = some o10_16_0 := rfl
theorem g10_16_1 : O10_16[1]? = some o10_16_1 := rfl
theorem g10_16_2 : O10_16[2]? = some o10_16_2 := rfl
theorem g10_16_3 : O10_16[3]? = some o10_16_3 := rfl
def c10_58 : Code := Code.region 16 O10_16 false
def o10_17_0 : Oper := { dst := some 65, op := Go.Op.move (Go.Operand.tmp 10), type := 30, pos := "law.go:322", after := #[], guard := none }
def o10_17_1 : Oper := { dst := some 66, op := Go.Op.move (Go.Operand.tmp 14), type := 2, pos := "law.go:322", after := #[], guard := none }
def o10_17_2 : Oper := { dst := some 67, op := Go.Op.buildSlice 30 1 #[(0, Go.Operand.tmp 66)], type := 30, pos := "law.go:322", after := #[{ on := 1, ground := Go.Ground.data }], guard := none }
def o10_17_3 : Oper := { dst := some 68, op := Go.Op.call { callee := Go.Callee.builtin Go.Builtin.append, args := #[Go.Operand.tmp 65, Go.Operand.tmp 67], argTypes := #[30, 30] }, type := 30, pos := "law.go:322", after := #[{ on := 0, ground := Go.Ground.data }, { on := 2, ground := Go.Ground.data }], guard := none }
def o10_17_4 : Oper := { dst := some 10, op := Go.Op.assign (Go.Operand.tmp 68), type := 30, pos := "law.go:322", after := #[{ on := 3, ground := Go.Ground.data }, { on := 3, ground := Go.Ground.chain }, { on := 0, ground := Go.Ground.phase }, { on := 1, ground := Go.Ground.phase }, { on := 2, ground := Go.Ground.phase }, { on := 3, ground := Go.Ground.phase }], guard := none }
def O10_17 : Array Oper := List.toArray (o10_17_0 :: o10_17_1 :: o10_17_2 :: o10_17_3 :: o10_17_4 :: [])
theorem g10_17_0 : O10_17[0]? = some o10_17_0 := rfl
theorem g10_17_1 : O10_17[1]? = some o10_17_1 := rfl
theorem g10_17_2 : O10_17[2]? = some o10_17_2 := rfl
theorem g10_17_3 : O10_17[3]? = some o10_17_3 := rfl
theorem g10_17_4 : O10_17[4]? = some o10_17_4 := rfl
def c10_60 : Code := Code.region 17 O10_17 false
def c10_59 : Code := Code.cond (Go.Operand.tmp 64) c10_60 Code.skip
def c10_57 : Code := Code.seq c10_58 c10_59
def c10_55 : Code := Code.seq c10_56 c10_57
def c10_54 : Code := Code.block 3 c10_55
def o10_18_0 : Oper := { dst := some 69, op := Go.Op.binOp Go.BinOp.add 3 (Go.Operand.tmp 57) (Go.Operand.const (Go.Value.int Go.IntKind.i64 1)) 3, type := 3, pos := "law.go:320", after := #[], guard := none }
def o10_18_1 : Oper := { dst := some 57, op := Go.Op.move (Go.Operand.tmp 69), type := 3, pos := "law.go:320", after := #[{ on := 0, ground := Go.Ground.data }], guard := none }
def O10_18 : Array Oper := List.toArray (o10_18_0 :: o10_18_1 :: [])
theorem g10_18_0 : O10_18[0]? = some o10_18_0 := rfl
theorem g10_18_1 : O10_18[1]? = some o10_18_1 := rfl
def c10_62 : Code := Code.region 18 O10_18 false
def c10_53 : Code := Code.seq c10_54 c10_62
def c10_49 : Code := Code.seq c10_50 c10_53
def c10_47 : Code := Code.seq c10_48 c10_49
def c10_46 : Code := Code.loop c10_47
def c10_45 : Code := Code.block 2 c10_46
def c10_43 : Code := Code.seq c10_44 c10_45
def c10_41 : Code := Code.seq c10_42 c10_43
def c10_39 : Code := Code.seq c10_40 c10_41
def c10_37 : Code := Code.seq c10_38 c10_39
def c10_36 : Code := Code.block 1 c10_37
def o10_19_0 : Oper := { dst := some 70, op := Go.Op.binOp Go.BinOp.add 3 (Go.Operand.tmp 42) (Go.Operand.const (Go.Value.int Go.IntKind.i64 1)) 3, type := 3, pos := "law.go:317", after := #[], guard := none }
def o10_19_1 : Oper := { dst := some 42, op := Go.Op.move (Go.Operand.tmp 70), type := 3, pos := "law.go:317", after := #[{ on := 0, ground := Go.Ground.data }], guard := none }
def O10_19 : Array Oper := List.toArray (o10_19_0 :: o10_19_1 :: [])
theorem g10_19_0 : O10_19[0]? = some o10_19_0 := rfl
theorem g10_19_1 : O10_19[1]? = some o10_19_1 := rfl
def c10_63 : Code := Code.region 19 O10_19 false
def c10_35 : Code := Code.seq c10_36 c10_63
def c10_31 : Code := Code.seq c10_32 c10_35
def c10_29 : Code := Code.seq c10_30 c10_31
def c10_28 : Code := Code.loop c10_29
def c10_27 : Code := Code.block 0 c10_28
def c10_25 : Code := Code.seq c10_26 c10_27
def o10_20_0 : Oper := { dst := some 71, op := Go.Op.load 24 (Go.Operand.tmp 7), type := 24, pos := "law.go:326", after := #[], guard := none }
def o10_20_1 : Oper := { dst := some 72, op := Go.Op.call { callee := Go.Callee.value (Go.Operand.func 16), args := #[Go.Operand.tmp 71], argTypes := #[24] }, type := 3, pos := "law.go:326", after := #[{ on := 0, ground := Go.Ground.data }], guard := none }
def o10_20_2 : Oper := { dst := some 73, op := Go.Op.move (Go.Operand.tmp 8), type := 3, pos := "law.go:326", after := #[], guard := none }
def o10_20_3 : Oper := { dst := some 74, op := Go.Op.binOp Go.BinOp.neq 3 (Go.Operand.tmp 72) (Go.Operand.tmp 73) 3, type := 4, pos := "law.go:326", after := #[{ on := 1, ground := Go.Ground.data }, { on := 2, ground := Go.Ground.data }], guard := none }
def o10_20_4 : Oper := { dst := some 75, op := Go.Op.move (Go.Operand.tmp 74), type := 4, pos := "law.go:326", after := #[{ on := 3, ground := Go.Ground.data }, { on := 1, ground := Go.Ground.chain }], guard := none }
def o10_20_5 : Oper := { dst := some 76, op := Go.Op.load 24 (Go.Operand.tmp 7), type := 24, pos := "law.go:326", after := #[{ on := 4, ground := Go.Ground.guard }], guard := some (4, false) }
def o10_20_6 : Oper := { dst := some 77, op := Go.Op.call { callee := Go.Callee.value (Go.Operand.func 17), args := #[Go.Operand.tmp 76], argTypes := #[24] }, type := 3, pos := "law.go:326", after := #[{ on := 5, ground := Go.Ground.data }, { on := 4, ground := Go.Ground.chain }, { on := 4, ground := Go.Ground.guard }], guard := some (4, false) }
def o10_20_7 : Oper := { dst := some 78, op := Go.Op.move (Go.Operand.tmp 9), type := 3, pos := "law.go:326", after := #[{ on := 4, ground := Go.Ground.guard }], guard := some (4, false) }
def o10_20_8 : Oper := { dst := some 79, op := Go.Op.binOp Go.BinOp.add 3 (Go.Operand.tmp 78) (Go.Operand.const (Go.Value.int Go.IntKind.i64 1)) 3, type := 3, pos := "law.go:326", after := #[{ on := 7, ground := Go.Ground.data }, { on := 4, ground := Go.Ground.guard }], guard := some (4, false) }
def o10_20_9 : Oper := { dst := some 80, op := Go.Op.binOp Go.BinOp.neq 3 (Go.Operand.tmp 77) (Go.Operand.tmp 79) 3, type := 4, pos := "law.go:326", after := #[{ on := 6, ground := Go.Ground.data }, { on := 8, ground := Go.Ground.data }, { on := 4, ground := Go.Ground.guard }], guard := some (4, false) }
def o10_20_10 : Oper := { dst := some 81, op := Go.Op.pick (Go.Operand.tmp 75) (Go.Operand.const (Go.Value.bool true)) (Go.Operand.tmp 80), type := 4, pos := "law.go:326", after := #[{ on := 4, ground := Go.Ground.data }, { on := 9, ground := Go.Ground.data }], guard := none }
def o10_20_11 : Oper := { dst := some 82, op := Go.Op.move (Go.Operand.tmp 81), type := 4, pos := "law.go:326", after := #[{ on := 10, ground := Go.Ground.data }, { on := 6, ground := Go.Ground.chain }], guard := none }
def o10_20_12 : Oper := { dst := some 83, op := Go.Op.load 24 (Go.Operand.tmp 7), type := 24, pos := "law.go:326", after := #[{ on := 11, ground := Go.Ground.guard }], guard := some (11, false) }
def o10_20_13 : Oper := { dst := some 84, op := Go.Op.call { callee := Go.Callee.value (Go.Operand.func 18), args := #[Go.Operand.tmp 83], argTypes := #[24] }, type := 30, pos := "law.go:326", after := #[{ on := 12, ground := Go.Ground.data }, { on := 11, ground := Go.Ground.chain }, { on := 11, ground := Go.Ground.guard }], guard := some (11, false) }
def o10_20_14 : Oper := { dst := some 85, op := Go.Op.move (Go.Operand.tmp 10), type := 30, pos := "law.go:326", after := #[{ on := 11, ground := Go.Ground.guard }], guard := some (11, false) }
def o10_20_15 : Oper := { dst := some 86, op := Go.Op.call { callee := Go.Callee.value (Go.Operand.func 24), args := #[Go.Operand.tmp 84, Go.Operand.tmp 85], argTypes := #[30, 30] }, type := 4, pos := "law.go:326", after := #[{ on := 13, ground := Go.Ground.data }, { on := 14, ground := Go.Ground.data }, { on := 13, ground := Go.Ground.chain }, { on := 11, ground := Go.Ground.guard }], guard := some (11, false) }
def o10_20_16 : Oper := { dst := some 87, op := Go.Op.unOp Go.UnOp.not 4 (Go.Operand.tmp 86), type := 4, pos := "law.go:326", after := #[{ on := 15, ground := Go.Ground.data }, { on := 11, ground := Go.Ground.guard }], guard := some (11, false) }
def o10_20_17 : Oper := { dst := some 88, op := Go.Op.pick (Go.Operand.tmp 82) (Go.Operand.const (Go.Value.bool true)) (Go.Operand.tmp 87), type := 4, pos := "law.go:326", after := #[{ on := 11, ground := Go.Ground.data }, { on := 16, ground := Go.Ground.data }], guard := none }
def O10_20 : Array Oper := List.toArray (o10_20_0 :: o10_20_1 :: o10_20_2 :: o10_20_3 :: o10_20_4 :: o10_20_5 :: o10_20_6 :: o10_20_7 :: o10_20_8 :: o10_20_9 :: o10_20_10 :: o10_20_11 :: o10_20_12 :: o10_20_13 :: o10_20_14 :: o10_20_15 :: o10_20_16 :: o10_20_17 :: [])
theorem g10_20_0 : O10_20[0]? = some o10_20_0 := rfl
theorem g10_20_1 : O10_20[1]? = some o10_20_1 := rfl
theorem g10_20_2 : O10_20[2]? = some o10_20_2 := rfl
theorem g10_20_3 : O10_20[3]? = some o10_20_3 := rfl
theorem g10_20_4 : O10_20[4]? = some o10_20_4 := rfl
theorem g10_20_5 : O10_20[5]? = some o10_20_5 := rfl
theorem g10_20_6 : O10_20[6]? = some o10_20_6 := rfl
theorem g10_20_7 : O10_20[7]? = some o10_20_7 := rfl
theorem g10_20_8 : O10_20[8]? = some o10_20_8 := rfl
theorem g10_20_9 : O10_20[9]? = some o10_20_9 := rfl
theorem g10_20_10 : O10_20[10]? = some o10_20_10 := rfl
theorem g10_20_11 : O10_20[11]? = some o10_20_11 := rfl
theorem g10_20_12 : O10_20[12]? = some o10_20_12 := rfl
theorem g10_20_13 : O10_20[13]? = some o10_20_13 := rfl
theorem g10_20_14 : O10_20[14]? = some o10_20_14 := rfl
theorem g10_20_15 : O10_20[15]? = some o10_20_15 := rfl
theorem g10_20_16 : O10_20[16]? = some o10_20_16 := rfl
theorem g10_20_17 : O10_20[17]? = some o10_20_17 := rfl
def c10_66 : Code := Code.region 20 O10_20 false
def o10_21_0 : Oper := { dst := some 6, op := Go.Op.assign (Go.Operand.const (Go.Value.bool false)), type := 4, pos := "law.go:327", after := #[], guard := none }
def O10_21 : Array Oper := List.toArray (o10_21_0 :: [])
theorem g10_21_0 : O10_21[0]? = some o10_21_0 := rfl
def c10_69 : Code := Code.region 21 O10_21 false
def c10_68 : Code := Code.seq c10_69 Code.ret
def c10_67 : Code := Code.cond (Go.Operand.tmp 88) c10_68 Code.skip
def c10_65 : Code := Code.seq c10_66 c10_67
def o10_22_0 : Oper := { dst := some 89, op := Go.Op.move (Go.Operand.tmp 10), type := 30, pos := "law.go:329", after := #[], guard := none }
def o10_22_1 : Oper := { dst := some 90, op := Go.Op.call { callee := Go.Callee.builtin Go.Builtin.len, args := #[Go.Operand.tmp 89], argTypes := #[30] }, type := 3, pos := "law.go:329", after := #[{ on := 0, ground := Go.Ground.data }], guard := none }
def o10_22_2 : Oper := { dst := some 91, op := Go.Op.binOp Go.BinOp.eql 3 (Go.Operand.tmp 90) (Go.Operand.const (Go.Value.int Go.IntKind.i64 0)) 3, type := 4, pos := "law.go:329", after := #[{ on := 1, ground := Go.Ground.data }], guard := none }
def o10_22_3 : Oper := { dst := some 92, op := Go.Op.move (Go.Operand.tmp 91), type := 4, pos := "law.go:329", after := #[{ on := 2, ground := Go.Ground.data }], guard := none }
def o10_22_4 : Oper := { dst := some 93, op := Go.Op.load 24 (Go.Operand.tmp 5), type := 24, pos := "law.go:329", after := #[{ on := 3, ground := Go.Ground.guard }], guard := some (3, false) }
def o10_22_5 : Oper := { dst := some 94, op := Go.Op.call { callee := Go.Callee.value (Go.Operand.func 15), args := #[Go.Operand.tmp 93], argTypes := #[24] }, type := 27, pos := "law.go:329", after := #[{ on := 4, ground := Go.Ground.data }, { on := 3, ground := Go.Ground.chain }, { on := 3, ground := Go.Ground.guard }], guard := some (3, false) }
def o10_22_6 : Oper := { dst := some 95, op := Go.Op.binOp Go.BinOp.neq 27 (Go.Operand.tmp 94) (Go.Operand.const (Go.Value.int Go.IntKind.i64 0)) 27, type := 4, pos := "law.go:329", after := #[{ on := 5, ground := Go.Ground.data }, { on := 3, ground := Go.Ground.guard }], guard := some (3, false) }
def o10_22_7 : Oper := { dst := some 96, op := Go.Op.pick (Go.Operand.tmp 92) (Go.Operand.const (Go.Value.bool true)) (Go.Operand.tmp 95), type := 4, pos := "law.go:329", after := #[{ on := 3, ground := Go.Ground.data }, { on := 6, ground := Go.Ground.data }], guard := none }
def O10_22 : Array Oper := List.toArray (o10_22_0 :: o10_22_1 :: o10_22_2 :: o10_22_3 :: o10_22_4 :: o10_22_5 :: o10_22_6 :: o10_22_7 :: [])
theorem g10_22_0 : O10_22[0]? = some o10_22_0 := rfl
theorem g10_22_1 : O10_22[1]? = some o10_22_1 := rfl
theorem g10_22_2 : O10_22[2]? = some o10_22_2 := rfl
theorem g10_22_3 : O10_22[3]? = some o10_22_3 := rfl
theorem g10_22_4 : O10_22[4]? = some o10_22_4 := rfl
theorem g10_22_5 : O10_22[5]? = some o10_22_5 := rfl
theorem g10_22_6 : O10_22[6]? = some o10_22_6 := rfl
theorem g10_22_7 : O10_22[7]? = some o10_22_7 := rfl
def c10_74 : Code := Code.region 22 O10_22 false
def o10_23_0 : Oper := { dst := some 6, op := Go.Op.assign (Go.Operand.const (Go.Value.bool true)), type := 4, pos := "law.go:330", after := #[], guard := none }
def O10_23 : Array Oper := List.toArray (o10_23_0 :: [])
theorem g10_23_0 : O10_23[0]? = some o10_23_0 := rfl
def c10_77 : Code := Code.region 23 O10_23 false
def c10_76 : Code := Code.seq c10_77 Code.ret
def c10_75 : Code := Code.cond (Go.Operand.tmp 96) c10_76 Code.skip
def c10_73 : Code := Code.seq c10_74 c10_75
def o10_24_0 : Oper := { dst := some 98, op := Go.Op.load 24 (Go.Operand.tmp 7), type := 24, pos := "law.go:332", after := #[], guard := none }
def o10_24_1 : Oper := { dst := some 99, op := Go.Op.move (Go.Operand.tmp 10), type := 30, pos := "law.go:332", after := #[], guard := none }
def o10_24_2 : Oper := { dst := some 100, op := Go.Op.indexAddr 30 (Go.Operand.tmp 99) (Go.Operand.const (Go.Value.int Go.IntKind.i64 0)), type := 0, pos := "law.go:332", after := #[{ on := 1, ground := Go.Ground.data }], guard := none }
def o10_24_3 : Oper := { dst := some 101, op := Go.Op.load 2 (Go.Operand.tmp 100), type := 2, pos := "law.go:332", after := #[{ on := 2, ground := Go.Ground.data }], guard := none }
def o10_24_4 : Oper := { dst := some 102, op := Go.Op.load 24 (Go.Operand.tmp 5), type := 24, pos := "law.go:332", after := #[], guard := none }
def o10_24_5 : Oper := { dst := some 103, op := Go.Op.build 41 #[(0, Go.Operand.tmp 101), (1, Go.Operand.tmp 102)], type := 41, pos := "law.go:332", after := #[{ on := 3, ground := Go.Ground.data }, { on := 4, ground := Go.Ground.data }], guard := none }
def o10_24_6 : Oper := { dst := some 104, op := Go.Op.buildSlice 36 1 #[(0, Go.Operand.tmp 103)], type := 36, pos := "law.go:332", after := #[{ on := 5, ground := Go.Ground.data }], guard := none }
def o10_24_7 : Oper := { dst := some 105, op := Go.Op.call { callee := Go.Callee.value (Go.Operand.func 30), args := #[Go.Operand.tmp 98, Go.Operand.tmp 104], argTypes := #[24, 36] }, type := 42, pos := "law.go:332", after := #[{ on := 0, ground := Go.Ground.data }, { on := 6, ground := Go.Ground.data }], guard := none }
def o10_24_8 : Oper := { dst := some 97, op := Go.Op.move (Go.Operand.tmp 105), type := 42, pos := "law.go:332", after := #[{ on := 7, ground := Go.Ground.data }], guard := none }
def o10_24_9 : Oper := { dst := some 106, op := Go.Op.extract (Go.Operand.tmp 97) 0, type := 24, pos := "law.go:332", after := #[{ on := 8, ground := Go.Ground.data }], guard := none }
def o10_24_10 : Oper := { dst := some 107, op := Go.Op.extract (Go.Operand.tmp 97) 1, type := 27, pos := "law.go:332", after := #[{ on := 8, ground := Go.Ground.data }, { on := 12, ground := Go.Ground.gcOnly Go.Departure.lateStores }], guard := none }
def o10_24_11 : Oper := { dst := some 15, op := Go.Op.alloc 24, type := 0, pos := "law.go:332", after := #[], guard := none }
def o10_24_12 : Oper := { dst := none, op := Go.Op.store 24 (Go.Operand.tmp 15) (Go.Operand.tmp 106), type := 0, pos := "law.go:332", after := #[{ on := 11, ground := Go.Ground.data }, { on := 9, ground := Go.Ground.data }, { on := 7, ground := Go.Ground.chain }, { on := 0, ground := Go.Ground.phase }, { on := 1, ground := Go.Ground.phase }, { on := 2, ground := Go.Ground.phase }, { on := 3, ground := Go.Ground.phase }, { on := 4, ground := Go.Ground.phase }, { on := 5, ground := Go.Ground.phase }, { on := 6, ground := Go.Ground.phase }, { on := 7, ground := Go.Ground.phase }, { on := 8, ground := Go.Ground.phase }, { on := 9, ground := Go.Ground.phase }, { on := 10, ground := Go.Ground.textOnly Go.Departure.lateStores }, { on := 11, ground := Go.Ground.phase }], guard := none }
def o10_24_13 : Oper := { dst := some 16, op := Go.Op.assign (Go.Operand.tmp 107), type := 27, pos := "law.go:332", after := #[{ on := 10, ground := Go.Ground.data }, { on := 12, ground := Go.Ground.chain }, { on := 0, ground := Go.Ground.phase }, { on := 1, ground := Go.Ground.phase }, { on := 2, ground := Go.Ground.phase }, { on := 3, ground := Go.Ground.phase }, { on := 4, ground := Go.Ground.phase }, { on := 5, ground := Go.Ground.phase }, { on := 6, ground := Go.Ground.phase }, { on := 7, ground := Go.Ground.phase }, { on := 8, ground := Go.Ground.phase }, { on := 9, ground := Go.Ground.phase }, { on := 10, ground := Go.Ground.phase }, { on := 11, ground := Go.Ground.phase }, { on := 12, ground := Go.Ground.phase }], guard := none }
def O10_24 : Array Oper := List.toArray (o10_24_0 :: o10_24_1 :: o10_24_2 :: o10_24_3 :: o10_24_4 :: o10_24_5 :: o10_24_6 :: o10_24_7 :: o10_24_8 :: o10_24_9 :: o10_24_10 :: o10_24_11 :: o10_24_12 :: o10_24_13 :: [])
theorem g10_24_0 : O10_24[0]? = some o10_24_0 := rfl
theorem g10_24_1 : O10_24[1]? = some o10_24_1 := rfl
theorem g10_24_2 : O10_24[2]? = some o10_24_2 := rfl
theorem g10_24_3 : O10_24[3]? = some o10_24_3 := rfl
theorem g10_24_4 : O10_24[4]? = some o10_24_4 := rfl
theorem g10_24_5 : O10_24[5]? = some o10_24_5 := rfl
theorem g10_24_6 : O10_24[6]? = some o10_24_6 := rfl
theorem g10_24_7 : O10_24[7]? = some o10_24_7 := rfl
theorem g10_24_8 : O10_24[8]? = some o10_24_8 := rfl
theorem g10_24_9 : O10_24[9]? = some o10_24_9 := rfl
theorem g10_24_10 : O10_24[10]? = some o10_24_10 := rfl
theorem g10_24_11 : O10_24[11]? = some o10_24_11 := rfl
theorem g10_24_12 : O10_24[12]? = some o10_24_12 := rfl
theorem g10_24_13 : O10_24[13]? = some o10_24_13 := rfl
theorem ns10_24 : Region.noSelect O10_24 = true := by kernel_rfl
def c10_81 : Code := Code.region 24 O10_24 true
def o10_25_0 : Oper := { dst := some 108, op := Go.Op.move (Go.Operand.tmp 16), type := 27, pos := "law.go:333", after := #[], guard := none }
def o10_25_1 : Oper := { dst := some 109, op := Go.Op.binOp Go.BinOp.neq 27 (Go.Operand.tmp 108) (Go.Operand.const (Go.Value.int Go.IntKind.i64 0)) 27, type := 4, pos := "law.go:333", after := #[{ on := 0, ground := Go.Ground.data }], guard := none }
def O10_25 : Array Oper := List.toArray (o10_25_0 :: o10_25_1 :: [])
theorem g10_25_0 : O10_25[0]? = some o10_25_0 := rfl
theorem g10_25_1 : O10_25[1]? = some o10_25_1 := rfl
def c10_84 : Code := Code.region 25 O10_25 false
def o10_26_0 : Oper := { dst := some 110, op := Go.Op.move (Go.Operand.tmp 16), type := 27, pos := "law.go:334", after := #[], guard := none }
def o10_26_1 : Oper := { dst := some 111, op := Go.Op.binOp Go.BinOp.eql 27 (Go.Operand.tmp 110) (Go.Operand.const (Go.Value.int Go.IntKind.i64 2)) 27, type := 4, pos := "law.go:334", after := #[{ on := 0, ground := Go.Ground.data }], guard := none }
def o10_26_2 : Oper := { dst := some 6, op := Go.Op.assign (Go.Operand.tmp 111), type := 4, pos := "law.go:334", after := #[{ on := 1, ground := Go.Ground.data }, { on := 0, ground := Go.Ground.phase }, { on := 1, ground := Go.Ground.phase }], guard := none }
def O10_26 : Array Oper := List.toArray (o10_26_0 :: o10_26_1 :: o10_26_2 :: [])
theorem g10_26_0 : O10_26[0]? = some o10_26_0 := rfl
theorem g10_26_1 : O10_26[1]? = some o10_26_1 := rfl
theorem g10_26_2 : O10_26[2]? = some o10_26_2 := rfl
def c10_87 : Code := Code.region 26 O10_26 false
def c10_86 : Code := Code.seq c10_87 Code.ret
def c10_85 : Code := Code.cond (Go.Operand.tmp 109) c10_86 Code.skip
def c10_83 : Code := Code.seq c10_84 c10_85
def o10_27_0 : Oper := { dst := some 112, op := Go.Op.load 24 (Go.Operand.tmp 15), type := 24, pos := "law.go:336", after := #[], guard := none }
def o10_27_1 : Oper := { dst := some 113, op := Go.Op.call { callee := Go.Callee.value (Go.Operand.func 16), args := #[Go.Operand.tmp 112], argTypes := #[24] }, type := 3, pos := "law.go:336", after := #[{ on := 0, ground := Go.Ground.data }], guard := none }
def o10_27_2 : Oper := { dst := some 114, op := Go.Op.move (Go.Operand.tmp 8), type := 3, pos := "law.go:336", after := #[], guard := none }
def o10_27_3 : Oper := { dst := some 115, op := Go.Op.binOp Go.BinOp.sub 3 (Go.Operand.tmp 113) (Go.Operand.tmp 114) 3, type := 3, pos := "law.go:336", after := #[{ on := 1, ground := Go.Ground.data }, { on := 2, ground := Go.Ground.data }], guard := none }
def o10_27_4 : Oper := { dst := some 116, op := Go.Op.load 24 (Go.Operand.tmp 5), type := 24, pos := "law.go:336", after := #[], guard := none }
def o10_27_5 : Oper := { dst := some 117, op := Go.Op.call { callee := Go.Callee.value (Go.Operand.func 16), args := #[Go.Operand.tmp 116], argTypes := #[24] }, type := 3, pos := "law.go:336", after := #[{ on := 4, ground := Go.Ground.data }, { on := 1, ground := Go.Ground.chain }], guard := none }
def o10_27_6 : Oper := { dst := some 118, op := Go.Op.binOp Go.BinOp.sub 3 (Go.Operand.tmp 117) (Go.Operand.const (Go.Value.int Go.IntKind.i64 1)) 3, type := 3, pos := "law.go:336", after := #[{ on := 5, ground := Go.Ground.data }], guard := none }
def o10_27_7 : Oper := { dst := some 119, op := Go.Op.call { callee := Go.Callee.builtin Go.Builtin.max, args := #[Go.Operand.const (Go.Value.int Go.IntKind.i64 1), Go.Operand.tmp 118], argTypes := #[3, 3] }, type := 3, pos := "law.go:336", after := #[{ on := 6, ground := Go.Ground.data }], guard := none }
def o10_27_8 : Oper := { dst := some 120, op := Go.Op.binOp Go.BinOp.rem 3 (Go.Operand.tmp 115) (Go.Operand.tmp 119) 3, type := 3, pos := "law.go:336", after := #[{ on := 3, ground := Go.Ground.data }, { on := 7, ground := Go.Ground.data }], guard := none }
def o10_27_9 : Oper := { dst := some 121, op := Go.Op.binOp Go.BinOp.eql 3 (Go.Operand.tmp 120) (Go.Operand.const (Go.Value.int Go.IntKind.i64 0)) 3, type := 4, pos := "law.go:336", after := #[{ on := 8, ground := Go.Ground.data }], guard := none }
def o10_27_10 : Oper := { dst := some 122, op := Go.Op.move (Go.Operand.tmp 121), type := 4, pos := "law.go:336", after := #[{ on := 9, ground := Go.Ground.data }, { on := 5, ground := Go.Ground.chain }], guard := none }
def o10_27_11 : Oper := { dst := some 123, op := Go.Op.load 24 (Go.Operand.tmp 15), type := 24, pos := "law.go:336", after := #[{ on := 10, ground := Go.Ground.guard }], guard := some (10, true) }
def o10_27_12 : Oper := { dst := some 124, op := Go.Op.call { callee := Go.Callee.value (Go.Operand.func 16), args := #[Go.Operand.tmp 123], argTypes := #[24] }, type := 3, pos := "law.go:336", after := #[{ on := 11, ground := Go.Ground.data }, { on := 10, ground := Go.Ground.chain }, { on := 10, ground := Go.Ground.guard }], guard := some (10, true) }
def o10_27_13 : Oper := { dst := some 125, op := Go.Op.move (Go.Operand.tmp 8), type := 3, pos := "law.go:336", after := #[{ on := 10, ground := Go.Ground.guard }], guard := some (10, true) }
def o10_27_14 : Oper := { dst := some 126, op := Go.Op.binOp Go.BinOp.geq 3 (Go.Operand.tmp 124) (Go.Operand.tmp 125) 3, type := 4, pos := "law.go:336", after := #[{ on := 12, ground := Go.Ground.data }, { on := 13, ground := Go.Ground.data }, { on := 10, ground := Go.Ground.guard }], guard := some (10, true) }
def o10_27_15 : Oper := { dst := some 127, op := Go.Op.pick (Go.Operand.tmp 122) (Go.Operand.tmp 126) (Go.Operand.const (Go.Value.bool false)), type := 4, pos := "law.go:336", after := #[{ on := 10, ground := Go.Ground.data }, { on := 14, ground := Go.Ground.data }], guard := none }
def o10_27_16 : Oper := { dst := some 6, op := Go.Op.assign (Go.Operand.tmp 127), type := 4, pos := "law.go:336", after := #[{ on := 15, ground := Go.Ground.data }, { on := 12, ground := Go.Ground.chain }, { on := 0, ground := Go.Ground.phase }, { on := 1, ground := Go.Ground.phase }, { on := 2, ground := Go.Ground.phase }, { on := 3, ground := Go.Ground.phase }, { on := 4, ground := Go.Ground.phase }, { on := 5, ground := Go.Ground.phase }, { on := 6, ground := Go.Ground.phase }, { on := 7, ground := Go.Ground.phase }, { on := 8, ground := Go.Ground.phase }, { on := 9, ground := Go.Ground.phase }, { on := 10, ground := Go.Ground.phase }, { on := 11, ground := Go.Ground.phase }, { on := 12, ground := Go.Ground.phase }, { on := 13, ground := Go.Ground.phase }, { on := 14, ground := Go.Ground.phase }, { on := 15, ground := Go.Ground.phase }], guard := none }
def O10_27 : Array Oper := List.toArray (o10_27_0 :: o10_27_1 :: o10_27_2 :: o10_27_3 :: o10_27_4 :: o10_27_5 :: o10_27_6 :: o10_27_7 :: o10_27_8 :: o10_27_9 :: o10_27_10 :: o10_27_11 :: o10_27_12 :: o10_27_13 :: o10_27_14 :: o10_27_15 :: o10_27_16 :: [])
theorem g10_27_0 : O10_27[0]? = some o10_27_0 := rfl
theorem g10_27_1 : O10_27[1]? = some o10_27_1 := rfl
theorem g10_27_2 : O10_27[2]? = some o10_27_2 := rfl
theorem g10_27_3 : O10_27[3]? = some o10_27_3 := rfl
theorem g10_27_4 : O10_27[4]? = some o10_27_4 := rfl
theorem g10_27_5 : O10_27[5]? = some o10_27_5 := rfl
theorem g10_27_6 : O10_27[6]? = some o10_27_6 := rfl
theorem g10_27_7 : O10_27[7]? = some o10_27_7 := rfl
theorem g10_27_8 : O10_27[8]? = some o10_27_8 := rfl
theorem g10_27_9 : O10_27[9]? = some o10_27_9 := rfl
theorem g10_27_10 : O10_27[10]? = some o10_27_10 := rfl
theorem g10_27_11 : O10_27[11]? = some o10_27_11 := rfl
theorem g10_27_12 : O10_27[12]? = some o10_27_12 := rfl
theorem g10_27_13 : O10_27[13]? = some o10_27_13 := rfl
theorem g10_27_14 : O10_27[14]? = some o10_27_14 := rfl
theorem g10_27_15 : O10_27[15]? = some o10_27_15 := rfl
theorem g10_27_16 : O10_27[16]? = some o10_27_16 := rfl
theorem ns10_27 : Region.noSelect O10_27 = true := by kernel_rfl
def c10_91 : Code := Code.region 27 O10_27 true
def c10_90 : Code := Code.seq c10_91 Code.ret
def c10_82 : Code := Code.seq c10_83 c10_90
def c10_80 : Code := Code.seq c10_81 c10_82
def c10_72 : Code := Code.seq c10_73 c10_80
def c10_64 : Code := Code.seq c10_65 c10_72
def c10_24 : Code := Code.seq c10_25 c10_64
def c10_22 : Code := Code.seq c10_23 c10_24
def c10_20 : Code := Code.seq c10_21 c10_22
def c10_12 : Code := Code.seq c10_13 c10_20
def c10_10 : Code := Code.seq c10_11 c10_12
def c10_2 : Code := Code.seq c10_3 c10_10
def c10_0 : Code := Code.seq c10_1 c10_2
theorem body10 : Try.f10.body = some c10_0 := by kernel_rfl

set_option maxRecDepth 100000 in
set_option maxHeartbeats 4000000 in
theorem cw_f {W : World} {v : Tm} {va sa : Option Addr} {vc sc : Nat} {ps : List TP} {nm : List UInt8} {f0 : Act} {w0 : World} (R : FrS 128 f0) (h0 : f0.tmps[0]? = some (.string (str nm))) (h1 : f0.tmps[1]? = some (.slice sa ps.length sc)) (h2 : f0.tmps[2]? = some (.agg #[.int .i64 v.k, .string (str v.nm), .int .i64 v.i, .slice va v.args.length vc])) (K1 : Keep (fun g => g < W.heap.size) W w0)  (HV : Hid (TmAt W.heap.size W v va vc)) (HS : Hid (TmSl W.heap.size W sa ps)) (HNT : Hid (TmAt W.heap.size W (Tm.node 4 nm 0 (ps.map (·.1))) sa sc)) (HR : Hid ((Tm.node 4 nm 0 (ps.map (·.1))).right = false)) : c10_0.wp Try.prog (bodyPost Try.prog Try.f10 (fun e w' => e = .returned (.bool true) ∧ Keep (fun g => g < W.heap.size) W w')) f0 w0 := by
  refine wp_seq (x := c10_1) (y := c10_2) ?_
  change (Code.region 0 O10_0 false).wp _ _ _ _
  refine reg_in (l := [0, 1]) rfl ?_
  have MK1 := K1
  have Y : (execOp f0.eval o10_0_0).run Try.prog w0 = .ok (.value (.pointer (some ⟨w0.heap.size, 0, none⟩))) (w0.alloc (.cells #[.int .i64 v.k, .string (str v.nm), .int .i64 v.i, .slice va v.args.length vc] 24)) := by unfold o10_0_0; go_simp
  have B1 := Blk.new w0 24 #[.int .i64 v.k, .string (str v.nm), .int .i64 v.i, .slice va v.args.length vc]
  replace K1 := K1.alloc (.cells #[.int .i64 v.k, .string (str v.nm), .int .i64 v.i, .slice va v.args.length vc] 24)
  obtain ⟨w2, hw2⟩ : ∃ x, x = w0.alloc (.cells #[.int .i64 v.k, .string (str v.nm), .int .i64 v.i, .slice va v.args.length vc] 24) := ⟨_, rfl⟩
  rw [← hw2] at Y B1 K1
  obtain ⟨b1, hb1⟩ : ∃ x, x = w0.heap.size := ⟨_, rfl⟩
  rw [← hb1] at Y B1
  have LK1_b1 : W.heap.size ≤ b1 := by rw [hb1]; first | exact Nat.le_refl _ | exact MK1.size
  clear hw2 hb1 MK1
  refine st_val g10_0_0 rfl (wanted_free rfl) Y fun a3 e => ?_; clear Y
  have g5 := R.at_ e (by decide); replace R := R.put e; replace h0 := slot_on e h0 (by decide); replace h1 := slot_on e h1 (by decide); clear h2; have h5 := g5; clear g5; clear e
  have Y : (execOp a3.eval o10_0_1).run Try.prog w2 = .ok (.value (.bool false)) w2 := by unfold o10_0_1; go_simp
  refine st_val g10_0_1 rfl (wanted_free rfl) Y fun a5 e => ?_; clear Y
  have g6 := R.at_ e (by decide); replace R := R.put e; replace h0 := slot_on e h0 (by decide); replace h1 := slot_on e h1 (by decide); replace h5 := slot_on e h5 (by decide); have h6 := g6; clear g6; clear e
  refine st_end ?_
  change (c10_2).wp _ _ _ _
  refine wp_seq (x := c10_3) (y := c10_10) ?_
  refine wp_seq (x := c10_4) (y := c10_5) ?_
  change (Code.region 1 O10_1 false).wp _ _ _ _
  refine reg_in (l := [0, 1]) rfl ?_
  have Y : (execOp a5.eval o10_1_0).run Try.prog w2 = .ok (.enter 13 #[]) w2 := by unfold o10_1_0; go_simp
  refine st_call g10_1_0 rfl (wanted_free rfl) Y ((alive_any (w := w2)).mono ?_); clear Y
  rintro e9 w7 ⟨rfl, kk⟩
  replace K1 := keep_onto K1 kk
  replace B1 := blk_on B1 kk
  clear kk
  refine ⟨_, rfl, fun a8 e => ?_⟩
  have g17 := R.at_ e (by decide); replace R := R.put e; replace h0 := slot_on e h0 (by decide); replace h1 := slot_on e h1 (by decide); replace h5 := slot_on e h5 (by decide); replace h6 := slot_on e h6 (by decide); have h17 := g17; clear g17; clear e
  have Y : (execOp a8.eval o10_1_1).run Try.prog w7 = .ok (.value (.bool false)) w7 := by unfold o10_1_1; go_simp
  refine st_val g10_1_1 rfl (wanted_free rfl) Y fun a10 e => ?_; clear Y
  have g18 := R.at_ e (by decide); replace R := R.put e; replace h0 := slot_on e h0 (by decide); replace h1 := slot_on e h1 (by decide); replace h5 := slot_on e h5 (by decide); replace h6 := slot_on e h6 (by decide); clear h17; have h18 := g18; clear g18; clear e
  refine st_end ?_
  change (c10_5).wp _ _ _ _
  refine wp_cond_false (x := c10_6) (y := Code.skip) (eval_slot h18) ?_
  refine wp_skip ?_
  change (c10_10).wp _ _ _ _
  refine wp_seq (x := c10_11) (y := c10_12) ?_
  change (Code.region 3 O10_3 false).wp _ _ _ _
  refine reg_in (l := [0, 1, 2, 3, 4]) rfl ?_
  have Y : (execOp a10.eval o10_3_0).run Try.prog w7 = .ok (.value (.string (str nm))) w7 := by unfold o10_3_0; go_simp
  refine st_val g10_3_0 rfl (wanted_free rfl) Y fun a12 e => ?_; clear Y
  have g19 := R.at_ e (by decide); replace R := R.put e; replace h1 := slot_on e h1 (by decide); replace h5 := slot_on e h5 (by decide); replace h6 := slot_on e h6 (by decide); clear h0 h18; have h19 := g19; clear g19; clear e
  have Y : (execOp a12.eval o10_3_1).run Try.prog w7 = .ok (.value (.slice sa ps.length sc)) w7 := by unfold o10_3_1; go_simp
  refine st_val g10_3_1 rfl (wanted_free rfl) Y fun a14 e => ?_; clear Y
  have g20 := R.at_ e (by decide); replace R := R.put e; replace h1 := slot_on e h1 (by decide); replace h5 := slot_on e h5 (by decide); replace h6 := slot_on e h6 (by decide); replace h19 := slot_on e h19 (by decide); have h20 := g20; clear g20; clear e
  have Y : (execOp a14.eval o10_3_2).run Try.prog w7 = .ok (.value (.agg #[.int .i64 4, .string (str nm), .int .i64 0, .slice sa ps.length sc])) w7 := by unfold o10_3_2; go_simp
  refine st_val g10_3_2 rfl (wanted_free rfl) Y fun a16 e => ?_; clear Y
  have g21 := R.at_ e (by decide); replace R := R.put e; replace h1 := slot_on e h1 (by decide); replace h5 := slot_on e h5 (by decide); replace h6 := slot_on e h6 (by decide); clear h19 h20; have h21 := g21; clear g21; clear e
  have MK1 := K1
  have Y : (execOp a16.eval o10_3_3).run Try.prog w7 = .ok (.value (.pointer (some ⟨w7.heap.size, 0, none⟩))) (w7.alloc (.cells #[.int .i64 0, .string (⟨#[]⟩), .int .i64 0, .slice none 0 0] 24)) := by unfold o10_3_3; go_simp
  have B18 := Blk.new w7 24 #[.int .i64 0, .string (⟨#[]⟩), .int .i64 0, .slice none 0 0]
  replace K1 := K1.alloc (.cells #[.int .i64 0, .string (⟨#[]⟩), .int .i64 0, .slice none 0 0] 24)
  have Nb1_b18 := Nat.ne_of_lt B1.lt; replace B1 := B1.alloc (.cells #[.int .i64 0, .string (⟨#[]⟩), .int .i64 0, .slice none 0 0] 24)
  obtain ⟨w19, hw19⟩ : ∃ x, x = w7.alloc (.cells #[.int .i64 0, .string (⟨#[]⟩), .int .i64 0, .slice none 0 0] 24) := ⟨_, rfl⟩
  rw [← hw19] at Y B18 K1 B1
  obtain ⟨b18, hb18⟩ : ∃ x, x = w7.heap.size := ⟨_, rfl⟩
  rw [← hb18] at Y B18 Nb1_b18
  have LK1_b18 : W.heap.size ≤ b18 := by rw [hb18]; first | exact Nat.le_refl _ | exact MK1.size
  clear hw19 hb18 MK1
  refine st_val g10_3_3 rfl (wanted_free rfl) Y fun a20 e => ?_; clear Y
  have g7 := R.at_ e (by decide); replace R := R.put e; replace h1 := slot_on e h1 (by decide); replace h5 := slot_on e h5 (by decide); replace h6 := slot_on e h6 (by decide); replace h21 := slot_on e h21 (by decide); have h7 := g7; clear g7; clear e
  have Y : (execOp a20.eval o10_3_4).run Try.prog w19 = .ok .skip ((((w19.setCell ⟨b18, 0, none⟩ (.int .i64 4)).setCell ⟨b18, 1, none⟩ (.string (str nm))).setCell ⟨b18, 2, none⟩ (.int .i64 0)).setCell ⟨b18, 3, none⟩ (.slice sa ps.length sc)) := by have qq0 : w19.cell? ⟨b18, 0, none⟩ = some (.int .i64 0) := B18.cell 0; have qq1 : w19.cell? ⟨b18, 1, none⟩ = some (.string (⟨#[]⟩)) := B18.cell 1; have qq2 : w19.cell? ⟨b18, 2, none⟩ = some (.int .i64 0) := B18.cell 2; have qq3 : w19.cell? ⟨b18, 3, none⟩ = some (.slice none 0 0) := B18.cell 3; have z0 := B18.frozen 0; have z1 := B18.frozen 1; have z2 := B18.frozen 2; have z3 := B18.frozen 3; unfold o10_3_4; go_simp
  replace K1 := ((((K1.setCell (p := ⟨b18, 0, none⟩) (Nat.not_lt.2 LK1_b18) (.int .i64 4)).setCell (p := ⟨b18, 1, none⟩) (Nat.not_lt.2 LK1_b18) (.string (str nm))).setCell (p := ⟨b18, 2, none⟩) (Nat.not_lt.2 LK1_b18) (.int .i64 0)).setCell (p := ⟨b18, 3, none⟩) (Nat.not_lt.2 LK1_b18) (.slice sa ps.length sc))
  replace B1 := ((((B1.far (p := ⟨b18, 0, none⟩) Nb1_b18 (.int .i64 4)).far (p := ⟨b18, 1, none⟩) Nb1_b18 (.string (str nm))).far (p := ⟨b18, 2, none⟩) Nb1_b18 (.int .i64 0)).far (p := ⟨b18, 3, none⟩) Nb1_b18 (.slice sa ps.length sc))
  replace B18 : Blk ((((w19.setCell ⟨b18, 0, none⟩ (.int .i64 4)).setCell ⟨b18, 1, none⟩ (.string (str nm))).setCell ⟨b18, 2, none⟩ (.int .i64 0)).setCell ⟨b18, 3, none⟩ (.slice sa ps.length sc)) b18 24 #[.int .i64 4, .string (str nm), .int .i64 0, .slice sa ps.length sc] := ((((B18.set_ 0 (.int .i64 4)).set_ 1 (.string (str nm))).set_ 2 (.int .i64 0)).set_ 3 (.slice sa ps.length sc))
  generalize ((((w19.setCell ⟨b18, 0, none⟩ (.int .i64 4)).setCell ⟨b18, 1, none⟩ (.string (str nm))).setCell ⟨b18, 2, none⟩ (.int .i64 0)).setCell ⟨b18, 3, none⟩ (.slice sa ps.length sc)) = w22 at Y K1 B1 B18
  refine st_skip g10_3_4 rfl (wanted_free rfl) Y ?_; clear Y
  refine st_end ?_
  change (c10_12).wp _ _ _ _
  refine wp_seq (x := c10_13) (y := c10_20) ?_
  refine wp_seq (x := c10_14) (y := c10_15) ?_
  change (Code.region 4 O10_4 false).wp _ _ _ _
  refine reg_in (l := [0, 1, 2]) rfl ?_
  have Y : (execOp a20.eval o10_4_0).run Try.prog w22 = .ok (.value (.agg #[.int .i64 4, .string (str nm), .int .i64 0, .slice sa ps.length sc])) w22 := by have qq0 : w22.cell? ⟨b18, 0, none⟩ = some (.int .i64 4) := B18.cell 0; have qq1 : w22.cell? ⟨b18, 1, none⟩ = some (.string (str nm)) := B18.cell 1; have qq2 : w22.cell? ⟨b18, 2, none⟩ = some (.int .i64 0) := B18.cell 2; have qq3 : w22.cell? ⟨b18, 3, none⟩ = some (.slice sa ps.length sc) := B18.cell 3; unfold o10_4_0; go_simp
  refine st_val g10_4_0 rfl (wanted_free rfl) Y fun a23 e => ?_; clear Y
  have g22 := R.at_ e (by decide); replace R := R.put e; replace h1 := slot_on e h1 (by decide); replace h5 := slot_on e h5 (by decide); replace h6 := slot_on e h6 (by decide); replace h7 := slot_on e h7 (by decide); clear h21; have h22 := g22; clear g22; clear e
  have Y : (execOp a23.eval o10_4_1).run Try.prog w22 = .ok (.enter 15 #[.agg #[.int .i64 4, .string (str nm), .int .i64 0, .slice sa ps.length sc]]) w22 := by unfold o10_4_1; go_simp
  have hcn := check_f (HNT.out.on K1) HR.out
  simp only [tv, Tm.k, Tm.nm, Tm.i, Tm.args, List.length_map] at hcn
  refine st_call g10_4_1 rfl (wanted_free rfl) Y ((hcn).mono ?_); clear Y
  rintro e9 w25 ⟨rfl, kk⟩
  replace K1 := keep_onto K1 kk
  replace B1 := blk_on B1 kk
  replace B18 := blk_on B18 kk
  clear kk
  clear hcn
  refine ⟨_, rfl, fun a26 e => ?_⟩
  have g23 := R.at_ e (by decide); replace R := R.put e; replace h1 := slot_on e h1 (by decide); replace h5 := slot_on e h5 (by decide); replace h6 := slot_on e h6 (by decide); replace h7 := slot_on e h7 (by decide); clear h22; have h23 := g23; clear g23; clear e
  have Y : (execOp a26.eval o10_4_2).run Try.prog w25 = .ok (.value (.bool true)) w25 := by unfold o10_4_2; go_simp
  refine st_val g10_4_2 rfl (wanted_free rfl) Y fun a28 e => ?_; clear Y
  have g24 := R.at_ e (by decide); replace R := R.put e; replace h1 := slot_on e h1 (by decide); replace h5 := slot_on e h5 (by decide); replace h6 := slot_on e h6 (by decide); replace h7 := slot_on e h7 (by decide); clear h23; have h24 := g24; clear g24; clear e
  refine st_end ?_
  change (c10_15).wp _ _ _ _
  refine wp_cond_true (x := c10_16) (y := Code.skip) (eval_slot h24) ?_
  refine wp_seq (x := c10_17) (y := Code.ret) ?_
  change (Code.region 5 O10_5 false).wp _ _ _ _
  refine reg_in (l := [0, 1, 2, 3, 4, 5, 6, 7, 8, 9, 10, 11, 12, 13, 14]) rfl ?_
  have Y : (execOp a28.eval o10_5_0).run Try.prog w25 = .ok (.value (.agg #[.int .i64 4, .string (str nm), .int .i64 0, .slice sa ps.length sc])) w25 := by have qq0 : w25.cell? ⟨b18, 0, none⟩ = some (.int .i64 4) := B18.cell 0; have qq1 : w25.cell? ⟨b18, 1, none⟩ = some (.string (str nm)) := B18.cell 1; have qq2 : w25.cell? ⟨b18, 2, none⟩ = some (.int .i64 0) := B18.cell 2; have qq3 : w25.cell? ⟨b18, 3, none⟩ = some (.slice sa ps.length sc) := B18.cell 3; unfold o10_5_0; go_simp
  refine st_val g10_5_0 rfl (wanted_free rfl) Y fun a30 e => ?_; clear Y
  have g25 := R.at_ e (by decide); replace R := R.put e; replace h1 := slot_on e h1 (by decide); replace h5 := slot_on e h5 (by decide); replace h6 := slot_on e h6 (by decide); replace h7 := slot_on e h7 (by decide); clear h24; have h25 := g25; clear g25; clear e
  have Y : (execOp a30.eval o10_5_1).run Try.prog w25 = .ok (.enter 16 #[.agg #[.int .i64 4, .string (str nm), .int .i64 0, .slice sa ps.length sc]]) w25 := by unfold o10_5_1; go_simp
  have hcn := size_sx (z := 0) (HNT.out.on K1) (by unfold Tm.size; rw [if_neg (show ¬ (Tm.meas (Tm.node 4 nm 0 (ps.map (·.1))) 1 (0, 0)).2 = true from by have h := HR.out; unfold Tm.right at h; rw [h]; decide)])
  simp only [tv, Tm.k, Tm.nm, Tm.i, Tm.args, List.length_map] at hcn
  refine st_call g10_5_1 rfl (wanted_free rfl) Y ((hcn).mono ?_); clear Y
  rintro e9 w32 ⟨rfl, kk⟩
  replace K1 := keep_onto K1 kk
  replace B1 := blk_on B1 kk
  replace B18 := blk_on B18 kk
  clear kk
  clear hcn
  refine ⟨_, rfl, fun a33 e => ?_⟩
  have g26 := R.at_ e (by decide); replace R := R.put e; replace h1 := slot_on e h1 (by decide); replace h5 := slot_on e h5 (by decide); replace h6 := slot_on e h6 (by decide); replace h7 := slot_on e h7 (by decide); clear h25; have h26 := g26; clear g26; clear e
  have Y : (execOp a33.eval o10_5_2).run Try.prog w32 = .ok (.value (.bool true)) w32 := by unfold o10_5_2; go_simp
  refine st_val g10_5_2 rfl (wanted_free rfl) Y fun a35 e => ?_; clear Y
  have g27 := R.at_ e (by decide); replace R := R.put e; replace h1 := slot_on e h1 (by decide); replace h5 := slot_on e h5 (by decide); replace h6 := slot_on e h6 (by decide); replace h7 := slot_on e h7 (by decide); clear h26; have h27 := g27; clear g27; clear e
  have Y : (execOp a35.eval o10_5_3).run Try.prog w32 = .ok (.value (.bool true)) w32 := by unfold o10_5_3; go_simp
  refine st_val g10_5_3 rfl (wanted_free rfl) Y fun a37 e => ?_; clear Y
  have g28 := R.at_ e (by decide); replace R := R.put e; replace h1 := slot_on e h1 (by decide); replace h5 := slot_on e h5 (by decide); replace h6 := slot_on e h6 (by decide); replace h7 := slot_on e h7 (by decide); clear h27; have h28 := g28; clear g28; clear e
  have Y : (execOp a37.eval o10_5_4).run Try.prog w32 = .ok (.value (.agg #[.int .i64 4, .string (str nm), .int .i64 0, .slice sa ps.length sc])) w32 := by have qq0 : w32.cell? ⟨b18, 0, none⟩ = some (.int .i64 4) := B18.cell 0; have qq1 : w32.cell? ⟨b18, 1, none⟩ = some (.string (str nm)) := B18.cell 1; have qq2 : w32.cell? ⟨b18, 2, none⟩ = some (.int .i64 0) := B18.cell 2; have qq3 : w32.cell? ⟨b18, 3, none⟩ = some (.slice sa ps.length sc) := B18.cell 3; unfold o10_5_4; go_simp
  refine st_val g10_5_4 rfl (wanted_is (j := 3) (d := 28) rfl rfl h28 rfl) Y fun a39 e => ?_; clear Y
  have g29 := R.at_ e (by decide); replace R := R.put e; replace h1 := slot_on e h1 (by decide); replace h5 := slot_on e h5 (by decide); replace h6 := slot_on e h6 (by decide); replace h7 := slot_on e h7 (by decide); replace h28 := slot_on e h28 (by decide); have h29 := g29; clear g29; clear e
  have Y : (execOp a39.eval o10_5_5).run Try.prog w32 = .ok (.enter 17 #[.agg #[.int .i64 4, .string (str nm), .int .i64 0, .slice sa ps.length sc]]) w32 := by unfold o10_5_5; go_simp
  have hcn := depth_sx (z := 0) (HNT.out.on K1) (by unfold Tm.depth; rw [if_neg (show ¬ (Tm.meas (Tm.node 4 nm 0 (ps.map (·.1))) 1 (0, 0)).2 = true from by have h := HR.out; unfold Tm.right at h; rw [h]; decide)])
  simp only [tv, Tm.k, Tm.nm, Tm.i, Tm.args, List.length_map] at hcn
  refine st_call g10_5_5 rfl (wanted_is (j := 3) (d := 28) rfl rfl h28 rfl) Y ((hcn).mono ?_); clear Y
  rintro e9 w41 ⟨rfl, kk⟩
  replace K1 := keep_onto K1 kk
  replace B1 := blk_on B1 kk
  replace B18 := blk_on B18 kk
  clear kk
  clear hcn
  refine ⟨_, rfl, fun a42 e => ?_⟩
  have g30 := R.at_ e (by decide); replace R := R.put e; replace h1 := slot_on e h1 (by decide); replace h5 := slot_on e h5 (by decide); replace h6 := slot_on e h6 (by decide); replace h7 := slot_on e h7 (by decide); replace h28 := slot_on e h28 (by decide); clear h29; have h30 := g30; clear g30; clear e
  have Y : (execOp a42.eval o10_5_6).run Try.prog w41 = .ok (.value (.bool true)) w41 := by unfold o10_5_6; go_simp
  refine st_val g10_5_6 rfl (wanted_is (j := 3) (d := 28) rfl rfl h28 rfl) Y fun a44 e => ?_; clear Y
  have g31 := R.at_ e (by decide); replace R := R.put e; replace h1 := slot_on e h1 (by decide); replace h5 := slot_on e h5 (by decide); replace h6 := slot_on e h6 (by decide); replace h7 := slot_on e h7 (by decide); replace h28 := slot_on e h28 (by decide); clear h30; have h31 := g31; clear g31; clear e
  have Y : (execOp a44.eval o10_5_7).run Try.prog w41 = .ok (.value (.bool true)) w41 := by unfold o10_5_7; go_simp
  refine st_val g10_5_7 rfl (wanted_free rfl) Y fun a46 e => ?_; clear Y
  have g32 := R.at_ e (by decide); replace R := R.put e; replace h1 := slot_on e h1 (by decide); replace h5 := slot_on e h5 (by decide); replace h6 := slot_on e h6 (by decide); replace h7 := slot_on e h7 (by decide); clear h28 h31; have h32 := g32; clear g32; clear e
  have Y : (execOp a46.eval o10_5_8).run Try.prog w41 = .ok (.value (.bool true)) w41 := by unfold o10_5_8; go_simp
  refine st_val g10_5_8 rfl (wanted_free rfl) Y fun a48 e => ?_; clear Y
  have g33 := R.at_ e (by decide); replace R := R.put e; replace h1 := slot_on e h1 (by decide); replace h5 := slot_on e h5 (by decide); replace h6 := slot_on e h6 (by decide); replace h7 := slot_on e h7 (by decide); clear h32; have h33 := g33; clear g33; clear e
  have Y : (execOp a48.eval o10_5_9).run Try.prog w41 = .ok (.value (.agg #[.int .i64 4, .string (str nm), .int .i64 0, .slice sa ps.length sc])) w41 := by have qq0 : w41.cell? ⟨b18, 0, none⟩ = some (.int .i64 4) := B18.cell 0; have qq1 : w41.cell? ⟨b18, 1, none⟩ = some (.string (str nm)) := B18.cell 1; have qq2 : w41.cell? ⟨b18, 2, none⟩ = some (.int .i64 0) := B18.cell 2; have qq3 : w41.cell? ⟨b18, 3, none⟩ = some (.slice sa ps.length sc) := B18.cell 3; unfold o10_5_9; go_simp
  refine st_val g10_5_9 rfl (wanted_is (j := 8) (d := 33) rfl rfl h33 rfl) Y fun a50 e => ?_; clear Y
  have g34 := R.at_ e (by decide); replace R := R.put e; replace h1 := slot_on e h1 (by decide); replace h5 := slot_on e h5 (by decide); replace h6 := slot_on e h6 (by decide); replace h7 := slot_on e h7 (by decide); replace h33 := slot_on e h33 (by decide); have h34 := g34; clear g34; clear e
  have Y : (execOp a50.eval o10_5_10).run Try.prog w41 = .ok (.enter 18 #[.agg #[.int .i64 4, .string (str nm), .int .i64 0, .slice sa ps.length sc]]) w41 := by unfold o10_5_10; go_simp
  have hcn := vars_sx (l := []) (L := 0) (HNT.out.on K1) (by rw [vaV, if_neg (by rw [HR.out]; decide)]) rfl
  simp only [tv, Tm.k, Tm.nm, Tm.i, Tm.args, List.length_map] at hcn
  refine st_call g10_5_10 rfl (wanted_is (j := 8) (d := 33) rfl rfl h33 rfl) Y ((hcn).mono ?_); clear Y
  rintro e9 w52 ⟨gb, ub, uc, rfl, hvr, kk⟩
  replace K1 := keep_onto K1 kk
  replace B1 := blk_on B1 kk
  replace B18 := blk_on B18 kk
  clear kk
  clear hcn hvr
  refine ⟨_, rfl, fun a53 e => ?_⟩
  have g35 := R.at_ e (by decide); replace R := R.put e; replace h1 := slot_on e h1 (by decide); replace h5 := slot_on e h5 (by decide); replace h6 := slot_on e h6 (by decide); replace h7 := slot_on e h7 (by decide); replace h33 := slot_on e h33 (by decide); clear h34; have h35 := g35; clear g35; clear e
  have Y : (execOp a53.eval o10_5_11).run Try.prog w52 = .ok (.value (.int .i64 0)) w52 := by unfold o10_5_11; go_simp
  refine st_val g10_5_11 rfl (wanted_is (j := 8) (d := 33) rfl rfl h33 rfl) Y fun a55 e => ?_; clear Y
  have g36 := R.at_ e (by decide); replace R := R.put e; replace h1 := slot_on e h1 (by decide); replace h5 := slot_on e h5 (by decide); replace h6 := slot_on e h6 (by decide); replace h7 := slot_on e h7 (by decide); replace h33 := slot_on e h33 (by decide); clear h35; have h36 := g36; clear g36; clear e
  have Y : (execOp a55.eval o10_5_12).run Try.prog w52 = .ok (.value (.bool true)) w52 := by unfold o10_5_12; go_simp
  refine st_val g10_5_12 rfl (wanted_is (j := 8) (d := 33) rfl rfl h33 rfl) Y fun a57 e => ?_; clear Y
  have g37 := R.at_ e (by decide); replace R := R.put e; replace h1 := slot_on e h1 (by decide); replace h5 := slot_on e h5 (by decide); replace h6 := slot_on e h6 (by decide); replace h7 := slot_on e h7 (by decide); replace h33 := slot_on e h33 (by decide); clear h36; have h37 := g37; clear g37; clear e
  have Y : (execOp a57.eval o10_5_13).run Try.prog w52 = .ok (.value (.bool true)) w52 := by unfold o10_5_13; go_simp
  refine st_val g10_5_13 rfl (wanted_free rfl) Y fun a59 e => ?_; clear Y
  have g38 := R.at_ e (by decide); replace R := R.put e; replace h1 := slot_on e h1 (by decide); replace h5 := slot_on e h5 (by decide); replace h6 := slot_on e h6 (by decide); replace h7 := slot_on e h7 (by decide); clear h33 h37; have h38 := g38; clear g38; clear e
  have Y : (execOp a59.eval o10_5_14).run Try.prog w52 = .ok (.value (.bool true)) w52 := by unfold o10_5_14; go_simp
  refine st_val g10_5_14 rfl (wanted_free rfl) Y fun a61 e => ?_; clear Y
  have g6 := R.at_ e (by decide); replace R := R.put e; replace h1 := slot_on e h1 (by decide); replace h5 := slot_on e h5 (by decide); replace h7 := slot_on e h7 (by decide); clear h6 h38; have h6 := g6; clear g6; clear e
  refine st_end ?_
  change (Code.ret).wp _ _ _ _
  refine wp_ret ?_
  change bodyPost Try.prog Try.f10 (fun e w' => e = .returned (.bool true) ∧ Keep (fun g => g < W.heap.size) W w') .ret a61 w52
  refine ret_one rfl R h6 ?_
  exact ⟨rfl, K1⟩

set_option maxRecDepth 100000 in
set_option maxHeartbeats 4000000 in
theorem cw_u {W : World} {v : Tm} {va sa : Option Addr} {vc sc : Nat} {ps : List TP} {nm : List UInt8} {j : Nat} {er zu zv : Int} {xr : Tm} {ax : Option Addr} {cx : Nat} {V : World} {f0 : Act} {w0 : World} {b1 : Nat} {b2 : Nat} (R : FrS 128 f0) (h5 : f0.tmps[5]? = some (.pointer (some ⟨b1, 0, none⟩))) (h8 : f0.tmps[8]? = some (.int .i64 (szA (ps.map (·.1)) j : Int))) (h15 : f0.tmps[15]? = some (.pointer (some ⟨b2, 0, none⟩))) (h16 : f0.tmps[16]? = some (.int .i64 er)) (K1 : Keep (fun g => g < W.heap.size) W w0) (B1 : Blk w0 b1 24 #[.int .i64 v.k, .string (str v.nm), .int .i64 v.i, .slice va v.args.length vc]) (B2 : Blk w0 b2 24 #[.int .i64 xr.k, .string (str xr.nm), .int .i64 xr.i, .slice ax xr.args.length cx]) (HV : Hid (TmAt W.heap.size W v va vc)) (HR : Hid ((Tm.node 4 nm 0 (ps.map (·.1))).right = true)) (HC : Hid ((Tm.node 4 nm 0 (ps.map (·.1))).size = (szA (ps.map (·.1)) (ps.map (·.1)).length : Int) ∧ (Tm.node 4 nm 0 (ps.map (·.1))).depth = (dpA (ps.map (·.1)) (ps.map (·.1)).length : Int) + 1 ∧ vaV (Tm.node 4 nm 0 (ps.map (·.1))) = vaA (ps.map (·.1)) (ps.map (·.1)).length ∧ (∀ t ∈ (ps.map (·.1)), t.right = true) ∧ (ps.map (·.1)).length ≤ 8 ∧ szA (ps.map (·.1)) (ps.map (·.1)).length ≤ 2000 ∧ dpA (ps.map (·.1)) (ps.map (·.1)).length ≤ 100)) (HJ : Hid (j = ps.length)) (hj : j ≤ ps.length) (HAP : Hid ((er = 2 ∨ er = 0) ∧ (er = 0 → ∃ k : Nat, xr.size = (Tm.node 4 nm 0 (ps.map (·.1))).size + k * (v.size - 1) ∧ 1 ≤ v.size ∧ v.size ≤ 2000 ∧ xr.size ≤ 2000 ∧ 1 ≤ xr.size))) (HZU : Hid (xr.size = zu)) (HZV : Hid (v.size = zv)) (HX : Hid (TmAt V.heap.size V xr ax cx)) (K2 : Keep (fun g => g < V.heap.size) V w0) : c10_82.wp Try.prog (bodyPost Try.prog Try.f10 (fun e w' => e = .returned (.bool true) ∧ Keep (fun g => g < W.heap.size) W w')) f0 w0 := by
  refine wp_seq (x := c10_83) (y := c10_90) ?_
  refine wp_seq (x := c10_84) (y := c10_85) ?_
  change (Code.region 25 O10_25 false).wp _ _ _ _
  refine reg_in (l := [0, 1]) rfl ?_
  have Y : (execOp f0.eval o10_25_0).run Try.prog w0 = .ok (.value (.int .i64 er)) w0 := by unfold o10_25_0; go_simp
  refine st_val g10_25_0 rfl (wanted_free rfl) Y fun a392 e => ?_; clear Y
  have g108 := R.at_ e (by decide); replace R := R.put e; replace h5 := slot_on e h5 (by decide); replace h8 := slot_on e h8 (by decide); replace h15 := slot_on e h15 (by decide); replace h16 := slot_on e h16 (by decide); have h108 := g108; clear g108; clear e
  obtain ⟨b394, hb394⟩ : ∃ x, (((er : Int) != (0 : Int))) = x := ⟨_, rfl⟩
  have Y : (execOp a392.eval o10_25_1).run Try.prog w0 = .ok (.value (.bool b394)) w0 := by rw [← hb394]; unfold o10_25_1; go_simp
  refine st_val g10_25_1 rfl (wanted_free rfl) Y fun a395 e => ?_; clear Y
  have g109 := R.at_ e (by decide); replace R := R.put e; replace h5 := slot_on e h5 (by decide); replace h8 := slot_on e h8 (by decide); replace h15 := slot_on e h15 (by decide); replace h16 := slot_on e h16 (by decide); clear h108; have h109 := g109; clear g109; clear e
  refine st_end ?_
  change (c10_85).wp _ _ _ _
  cases b394 with
  | false =>
    have fb394 := hb394; clear hb394
    simp only [decide_eq_true_eq, decide_eq_false_iff_not, bne_iff_ne, bne_eq_false_iff_eq, beq_iff_eq, beq_eq_false_iff_ne, ne_eq, Bool.not_eq_true', Bool.not_eq_false', Bool.not_eq_eq_eq_not, Bool.not_true, Bool.not_false] at fb394
    refine wp_cond_false (x := c10_86) (y := Code.skip) (eval_slot h109) ?_
    refine wp_skip ?_
    change (c10_90).wp _ _ _ _
    refine wp_seq (x := c10_91) (y := Code.ret) ?_
    change (Code.region 27 O10_27 true).wp _ _ _ _
    have D399 := B1
    have D400 := B2
    have K397 := (Keep.refl (fun g => g < w0.heap.size) w0).drew
    have EK1 := K1
    have EK2 := K2
    refine dr_in (S := (fun W => Keep (fun g => g < w0.heap.size) w0 W)) (n := 17) (l := #[false, false, false, false, false, false, false, false, false, false, false, false, false, false, false, false, false]) (by kernel_rfl) K397 rfl rfl ?_
    replace K1 := K1.drew
    replace K2 := K2.drew
    replace B1 := B1.drew
    replace B2 := B2.drew
    generalize w0.drew = w398 at K397 K1 K2 B1 B2 ⊢
    have Y : ∀ W, Keep (fun g => g < w0.heap.size) w0 W → (execOp a395.eval o10_27_0).run Try.prog W = .ok (.value (.agg #[.int .i64 xr.k, .string (str xr.nm), .int .i64 xr.i, .slice ax xr.args.length cx])) W := by intro W7 hS; have D := D400.keep hS D400.lt; have qq0 : W7.cell? ⟨b2, 0, none⟩ = some (.int .i64 xr.k) := D.cell 0; have qq1 : W7.cell? ⟨b2, 1, none⟩ = some (.string (str xr.nm)) := D.cell 1; have qq2 : W7.cell? ⟨b2, 2, none⟩ = some (.int .i64 xr.i) := D.cell 2; have qq3 : W7.cell? ⟨b2, 3, none⟩ = some (.slice ax xr.args.length cx) := D.cell 3; unfold o10_27_0; go_simp
    refine dr_take (i := 0) (fuel := 16) (l' := #[true, false, false, false, false, false, false, false, false, false, false, false, false, false, false, false, false]) g10_27_0 rfl ns10_27 (by kernel_rfl) (by kernel_rfl) rfl (wanted_free rfl) K397 Y fun a401 e => ?_; clear Y
    have g112 := R.at_ e (by decide); replace R := R.put e; replace h5 := slot_on e h5 (by decide); replace h8 := slot_on e h8 (by decide); replace h15 := slot_on e h15 (by decide); clear h16 h109; have h112 := g112; clear g112; clear e
    have Y : ∀ W, Keep (fun g => g < w0.heap.size) w0 W → (execOp a401.eval o10_27_2).run Try.prog W = .ok (.value (.int .i64 (szA (ps.map (·.1)) j : Int))) W := by intro W7 hS; unfold o10_27_2; go_simp
    refine dr_take (i := 2) (fuel := 15) (l' := #[true, false, true, false, false, false, false, false, false, false, false, false, false, false, false, false, false]) g10_27_2 rfl ns10_27 (by kernel_rfl) (by kernel_rfl) rfl (wanted_free rfl) K397 Y fun a403 e => ?_; clear Y
    have g114 := R.at_ e (by decide); replace R := R.put e; replace h5 := slot_on e h5 (by decide); replace h8 := slot_on e h8 (by decide); replace h15 := slot_on e h15 (by decide); replace h112 := slot_on e h112 (by decide); have h114 := g114; clear g114; clear e
    have Y : ∀ W, Keep (fun g => g < w0.heap.size) w0 W → (execOp a403.eval o10_27_4).run Try.prog W = .ok (.value (.agg #[.int .i64 v.k, .string (str v.nm), .int .i64 v.i, .slice va v.args.length vc])) W := by intro W7 hS; have D := D399.keep hS D399.lt; have qq0 : W7.cell? ⟨b1, 0, none⟩ = some (.int .i64 v.k) := D.cell 0; have qq1 : W7.cell? ⟨b1, 1, none⟩ = some (.string (str v.nm)) := D.cell 1; have qq2 : W7.cell? ⟨b1, 2, none⟩ = some (.int .i64 v.i) := D.cell 2; have qq3 : W7.cell? ⟨b1, 3, none⟩ = some (.slice va v.args.length vc) := D.cell 3; unfold o10_27_4; go_simp
    refine dr_take (i := 4) (fuel := 14) (l' := #[true, false, true, false, true, false, false, false, false, false, false, false, false, false, false, false, false]) g10_27_4 rfl ns10_27 (by kernel_rfl) (by kernel_rfl) rfl (wanted_free rfl) K397 Y fun a405 e => ?_; clear Y
    have g116 := R.at_ e (by decide); replace R := R.put e; replace h8 := slot_on e h8 (by decide); replace h15 := slot_on e h15 (by decide); replace h112 := slot_on e h112 (by decide); replace h114 := slot_on e h114 (by decide); clear h5; have h116 := g116; clear g116; clear e
    refine dr_only (i := 1) (fuel := 13) (by kernel_rfl) ?_
    have Y : (execOp a405.eval o10_27_1).run Try.prog w398 = .ok (.enter 16 #[.agg #[.int .i64 xr.k, .string (str xr.nm), .int .i64 xr.i, .slice ax xr.args.length cx]]) w398 := by unfold o10_27_1; go_simp
    refine dr_call (l' := #[true, true, true, false, true, false, false, false, false, false, false, false, false, false, false, false, false]) g10_27_1 rfl rfl (wanted_free rfl) Y ((size_sx (z := zu) (HX.out.on K2) HZU.out).mono ?_); clear Y
    rintro e9 w407 ⟨rfl, kk⟩
    replace K1 := keep_onto K1 kk
    replace K2 := keep_onto K2 kk
    replace K397 := keep_onto K397 kk
    replace B1 := blk_on B1 kk
    replace B2 := blk_on B2 kk
    clear kk
    refine ⟨_, rfl, K397, fun a408 e => ?_⟩
    have g113 := R.at_ e (by decide); replace R := R.put e; replace h8 := slot_on e h8 (by decide); replace h15 := slot_on e h15 (by decide); replace h114 := slot_on e h114 (by decide); replace h116 := slot_on e h116 (by decide); clear h112; have h113 := g113; clear g113; clear e
    obtain ⟨kc, hk1, hk2, hk3, hk4, hk5⟩ := HAP.out.2 (by omega)
    have hszN : ((Tm.node 4 nm 0 (ps.map (·.1)))).size = (szA (ps.map (·.1)) j : Int) := by rw [HC.out.1, HJ.out, List.length_map]
    rw [HZU.out, HZV.out, hszN] at hk1; rw [HZV.out] at hk2 hk3; rw [HZU.out] at hk4 hk5
    have hsb := Nat.le_trans (szA_mono (show j ≤ (ps.map (·.1)).length by rw [List.length_map]; exact hj)) HC.out.2.2.2.2.2.1
    obtain ⟨hmd, hge⟩ := mod_counts hk1 hk2
    obtain ⟨mx, hmx⟩ : ∃ q, max 1 (zv - 1) = q := ⟨_, rfl⟩
    rw [hmx] at hmd; have HMX := Lib.hid hmx; have HMD := Lib.hid hmd; have HGE := Lib.hid hge; clear hmx hmd hge hk1
    have HBD : Hid (1 ≤ zv ∧ zv ≤ 2000 ∧ zu ≤ 2000 ∧ 1 ≤ zu ∧ (szA (ps.map (·.1)) j : Int) ≤ 2000) := Lib.hid ⟨hk2, hk3, hk4, hk5, by omega⟩; clear hk2 hk3 hk4 hk5 hszN hsb
    have Y : ∀ W, Keep (fun g => g < w0.heap.size) w0 W → (execOp a408.eval o10_27_3).run Try.prog W = .ok (.value (.int .i64 (zu - (szA (ps.map (·.1)) j : Int)))) W := by intro W7 hS; have h9 := HBD.out; have hw : IntKind.i64.wrap (zu - (szA (ps.map (·.1)) j : Int)) = zu - (szA (ps.map (·.1)) j : Int) := (by rw [IntKind.wrap_i64]; omega); clear h9; unfold o10_27_3; go_simp
    refine dr_take (i := 3) (fuel := 12) (l' := #[true, true, true, true, true, false, false, false, false, false, false, false, false, false, false, false, false]) g10_27_3 rfl ns10_27 (by kernel_rfl) (by kernel_rfl) rfl (wanted_free rfl) K397 Y fun a410 e => ?_; clear Y
    have g115 := R.at_ e (by decide); replace R := R.put e; replace h8 := slot_on e h8 (by decide); replace h15 := slot_on e h15 (by decide); replace h116 := slot_on e h116 (by decide); clear h113 h114; have h115 := g115; clear g115; clear e
    refine dr_only (i := 5) (fuel := 11) (by kernel_rfl) ?_
    have Y : (execOp a410.eval o10_27_5).run Try.prog w407 = .ok (.enter 16 #[.agg #[.int .i64 v.k, .string (str v.nm), .int .i64 v.i, .slice va v.args.length vc]]) w407 := by unfold o10_27_5; go_simp
    refine dr_call (l' := #[true, true, true, true, true, true, false, false, false, false, false, false, false, false, false, false, false]) g10_27_5 rfl rfl (wanted_free rfl) Y ((size_sx (z := zv) (HV.out.on K1) HZV.out).mono ?_); clear Y
    rintro e9 w412 ⟨rfl, kk⟩
    replace K1 := keep_onto K1 kk
    replace K2 := keep_onto K2 kk
    replace K397 := keep_onto K397 kk
    replace B1 := blk_on B1 kk
    replace B2 := blk_on B2 kk
    clear kk
    refine ⟨_, rfl, K397, fun a413 e => ?_⟩
    have g117 := R.at_ e (by decide); replace R := R.put e; replace h8 := slot_on e h8 (by decide); replace h15 := slot_on e h15 (by decide); replace h115 := slot_on e h115 (by decide); clear h116; have h117 := g117; clear g117; clear e
    have Y : ∀ W, Keep (fun g => g < w0.heap.size) w0 W → (execOp a413.eval o10_27_6).run Try.prog W = .ok (.value (.int .i64 (zv - 1))) W := by intro W7 hS; have h9 := HBD.out; have hw : IntKind.i64.wrap (zv - 1) = zv - 1 := (by rw [IntKind.wrap_i64]; omega); clear h9; unfold o10_27_6; go_simp
    refine dr_take (i := 6) (fuel := 10) (l' := #[true, true, true, true, true, true, true, false, false, false, false, false, false, false, false, false, false]) g10_27_6 rfl ns10_27 (by kernel_rfl) (by kernel_rfl) rfl (wanted_free rfl) K397 Y fun a415 e => ?_; clear Y
    have g118 := R.at_ e (by decide); replace R := R.put e; replace h8 := slot_on e h8 (by decide); replace h15 := slot_on e h15 (by decide); replace h115 := slot_on e h115 (by decide); clear h117; have h118 := g118; clear g118; clear e
    refine dr_only (i := 7) (fuel := 9) (by kernel_rfl) ?_
    have Y : (execOp a415.eval o10_27_7).run Try.prog w412 = .ok (.value (.int .i64 mx)) w412 := by have h9 := HMX.out; have h8 : (if (1 : Int) < zv - 1 then zv - 1 else 1) = mx := (by rw [← h9]; split <;> omega); unfold o10_27_7; go_simp
    refine dr_val (l' := #[true, true, true, true, true, true, true, true, false, false, false, false, false, false, false, false, false]) g10_27_7 rfl rfl (wanted_free rfl) Y K397 fun a417 e => ?_; clear Y
    have g119 := R.at_ e (by decide); replace R := R.put e; replace h8 := slot_on e h8 (by decide); replace h15 := slot_on e h15 (by decide); replace h115 := slot_on e h115 (by decide); clear h118; have h119 := g119; clear g119; clear e
    have Y : ∀ W, Keep (fun g => g < w0.heap.size) w0 W → (execOp a417.eval o10_27_8).run Try.prog W = .ok (.value (.int .i64 0)) W := by intro W7 hS; have h9 := HMX.out; have h8 := HMD.out; have h7 : ¬ mx = 0 := (by omega); have h6 : (mx == 0) = false := (by simpa using h7); have h5 : ¬ mx = -1 := (by omega); have h4 : IntKind.i64.wrap 0 = 0 := (by decide); clear h9; unfold o10_27_8; go_simp
    refine dr_take (i := 8) (fuel := 8) (l' := #[true, true, true, true, true, true, true, true, true, false, false, false, false, false, false, false, false]) g10_27_8 rfl ns10_27 (by kernel_rfl) (by kernel_rfl) rfl (wanted_free rfl) K397 Y fun a419 e => ?_; clear Y
    have g120 := R.at_ e (by decide); replace R := R.put e; replace h8 := slot_on e h8 (by decide); replace h15 := slot_on e h15 (by decide); clear h115 h119; have h120 := g120; clear g120; clear e
    have Y : ∀ W, Keep (fun g => g < w0.heap.size) w0 W → (execOp a419.eval o10_27_9).run Try.prog W = .ok (.value (.bool true)) W := by intro W7 hS; unfold o10_27_9; go_simp
    refine dr_take (i := 9) (fuel := 7) (l' := #[true, true, true, true, true, true, true, true, true, true, false, false, false, false, false, false, false]) g10_27_9 rfl ns10_27 (by kernel_rfl) (by kernel_rfl) rfl (wanted_free rfl) K397 Y fun a421 e => ?_; clear Y
    have g121 := R.at_ e (by decide); replace R := R.put e; replace h8 := slot_on e h8 (by decide); replace h15 := slot_on e h15 (by decide); clear h120; have h121 := g121; clear g121; clear e
    have Y : ∀ W, Keep (fun g => g < w0.heap.size) w0 W → (execOp a421.eval o10_27_10).run Try.prog W = .ok (.value (.bool true)) W := by intro W7 hS; unfold o10_27_10; go_simp
    refine dr_take (i := 10) (fuel := 6) (l' := #[true, true, true, true, true, true, true, true, true, true, true, false, false, false, false, false, false]) g10_27_10 rfl ns10_27 (by kernel_rfl) (by kernel_rfl) rfl (wanted_free rfl) K397 Y fun a423 e => ?_; clear Y
    have g122 := R.at_ e (by decide); replace R := R.put e; replace h8 := slot_on e h8 (by decide); replace h15 := slot_on e h15 (by decide); clear h121; have h122 := g122; clear g122; clear e
    have Y : ∀ W, Keep (fun g => g < w0.heap.size) w0 W → (execOp a423.eval o10_27_11).run Try.prog W = .ok (.value (.agg #[.int .i64 xr.k, .string (str xr.nm), .int .i64 xr.i, .slice ax xr.args.length cx])) W := by intro W7 hS; have D := D400.keep hS D400.lt; have qq0 : W7.cell? ⟨b2, 0, none⟩ = some (.int .i64 xr.k) := D.cell 0; have qq1 : W7.cell? ⟨b2, 1, none⟩ = some (.string (str xr.nm)) := D.cell 1; have qq2 : W7.cell? ⟨b2, 2, none⟩ = some (.int .i64 xr.i) := D.cell 2; have qq3 : W7.cell? ⟨b2, 3, none⟩ = some (.slice ax xr.args.length cx) := D.cell 3; unfold o10_27_11; go_simp
    refine dr_take (i := 11) (fuel := 5) (l' := #[true, true, true, true, true, true, true, true, true, true, true, true, false, false, false, false, false]) g10_27_11 rfl ns10_27 (by kernel_rfl) (by kernel_rfl) rfl (wanted_is (j := 10) (d := 122) rfl rfl h122 rfl) K397 Y fun a425 e => ?_; clear Y
    have g123 := R.at_ e (by decide); replace R := R.put e; replace h8 := slot_on e h8 (by decide); replace h122 := slot_on e h122 (by decide); clear h15; have h123 := g123; clear g123; clear e
    have Y : ∀ W, Keep (fun g => g < w0.heap.size) w0 W → (execOp a425.eval o10_27_13).run Try.prog W = .ok (.value (.int .i64 (szA (ps.map (·.1)) j : Int))) W := by intro W7 hS; unfold o10_27_13; go_simp
    refine dr_take (i := 13) (fuel := 4) (l' := #[true, true, true, true, true, true, true, true, true, true, true, true, false, true, false, false, false]) g10_27_13 rfl ns10_27 (by kernel_rfl) (by kernel_rfl) rfl (wanted_is (j := 10) (d := 122) rfl rfl h122 rfl) K397 Y fun a427 e => ?_; clear Y
    have g125 := R.at_ e (by decide); replace R := R.put e; replace h122 := slot_on e h122 (by decide); replace h123 := slot_on e h123 (by decide); clear h8; have h125 := g125; clear g125; clear e
    refine dr_only (i := 12) (fuel := 3) (by kernel_rfl) ?_
    have Y : (execOp a427.eval o10_27_12).run Try.prog w412 = .ok (.enter 16 #[.agg #[.int .i64 xr.k, .string (str xr.nm), .int .i64 xr.i, .slice ax xr.args.length cx]]) w412 := by unfold o10_27_12; go_simp
    refine dr_call (l' := #[true, true, true, true, true, true, true, true, true, true, true, true, true, true, false, false, false]) g10_27_12 rfl rfl (wanted_is (j := 10) (d := 122) rfl rfl h122 rfl) Y ((size_sx (z := zu) (HX.out.on K2) HZU.out).mono ?_); clear Y
    rintro e9 w429 ⟨rfl, kk⟩
    replace K1 := keep_onto K1 kk
    replace K2 := keep_onto K2 kk
    replace K397 := keep_onto K397 kk
    replace B1 := blk_on B1 kk
    replace B2 := blk_on B2 kk
    clear kk
    refine ⟨_, rfl, K397, fun a430 e => ?_⟩
    have g124 := R.at_ e (by decide); replace R := R.put e; replace h122 := slot_on e h122 (by decide); replace h125 := slot_on e h125 (by decide); clear h123; have h124 := g124; clear g124; clear e
    have Y : ∀ W, Keep (fun g => g < w0.heap.size) w0 W → (execOp a430.eval o10_27_14).run Try.prog W = .ok (.value (.bool true)) W := by intro W7 hS; have h9 := HGE.out; unfold o10_27_14; go_simp
    refine dr_take (i := 14) (fuel := 2) (l' := #[true, true, true, true, true, true, true, true, true, true, true, true, true, true, true, false, false]) g10_27_14 rfl ns10_27 (by kernel_rfl) (by kernel_rfl) rfl (wanted_is (j := 10) (d := 122) rfl rfl h122 rfl) K397 Y fun a432 e => ?_; clear Y
    have g126 := R.at_ e (by decide); replace R := R.put e; replace h122 := slot_on e h122 (by decide); clear h124 h125; have h126 := g126; clear g126; clear e
    have Y : ∀ W, Keep (fun g => g < w0.heap.size) w0 W → (execOp a432.eval o10_27_15).run Try.prog W = .ok (.value (.bool true)) W := by intro W7 hS; unfold o10_27_15; go_simp
    refine dr_take (i := 15) (fuel := 1) (l' := #[true, true, true, true, true, true, true, true, true, true, true, true, true, true, true, true, false]) g10_27_15 rfl ns10_27 (by kernel_rfl) (by kernel_rfl) rfl (wanted_free rfl) K397 Y fun a434 e => ?_; clear Y
    have g127 := R.at_ e (by decide); replace R := R.put e; clear h122 h126; have h127 := g127; clear g127; clear e
    have Y : ∀ W, Keep (fun g => g < w0.heap.size) w0 W → (execOp a434.eval o10_27_16).run Try.prog W = .ok (.value (.bool true)) W := by intro W7 hS; unfold o10_27_16; go_simp
    refine dr_take (i := 16) (fuel := 0) (l' := #[true, true, true, true, true, true, true, true, true, true, true, true, true, true, true, true, true]) g10_27_16 rfl ns10_27 (by kernel_rfl) (by kernel_rfl) rfl (wanted_free rfl) K397 Y fun a436 e => ?_; clear Y
    have g6 := R.at_ e (by decide); replace R := R.put e; clear h127; have h6 := g6; clear g6; clear e
    refine dr_end (by kernel_rfl) ?_
    clear K397 EK1 EK2 D399 D400
    change (Code.ret).wp _ _ _ _
    refine wp_ret ?_
    change bodyPost Try.prog Try.f10 (fun e w' => e = .returned (.bool true) ∧ Keep (fun g => g < W.heap.size) W w') .ret a436 w429
    refine ret_one rfl R h6 ?_
    exact ⟨rfl, K1⟩
  | true =>
    have fb394 := hb394; clear hb394
    simp only [decide_eq_true_eq, decide_eq_false_iff_not, bne_iff_ne, bne_eq_false_iff_eq, beq_iff_eq, beq_eq_false_iff_ne, ne_eq, Bool.not_eq_true', Bool.not_eq_false', Bool.not_eq_eq_eq_not, Bool.not_true, Bool.not_false] at fb394
    refine wp_cond_true (x := c10_86) (y := Code.skip) (eval_slot h109) ?_
    refine wp_seq (x := c10_87) (y := Code.ret) ?_
    change (Code.region 26 O10_26 false).wp _ _ _ _
    refine reg_in (l := [0, 1, 2]) rfl ?_
    have Y : (execOp a395.eval o10_26_0).run Try.prog w0 = .ok (.value (.int .i64 er)) w0 := by unfold o10_26_0; go_simp
    refine st_val g10_26_0 rfl (wanted_free rfl) Y fun a438 e => ?_; clear Y
    have g110 := R.at_ e (by decide); replace R := R.put e; replace h5 := slot_on e h5 (by decide); replace h8 := slot_on e h8 (by decide); replace h15 := slot_on e h15 (by decide); clear h16 h109; have h110 := g110; clear g110; clear e
    have Y : (execOp a438.eval o10_26_1).run Try.prog w0 = .ok (.value (.bool true)) w0 := by have h2 : er = 2 := (by rcases HAP.out.1 with h | h; exact h; omega); unfold o10_26_1; go_simp
    refine st_val g10_26_1 rfl (wanted_free rfl) Y fun a440 e => ?_; clear Y
    have g111 := R.at_ e (by decide); replace R := R.put e; replace h5 := slot_on e h5 (by decide); replace h8 := slot_on e h8 (by decide); replace h15 := slot_on e h15 (by decide); clear h110; have h111 := g111; clear g111; clear e
    have Y : (execOp a440.eval o10_26_2).run Try.prog w0 = .ok (.value (.bool true)) w0 := by unfold o10_26_2; go_simp
    refine st_val g10_26_2 rfl (wanted_free rfl) Y fun a442 e => ?_; clear Y
    have g6 := R.at_ e (by decide); replace R := R.put e; replace h5 := slot_on e h5 (by decide); replace h8 := slot_on e h8 (by decide); replace h15 := slot_on e h15 (by decide); clear h111; have h6 := g6; clear g6; clear e
    refine st_end ?_
    change (Code.ret).wp _ _ _ _
    refine wp_ret ?_
    change bodyPost Try.prog Try.f10 (fun e w' => e = .returned (.bool true) ∧ Keep (fun g => g < W.heap.size) W w') .ret a442 w0
    refine ret_one rfl R h6 ?_
    exact ⟨rfl, K1⟩

end Go.Proofs.Ytaaodgkbopficaa
