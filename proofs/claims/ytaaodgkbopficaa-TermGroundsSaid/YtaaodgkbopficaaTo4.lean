/-
  The law of terms without variables: walked with letter frames. No condition but where the terms lie.
-/
import Derived.Test.YtaaodgkbopficaaSx3
import Derived.Test.YtaaodgkbopficaaTp3
import Derived.Test.YtaaodgkbopficaaTr1
namespace Go.Proofs.Ytaaodgkbopficaa
open Go.RowKit Go.Maps
set_option linter.unusedVariables false
set_option linter.unusedSimpArgs false

def o9_0_0 : Oper := { dst := some 3, op := Go.Op.box 24 (Go.Operand.tmp 0), type := 0, pos := "law.go:282", after := #[], guard := none }
def o9_0_1 : Oper := { dst := some 4, op := Go.Op.box 24 (Go.Operand.tmp 1), type := 0, pos := "law.go:282", after := #[], guard := none }
def o9_0_2 : Oper := { dst := some 6, op := Go.Op.assign (Go.Operand.const (Go.Value.bool false)), type := 4, pos := "law.go:282", after := #[], guard := none }
def O9_0 : Array Oper := List.toArray (o9_0_0 :: o9_0_1 :: o9_0_2 :: [])
theorem g9_0_0 : O9_0[0]? = some o9_0_0 := rfl
theorem g9_0_1 : O9_0[1]? = some o9_0_1 := rfl
theorem g9_0_2 : O9_0[2]? = some o9_0_2 := rfl
def c9_1 : Code := Code.region 0 O9_0 false
def o9_1_0 : Oper := { dst := some 15, op := Go.Op.call { callee := Go.Callee.value (Go.Operand.func 13), args := #[], argTypes := #[] }, type := 4, pos := "law.go:283", after := #[], guard := none }
def o9_1_1 : Oper := { dst := some 16, op := Go.Op.unOp Go.UnOp.not 4 (Go.Operand.tmp 15), type := 4, pos := "law.go:283", after := #[{ on := 0, ground := Go.Ground.data }], guard := none }
def O9_1 : Array Oper := List.toArray (o9_1_0 :: o9_1_1 :: [])
theorem g9_1_0 : O9_1[0]? = some o9_1_0 := rfl
theorem g9_1_1 : O9_1[1]? = some o9_1_1 := rfl
def c9_4 : Code := Code.region 1 O9_1 false
def o9_2_0 : Oper := { dst := some 6, op := Go.Op.assign (Go.Operand.const (Go.Value.bool false)), type := 4, pos := "law.go:284", after := #[], guard := none }
def O9_2 : Array Oper := List.toArray (o9_2_0 :: [])
theorem g9_2_0 : O9_2[0]? = some o9_2_0 := rfl
def c9_7 : Code := Code.region 2 O9_2 false
def c9_6 : Code := Code.seq c9_7 Code.ret
def c9_5 : Code := Code.cond (Go.Operand.tmp 16) c9_6 Code.skip
def c9_3 : Code := Code.seq c9_4 c9_5
def o9_3_0 : Oper := { dst := some 17, op := Go.Op.load 24 (Go.Operand.tmp 3), type := 24, pos := "law.go:286", after := #[], guard := none }
def o9_3_1 : Oper := { dst := some 18, op := Go.Op.call { callee := Go.Callee.value (Go.Operand.func 15), args := #[Go.Operand.tmp 17], argTypes := #[24] }, type := 27, pos := "law.go:286", after := #[{ on := 0, ground := Go.Ground.data }], guard := none }
def o9_3_2 : Oper := { dst := some 19, op := Go.Op.binOp Go.BinOp.neq 27 (Go.Operand.tmp 18) (Go.Operand.const (Go.Value.int Go.IntKind.i64 0)) 27, type := 4, pos := "law.go:286", after := #[{ on := 1, ground := Go.Ground.data }], guard := none }
def o9_3_3 : Oper := { dst := some 20, op := Go.Op.move (Go.Operand.tmp 19), type := 4, pos := "law.go:286", after := #[{ on := 2, ground := Go.Ground.data }, { on := 1, ground := Go.Ground.chain }], guard := none }
def o9_3_4 : Oper := { dst := some 21, op := Go.Op.load 24 (Go.Operand.tmp 4), type := 24, pos := "law.go:286", after := #[{ on := 3, ground := Go.Ground.guard }], guard := some (3, false) }
def o9_3_5 : Oper := { dst := some 22, op := Go.Op.call { callee := Go.Callee.value (Go.Operand.func 15), args := #[Go.Operand.tmp 21], argTypes := #[24] }, type := 27, pos := "law.go:286", after := #[{ on := 4, ground := Go.Ground.data }, { on := 3, ground := Go.Ground.chain }, { on := 3, ground := Go.Ground.guard }], guard := some (3, false) }
def o9_3_6 : Oper := { dst := some 23, op := Go.Op.binOp Go.BinOp.neq 27 (Go.Operand.tmp 22) (Go.Operand.const (Go.Value.int Go.IntKind.i64 0)) 27, type := 4, pos := "law.go:286", after := #[{ on := 5, ground := Go.Ground.data }, { on := 3, ground := Go.Ground.guard }], guard := some (3, false) }
def o9_3_7 : Oper := { dst := some 24, op := Go.Op.pick (Go.Operand.tmp 20) (Go.Operand.const (Go.Value.bool true)) (Go.Operand.tmp 23), type := 4, pos := "law.go:286", after := #[{ on := 3, ground := Go.Ground.data }, { on := 6, ground := Go.Ground.data }], guard := none }
def O9_3 : Array Oper := List.toArray (o9_3_0 :: o9_3_1 :: o9_3_2 :: o9_3_3 :: o9_3_4 :: o9_3_5 :: o9_3_6 :: o9_3_7 :: [])
theorem g9_3_0 : O9_3[0]? = some o9_3_0 := rfl
theorem g9_3_1 : O9_3[1]? = some o9_3_1 := rfl
theorem g9_3_2 : O9_3[2]? = some o9_3_2 := rfl
theorem g9_3_3 : O9_3[3]? = some o9_3_3 := rfl
theorem g9_3_4 : O9_3[4]? = some o9_3_4 := rfl
theorem g9_3_5 : O9_3[5]? = some o9_3_5 := rfl
theorem g9_3_6 : O9_3[6]? = some o9_3_6 := rfl
theorem g9_3_7 : O9_3[7]? = some o9_3_7 := rfl
def c9_12 : Code := Code.region 3 O9_3 false
def o9_4_0 : Oper := { dst := some 6, op := Go.Op.assign (Go.Operand.const (Go.Value.bool true)), type := 4, pos := "law.go:287", after := #[], guard := none }
def O9_4 : Array Oper := List.toArray (o9_4_0 :: [])
theorem g9_4_0 : O9_4[0]? = some o9_4_0 := rfl
def c9_15 : Code := Code.region 4 O9_4 false
def c9_14 : Code := Code.seq c9_15 Code.ret
def c9_13 : Code := Code.cond (Go.Operand.tmp 24) c9_14 Code.skip
def c9_11 : Code := Code.seq c9_12 c9_13
def o9_5_0 : Oper := { dst := some 25, op := Go.Op.buildSlice 36 0 #[], type := 36, pos := "law.go:289", after := #[], guard := none }
def o9_5_1 : Oper := { dst := some 7, op := Go.Op.assign (Go.Operand.tmp 25), type := 36, pos := "law.go:289", after := #[{ on := 0, ground := Go.Ground.data }, { on := 0, ground := Go.Ground.phase }], guard := none }
def O9_5 : Array Oper := List.toArray (o9_5_0 :: o9_5_1 :: [])
theorem g9_5_0 : O9_5[0]? = some o9_5_0 := rfl
theorem g9_5_1 : O9_5[1]? = some o9_5_1 := rfl
def c9_19 : Code := Code.region 5 O9_5 false
def o9_6_0 : Oper := { dst := some 26, op := Go.Op.move (Go.Operand.tmp 2), type := 36, pos := "law.go:290", after := #[], guard := none }
def o9_6_1 : Oper := { dst := some 27, op := Go.Op.call { callee := Go.Callee.builtin Go.Builtin.len, args := #[Go.Operand.tmp 26], argTypes := #[36] }, type := 3, pos := "law.go:290", after := #[{ on := 0, ground := Go.Ground.data }], guard := none }
def o9_6_2 : Oper := { dst := some 28, op := Go.Op.move (Go.Operand.const (Go.Value.int Go.IntKind.i64 0)), type := 3, pos := "law.go:290", after := #[], guard := none }
def O9_6 : Array Oper := List.toArray (o9_6_0 :: o9_6_1 :: o9_6_2 :: [])
theorem g9_6_0 : O9_6[0]? = some o9_6_0 := rfl
theorem g9_6_1 : O9_6[1]? = some o9_6_1 := rfl
theorem g9_6_2 : O9_6[2]? = some o9_6_2 := rfl
def c9_22 : Code := Code.region 6 O9_6 false
def o9_7_0 : Oper := { dst := some 29, op := Go.Op.binOp Go.BinOp.lss 3 (Go.Operand.tmp 28) (Go.Operand.tmp 27) 3, type := 0, pos := "law.go:290", after := #[], guard := none }
def O9_7 : Array Oper := List.toArray (o9_7_0 :: [])
theorem g9_7_0 : O9_7[0]? = some o9_7_0 := rfl
def c9_26 : Code := Code.region 7 O9_7 false
def c9_30 : Code := Code.exit 0
def c9_28 : Code := Code.cond (Go.Operand.tmp 29) Code.skip c9_30
def o9_8_0 : Oper := { dst := some 30, op := Go.Op.indexAddr 36 (Go.Operand.tmp 26) (Go.Operand.tmp 28), type := 0, pos := "law.go:290", after := #[], guard := none }
def o9_8_1 : Oper := { dst := some 31, op := Go.Op.load 41 (Go.Operand.tmp 30), type := 41, pos := "law.go:290", after := #[{ on := 0, ground := Go.Ground.data }], guard := none }
def o9_8_2 : Oper := { dst := some 9, op := Go.Op.alloc 41, type := 0, pos := "law.go:290", after := #[], guard := none }
def o9_8_3 : Oper := { dst := none, op := Go.Op.store 41 (Go.Operand.tmp 9) (Go.Operand.tmp 31), type := 0, pos := "law.go:290", after := #[{ on := 2, ground := Go.Ground.data }, { on := 1, ground := Go.Ground.data }, { on := 0, ground := Go.Ground.phase }, { on := 1, ground := Go.Ground.phase }, { on := 2, ground := Go.Ground.phase }], guard := none }
def O9_8 : Array Oper := List.toArray (o9_8_0 :: o9_8_1 :: o9_8_2 :: o9_8_3 :: [])
theorem g9_8_0 : O9_8[0]? = some o9_8_0 := rfl
theorem g9_8_1 : O9_8[1]? = some o9_8_1 := rfl
theorem g9_8_2 : O9_8[2]? = some o9_8_2 := rfl
theorem g9_8_3 : O9_8[3]? = some o9_8_3 := rfl
def c9_34 : Code := Code.region 8 O9_8 false
def o9_9_0 : Oper := { dst := some 32, op := Go.Op.load 24 (Go.Operand.tmp 3), type := 24, pos := "law.go:291", after := #[], guard := none }
def o9_9_1 : Oper := { dst := some 33, op := Go.Op.call { callee := Go.Callee.value (Go.Operand.func 18), args := #[Go.Operand.tmp 32], argTypes := #[24] }, type := 30, pos := "law.go:291", after := #[{ on := 0, ground := Go.Ground.data }], guard := none }
def o9_9_2 : Oper := { dst := some 34, op := Go.Op.fieldAddr 41 (Go.Operand.tmp 9) 0, type := 0, pos := "law.go:291", after := #[], guard := none }
def o9_9_3 : Oper := { dst := some 35, op := Go.Op.load 2 (Go.Operand.tmp 34), type := 2, pos := "law.go:291", after := #[{ on := 2, ground := Go.Ground.data }], guard := none }
def o9_9_4 : Oper := { dst := some 36, op := Go.Op.call { callee := Go.Callee.value (Go.Operand.func 31), args := #[Go.Operand.tmp 33, Go.Operand.tmp 35], argTypes := #[30, 2] }, type := 4, pos := "law.go:291", after := #[{ on := 1, ground := Go.Ground.data }, { on := 3, ground := Go.Ground.data }, { on := 1, ground := Go.Ground.chain }], guard := none }
def o9_9_5 : Oper := { dst := some 37, op := Go.Op.unOp Go.UnOp.not 4 (Go.Operand.tmp 36), type := 4, pos := "law.go:291", after := #[{ on := 4, ground := Go.Ground.data }], guard := none }
def O9_9 : Array Oper := List.toArray (o9_9_0 :: o9_9_1 :: o9_9_2 :: o9_9_3 :: o9_9_4 :: o9_9_5 :: [])
theorem g9_9_0 : O9_9[0]? = some o9_9_0 := rfl
theorem g9_9_1 : O9_9[1]? = some o9_9_1 := rfl
theorem g9_9_2 : O9_9[2]? = some o9_9_2 := rfl
theorem g9_9_3 : O9_9[3]? = some o9_9_3 := rfl
theorem g9_9_4 : O9_9[4]? = some o9_9_4 := rfl
theorem g9_9_5 : O9_9[5]? = some o9_9_5 := rfl
theorem ns9_9 : Region.noSelect O9_9 = true := by kernel_rfl
def c9_36 : Code := Code.region 9 O9_9 true
def o9_10_0 : Oper := { dst := some 38, op := Go.Op.move (Go.Operand.tmp 7), type := 36, pos := "law.go:292", after := #[], guard := none }
def o9_10_1 : Oper := { dst := some 39, op := Go.Op.load 41 (Go.Operand.tmp 9), type := 41, pos := "law.go:292", after := #[], guard := none }
def o9_10_2 : Oper := { dst := some 40, op := Go.Op.buildSlice 36 1 #[(0, Go.Operand.tmp 39)], type := 36, pos := "law.go:292", after := #[{ on := 1, ground := Go.Ground.data }], guard := none }
def o9_10_3 : Oper := { dst := some 41, op := Go.Op.call { callee := Go.Callee.builtin Go.Builtin.append, args := #[Go.Operand.tmp 38, Go.Operand.tmp 40], argTypes := #[36, 36] }, type := 36, pos := "law.go:292", after := #[{ on := 0, ground := Go.Ground.data }, { on := 2, ground := Go.Ground.data }], guard := none }
def o9_10_4 : Oper := { dst := some 7, op := Go.Op.assign (Go.Operand.tmp 41), type := 36, pos := "law.go:292", after := #[{ on := 3, ground := Go.Ground.data }, { on := 3, ground := Go.Ground.chain }, { on := 0, ground := Go.Ground.phase }, { on := 1, ground := Go.Ground.phase }, { on := 2, ground := Go.Ground.phase }, { on := 3, ground := Go.Ground.phase }], guard := none }
def O9_10 : Array Oper := List.toArray (o9_10_0 :: o9_10_1 :: o9_10_2 :: o9_10_3 :: o9_10_4 :: [])
theorem g9_10_0 : O9_10[0]? = some o9_10_0 := rfl
theorem g9_10_1 : O9_10[1]? = some o9_10_1 := rfl
theorem g9_10_2 : O9_10[2]? = some o9_10_2 := rfl
theorem g9_10_3 : O9_10[3]? = some o9_10_3 := rfl
theorem g9_10_4 : O9_10[4]? = some o9_10_4 := rfl
def c9_38 : Code := Code.region 10 O9_10 false
def c9_37 : Code := Code.cond (Go.Operand.tmp 37) c9_38 Code.skip
def c9_35 : Code := Code.seq c9_36 c9_37
def c9_33 : Code := Code.seq c9_34 c9_35
def c9_32 : Code := Code.block 1 c9_33
def o9_11_0 : Oper := { dst := some 42, op := Go.Op.binOp Go.BinOp.add 3 (Go.Operand.tmp 28) (Go.Operand.const (Go.Value.int Go.IntKind.i64 1)) 3, type := 3, pos := "law.go:290", after := #[], guard := none }
def o9_11_1 : Oper := { dst := some 28, op := Go.Op.move (Go.Operand.tmp 42), type := 3, pos := "law.go:290", after := #[{ on := 0, ground := Go.Ground.data }], guard := none }
def O9_11 : Array Oper := List.toArray (o9_11_0 :: o9_11_1 :: [])
theorem g9_11_0 : O9_11[0]? = some o9_11_0 := rfl
theorem g9_11_1 : O9_11[1]? = some o9_11_1 := rfl
def c9_40 : Code := Code.region 11 O9_11 false
def c9_31 : Code := Code.seq c9_32 c9_40
def c9_27 : Code := Code.seq c9_28 c9_31
def c9_25 : Code := Code.seq c9_26 c9_27
def c9_24 : Code := Code.loop c9_25
def c9_23 : Code := Code.block 0 c9_24
def c9_21 : Code := Code.seq c9_22 c9_23
def o9_12_0 : Oper := { dst := some 44, op := Go.Op.load 24 (Go.Operand.tmp 3), type := 24, pos := "law.go:295", after := #[], guard := none }
def o9_12_1 : Oper := { dst := some 45, op := Go.Op.move (Go.Operand.tmp 7), type := 36, pos := "law.go:295", after := #[], guard := none }
def o9_12_2 : Oper := { dst := some 46, op := Go.Op.call { callee := Go.Callee.value (Go.Operand.func 30), args := #[Go.Operand.tmp 44, Go.Operand.tmp 45], argTypes := #[24, 36] }, type := 42, pos := "law.go:295", after := #[{ on := 0, ground := Go.Ground.data }, { on := 1, ground := Go.Ground.data }], guard := none }
def o9_12_3 : Oper := { dst := some 43, op := Go.Op.move (Go.Operand.tmp 46), type := 42, pos := "law.go:295", after := #[{ on := 2, ground := Go.Ground.data }], guard := none }
def o9_12_4 : Oper := { dst := some 47, op := Go.Op.extract (Go.Operand.tmp 43) 0, type := 24, pos := "law.go:295", after := #[{ on := 3, ground := Go.Ground.data }], guard := none }
def o9_12_5 : Oper := { dst := some 48, op := Go.Op.extract (Go.Operand.tmp 43) 1, type := 27, pos := "law.go:295", after := #[{ on := 3, ground := Go.Ground.data }, { on := 7, ground := Go.Ground.gcOnly Go.Departure.lateStores }], guard := none }
def o9_12_6 : Oper := { dst := some 10, op := Go.Op.alloc 24, type := 0, pos := "law.go:295", after := #[], guard := none }
def o9_12_7 : Oper := { dst := none, op := Go.Op.store 24 (Go.Operand.tmp 10) (Go.Operand.tmp 47), type := 0, pos := "law.go:295", after := #[{ on := 6, ground := Go.Ground.data }, { on := 4, ground := Go.Ground.data }, { on := 2, ground := Go.Ground.chain }, { on := 0, ground := Go.Ground.phase }, { on := 1, ground := Go.Ground.phase }, { on := 2, ground := Go.Ground.phase }, { on := 3, ground := Go.Ground.phase }, { on := 4, ground := Go.Ground.phase }, { on := 5, ground := Go.Ground.textOnly Go.Departure.lateStores }, { on := 6, ground := Go.Ground.phase }], guard := none }
def o9_12_8 : Oper := { dst := some 11, op := Go.Op.assign (Go.Operand.tmp 48), type := 27, pos := "law.go:295", after := #[{ on := 5, ground := Go.Ground.data }, { on := 7, ground := Go.Ground.chain }, { on := 0, ground := Go.Ground.phase }, { on := 1, ground := Go.Ground.phase }, { on := 2, ground := Go.Ground.phase }, { on := 3, ground := Go.Ground.phase }, { on := 4, ground := Go.Ground.phase }, { on := 5, ground := Go.Ground.phase }, { on := 6, ground := Go.Ground.phase }, { on := 7, ground := Go.Ground.phase }], guard := none }
def O9_12 : Array Oper := List.toArray (o9_12_0 :: o9_12_1 :: o9_12_2 :: o9_12_3 :: o9_12_4 :: o9_12_5 :: o9_12_6 :: o9_12_7 :: o9_12_8 :: [])
theorem g9_12_0 : O9_12[0]? = some o9_12_0 := rfl
theorem g9_12_1 : O9_12[1]? = some o9_12_1 := rfl
theorem g9_12_2 : O9_12[2]? = some o9_12_2 := rfl
theorem g9_12_3 : O9_12[3]? = some o9_12_3 := rfl
theorem g9_12_4 : O9_12[4]? = some o9_12_4 := rfl
theorem g9_12_5 : O9_12[5]? = some o9_12_5 := rfl
theorem g9_12_6 : O9_12[6]? = some o9_12_6 := rfl
theorem g9_12_7 : O9_12[7]? = some o9_12_7 := rfl
theorem g9_12_8 : O9_12[8]? = some o9_12_8 := rfl
def c9_42 : Code := Code.region 12 O9_12 false
def o9_13_0 : Oper := { dst := some 49, op := Go.Op.move (Go.Operand.tmp 11), type := 27, pos := "law.go:296", after := #[], guard := none }
def o9_13_1 : Oper := { dst := some 50, op := Go.Op.binOp Go.BinOp.neq 27 (Go.Operand.tmp 49) (Go.Operand.const (Go.Value.int Go.IntKind.i64 0)) 27, type := 4, pos := "law.go:296", after := #[{ on := 0, ground := Go.Ground.data }], guard := none }
def o9_13_2 : Oper := { dst := some 51, op := Go.Op.move (Go.Operand.tmp 50), type := 4, pos := "law.go:296", after := #[{ on := 1, ground := Go.Ground.data }], guard := none }
def o9_13_3 : Oper := { dst := some 52, op := Go.Op.load 24 (Go.Operand.tmp 10), type := 24, pos := "law.go:296", after := #[{ on := 2, ground := Go.Ground.guard }], guard := some (2, false) }
def o9_13_4 : Oper := { dst := some 53, op := Go.Op.load 24 (Go.Operand.tmp 3), type := 24, pos := "law.go:296", after := #[{ on := 2, ground := Go.Ground.guard }], guard := some (2, false) }
def o9_13_5 : Oper := { dst := some 54, op := Go.Op.call { callee := Go.Callee.value (Go.Operand.func 19), args := #[Go.Operand.tmp 52, Go.Operand.tmp 53], argTypes := #[24, 24] }, type := 4, pos := "law.go:296", after := #[{ on := 3, ground := Go.Ground.data }, { on := 4, ground := Go.Ground.data }, { on := 2, ground := Go.Ground.chain }, { on := 2, ground := Go.Ground.guard }], guard := some (2, false) }
def o9_13_6 : Oper := { dst := some 55, op := Go.Op.unOp Go.UnOp.not 4 (Go.Operand.tmp 54), type := 4, pos := "law.go:296", after := #[{ on := 5, ground := Go.Ground.data }, { on := 2, ground := Go.Ground.guard }], guard := some (2, false) }
def o9_13_7 : Oper := { dst := some 56, op := Go.Op.pick (Go.Operand.tmp 51) (Go.Operand.const (Go.Value.bool true)) (Go.Operand.tmp 55), type := 4, pos := "law.go:296", after := #[{ on := 2, ground := Go.Ground.data }, { on := 6, ground := Go.Ground.data }], guard := none }
def O9_13 : Array Oper := List.toArray (o9_13_0 :: o9_13_1 :: o9_13_2 :: o9_13_3 :: o9_13_4 :: o9_13_5 :: o9_13_6 :: o9_13_7 :: [])
theorem g9_13_0 : O9_13[0]? = some o9_13_0 := rfl
theorem g9_13_1 : O9_13[1]? = some o9_13_1 := rfl
theorem g9_13_2 : O9_13[2]? = some o9_13_2 := rfl
theorem g9_13_3 : O9_13[3]? = some o9_13_3 := rfl
theorem g9_13_4 : O9_13[4]? = some o9_13_4 := rfl
theorem g9_13_5 : O9_13[5]? = some o9_13_5 := rfl
theorem g9_13_6 : O9_13[6]? = some o9_13_6 := rfl
theorem g9_13_7 : O9_13[7]? = some o9_13_7 := rfl
def c9_45 : Code := Code.region 13 O9_13 false
def o9_14_0 : Oper := { dst := some 6, op := Go.Op.assign (Go.Operand.const (Go.Value.bool false)), type := 4, pos := "law.go:297", after := #[], guard := none }
def O9_14 : Array Oper := List.toArray (o9_14_0 :: [])
theorem g9_14_0 : O9_14[0]? = some o9_14_0 := rfl
def c9_48 : Code := Code.region 14 O9_14 false
def c9_47 : Code := Code.seq c9_48 Code.ret
def c9_46 : Code := Code.cond (Go.Operand.tmp 56) c9_47 Code.skip
def c9_44 : Code := Code.seq c9_45 c9_46
def o9_15_0 : Oper := { dst := some 57, op := Go.Op.load 24 (Go.Operand.tmp 3), type := 24, pos := "law.go:299", after := #[], guard := none }
def o9_15_1 : Oper := { dst := some 58, op := Go.Op.call { callee := Go.Callee.value (Go.Operand.func 18), args := #[Go.Operand.tmp 57], argTypes := #[24] }, type := 30, pos := "law.go:299", after := #[{ on := 0, ground := Go.Ground.data }], guard := none }
def o9_15_2 : Oper := { dst := some 59, op := Go.Op.call { callee := Go.Callee.builtin Go.Builtin.len, args := #[Go.Operand.tmp 58], argTypes := #[30] }, type := 3, pos := "law.go:299", after := #[{ on := 1, ground := Go.Ground.data }], guard := none }
def o9_15_3 : Oper := { dst := some 60, op := Go.Op.binOp Go.BinOp.gtr 3 (Go.Operand.tmp 59) (Go.Operand.const (Go.Value.int Go.IntKind.i64 0)) 3, type := 4, pos := "law.go:299", after := #[{ on := 2, ground := Go.Ground.data }], guard := none }
def o9_15_4 : Oper := { dst := some 61, op := Go.Op.move (Go.Operand.tmp 60), type := 4, pos := "law.go:299", after := #[{ on := 3, ground := Go.Ground.data }, { on := 1, ground := Go.Ground.chain }], guard := none }
def o9_15_5 : Oper := { dst := some 62, op := Go.Op.load 24 (Go.Operand.tmp 4), type := 24, pos := "law.go:299", after := #[{ on := 4, ground := Go.Ground.guard }], guard := some (4, false) }
def o9_15_6 : Oper := { dst := some 63, op := Go.Op.call { callee := Go.Callee.value (Go.Operand.func 18), args := #[Go.Operand.tmp 62], argTypes := #[24] }, type := 30, pos := "law.go:299", after := #[{ on := 5, ground := Go.Ground.data }, { on := 4, ground := Go.Ground.chain }, { on := 4, ground := Go.Ground.guard }], guard := some (4, false) }
def o9_15_7 : Oper := { dst := some 64, op := Go.Op.call { callee := Go.Callee.builtin Go.Builtin.len, args := #[Go.Operand.tmp 63], argTypes := #[30] }, type := 3, pos := "law.go:299", after := #[{ on := 6, ground := Go.Ground.data }, { on := 4, ground := Go.Ground.guard }], guard := some (4, false) }
def o9_15_8 : Oper := { dst := some 65, op := Go.Op.binOp Go.BinOp.gtr 3 (Go.Operand.tmp 64) (Go.Operand.const (Go.Value.int Go.IntKind.i64 0)) 3, type := 4, pos := "law.go:299", after := #[{ on := 7, ground := Go.Ground.data }, { on := 4, ground := Go.Ground.guard }], guard := some (4, false) }
def o9_15_9 : Oper := { dst := some 66, op := Go.Op.pick (Go.Operand.tmp 61) (Go.Operand.const (Go.Value.bool true)) (Go.Operand.tmp 65), type := 4, pos := "law.go:299", after := #[{ on := 4, ground := Go.Ground.data }, { on := 8, ground := Go.Ground.data }], guard := none }
def O9_15 : Array Oper := List.toArray (o9_15_0 :: o9_15_1 :: o9_15_2 :: o9_15_3 :: o9_15_4 :: o9_15_5 :: o9_15_6 :: o9_15_7 :: o9_15_8 :: o9_15_9 :: [])
theorem g9_15_0 : O9_15[0]? = some o9_15_0 := rfl
theorem g9_15_1 : O9_15[1]? = some o9_15_1 := rfl
theorem g9_15_2 : O9_15[2]? = some o9_15_2 := rfl
theorem g9_15_3 : O9_15[3]? = some o9_15_3 := rfl
theorem g9_15_4 : O9_15[4]? = some o9_15_4 := rfl
theorem g9_15_5 : O9_15[5]? = some o9_15_5 := rfl
theorem g9_15_6 : O9_15[6]? = some o9_15_6 := rfl
theorem g9_15_7 : O9_15[7]? = some o9_15_7 := rfl
theorem g9_15_8 : O9_15[8]? = some o9_15_8 := rfl
theorem g9_15_9 : O9_15[9]? = some o9_15_9 := rfl
def c9_53 : Code := Code.region 15 O9_15 false
def o9_16_0 : Oper := { dst := some 6, op := Go.Op.assign (Go.Operand.const (Go.Value.bool true)), type := 4, pos := "law.go:300", after := #[], guard := none }
def O9_16 : Array Oper := List.toArray (o9_16_0 :: [])
theorem g9_16_0 : O9_16[0]? = some o9_16_0 := rfl
def c9_56 : Code := Code.region 16 O9_16 false
def c9_55 : Code := Code.seq c9_56 Code.ret
def c9_54 : Code := Code.cond (Go.Operand.tmp 66) c9_55 Code.skip
def c9_52 : Code := Code.seq c9_53 c9_54
def o9_17_0 : Oper := { dst := some 68, op := Go.Op.load 24 (Go.Operand.tmp 3), type := 24, pos := "law.go:302", after := #[], guard := none }
def o9_17_1 : Oper := { dst := some 69, op := Go.Op.load 24 (Go.Operand.tmp 4), type := 24, pos := "law.go:302", after := #[], guard := none }
def o9_17_2 : Oper := { dst := some 70, op := Go.Op.call { callee := Go.Callee.value (Go.Operand.func 28), args := #[Go.Operand.tmp 68, Go.Operand.tmp 69], argTypes := #[24, 24] }, type := 37, pos := "law.go:302", after := #[{ on := 0, ground := Go.Ground.data }, { on := 1, ground := Go.Ground.data }], guard := none }
def o9_17_3 : Oper := { dst := some 67, op := Go.Op.move (Go.Operand.tmp 70), type := 37, pos := "law.go:302", after := #[{ on := 2, ground := Go.Ground.data }], guard := none }
def o9_17_4 : Oper := { dst := some 71, op := Go.Op.extract (Go.Operand.tmp 67) 0, type := 36, pos := "law.go:302", after := #[{ on := 3, ground := Go.Ground.data }], guard := none }
def o9_17_5 : Oper := { dst := some 72, op := Go.Op.extract (Go.Operand.tmp 67) 1, type := 4, pos := "law.go:302", after := #[{ on := 3, ground := Go.Ground.data }, { on := 7, ground := Go.Ground.gcOnly Go.Departure.lateStores }], guard := none }
def o9_17_6 : Oper := { dst := some 73, op := Go.Op.extract (Go.Operand.tmp 67) 2, type := 27, pos := "law.go:302", after := #[{ on := 3, ground := Go.Ground.data }, { on := 8, ground := Go.Ground.gcOnly Go.Departure.lateStores }], guard := none }
def o9_17_7 : Oper := { dst := some 12, op := Go.Op.assign (Go.Operand.tmp 71), type := 36, pos := "law.go:302", after := #[{ on := 4, ground := Go.Ground.data }, { on := 2, ground := Go.Ground.chain }, { on := 0, ground := Go.Ground.phase }, { on := 1, ground := Go.Ground.phase }, { on := 2, ground := Go.Ground.phase }, { on := 3, ground := Go.Ground.phase }, { on := 4, ground := Go.Ground.phase }, { on := 5, ground := Go.Ground.textOnly Go.Departure.lateStores }, { on := 6, ground := Go.Ground.textOnly Go.Departure.lateStores }], guard := none }
def o9_17_8 : Oper := { dst := some 13, op := Go.Op.assign (Go.Operand.tmp 72), type := 4, pos := "law.go:302", after := #[{ on := 5, ground := Go.Ground.data }, { on := 7, ground := Go.Ground.chain }, { on := 0, ground := Go.Ground.phase }, { on := 1, ground := Go.Ground.phase }, { on := 2, ground := Go.Ground.phase }, { on := 3, ground := Go.Ground.phase }, { on := 4, ground := Go.Ground.phase }, { on := 5, ground := Go.Ground.phase }, { on := 6, ground := Go.Ground.textOnly Go.Departure.lateStores }, { on := 7, ground := Go.Ground.phase }], guard := none }
def o9_17_9 : Oper := { dst := some 14, op := Go.Op.assign (Go.Operand.tmp 73), type := 27, pos := "law.go:302", after := #[{ on := 6, ground := Go.Ground.data }, { on := 8, ground := Go.Ground.chain }, { on := 0, ground := Go.Ground.phase }, { on := 1, ground := Go.Ground.phase }, { on := 2, ground := Go.Ground.phase }, { on := 3, ground := Go.Ground.phase }, { on := 4, ground := Go.Ground.phase }, { on := 5, ground := Go.Ground.phase }, { on := 6, ground := Go.Ground.phase }, { on := 7, ground := Go.Ground.phase }, { on := 8, ground := Go.Ground.phase }], guard := none }
def O9_17 : Array Oper := List.toArray (o9_17_0 :: o9_17_1 :: o9_17_2 :: o9_17_3 :: o9_17_4 :: o9_17_5 :: o9_17_6 :: o9_17_7 :: o9_17_8 :: o9_17_9 :: [])
theorem g9_17_0 : O9_17[0]? = some o9_17_0 := rfl
theorem g9_17_1 : O9_17[1]? = some o9_17_1 := rfl
theorem g9_17_2 : O9_17[2]? = some o9_17_2 := rfl
theorem g9_17_3 : O9_17[3]? = some o9_17_3 := rfl
theorem g9_17_4 : O9_17[4]? = some o9_17_4 := rfl
theorem g9_17_5 : O9_17[5]? = some o9_17_5 := rfl
theorem g9_17_6 : O9_17[6]? = some o9_17_6 := rfl
theorem g9_17_7 : O9_17[7]? = some o9_17_7 := rfl
theorem g9_17_8 : O9_17[8]? = some o9_17_8 := rfl
theorem g9_17_9 : O9_17[9]? = some o9_17_9 := rfl
def c9_60 : Code := Code.region 17 O9_17 false
def o9_18_0 : Oper := { dst := some 74, op := Go.Op.move (Go.Operand.tmp 14), type := 27, pos := "law.go:303", after := #[], guard := none }
def o9_18_1 : Oper := { dst := some 75, op := Go.Op.binOp Go.BinOp.eql 27 (Go.Operand.tmp 74) (Go.Operand.const (Go.Value.int Go.IntKind.i64 0)) 27, type := 4, pos := "law.go:303", after := #[{ on := 0, ground := Go.Ground.data }], guard := none }
def o9_18_2 : Oper := { dst := some 76, op := Go.Op.move (Go.Operand.tmp 75), type := 4, pos := "law.go:303", after := #[{ on := 1, ground := Go.Ground.data }], guard := none }
def o9_18_3 : Oper := { dst := some 77, op := Go.Op.move (Go.Operand.tmp 12), type := 36, pos := "law.go:303", after := #[{ on := 2, ground := Go.Ground.guard }], guard := some (2, true) }
def o9_18_4 : Oper := { dst := some 78, op := Go.Op.call { callee := Go.Callee.builtin Go.Builtin.len, args := #[Go.Operand.tmp 77], argTypes := #[36] }, type := 3, pos := "law.go:303", after := #[{ on := 3, ground := Go.Ground.data }, { on := 2, ground := Go.Ground.guard }], guard := some (2, true) }
def o9_18_5 : Oper := { dst := some 79, op := Go.Op.binOp Go.BinOp.eql 3 (Go.Operand.tmp 78) (Go.Operand.const (Go.Value.int Go.IntKind.i64 0)) 3, type := 4, pos := "law.go:303", after := #[{ on := 4, ground := Go.Ground.data }, { on := 2, ground := Go.Ground.guard }], guard := some (2, true) }
def o9_18_6 : Oper := { dst := some 80, op := Go.Op.pick (Go.Operand.tmp 76) (Go.Operand.tmp 79) (Go.Operand.const (Go.Value.bool false)), type := 4, pos := "law.go:303", after := #[{ on := 2, ground := Go.Ground.data }, { on := 5, ground := Go.Ground.data }], guard := none }
def o9_18_7 : Oper := { dst := some 81, op := Go.Op.move (Go.Operand.tmp 80), type := 4, pos := "law.go:303", after := #[{ on := 6, ground := Go.Ground.data }, { on := 2, ground := Go.Ground.chain }], guard := none }
def o9_18_8 : Oper := { dst := some 82, op := Go.Op.move (Go.Operand.tmp 13), type := 4, pos := "law.go:303", after := #[{ on := 7, ground := Go.Ground.guard }], guard := some (7, true) }
def o9_18_9 : Oper := { dst := some 83, op := Go.Op.load 24 (Go.Operand.tmp 3), type := 24, pos := "law.go:303", after := #[{ on := 7, ground := Go.Ground.guard }], guard := some (7, true) }
def o9_18_10 : Oper := { dst := some 84, op := Go.Op.load 24 (Go.Operand.tmp 4), type := 24, pos := "law.go:303", after := #[{ on := 7, ground := Go.Ground.guard }], guard := some (7, true) }
def o9_18_11 : Oper := { dst := some 85, op := Go.Op.call { callee := Go.Callee.value (Go.Operand.func 19), args := #[Go.Operand.tmp 83, Go.Operand.tmp 84], argTypes := #[24, 24] }, type := 4, pos := "law.go:303", after := #[{ on := 9, ground := Go.Ground.data }, { on := 10, ground := Go.Ground.data }, { on := 7, ground := Go.Ground.chain }, { on := 7, ground := Go.Ground.guard }], guard := some (7, true) }
def o9_18_12 : Oper := { dst := some 86, op := Go.Op.binOp Go.BinOp.eql 4 (Go.Operand.tmp 82) (Go.Operand.tmp 85) 4, type := 4, pos := "law.go:303", after := #[{ on := 8, ground := Go.Ground.data }, { on := 11, ground := Go.Ground.data }, { on := 7, ground := Go.Ground.guard }], guard := some (7, true) }
def o9_18_13 : Oper := { dst := some 87, op := Go.Op.pick (Go.Operand.tmp 81) (Go.Operand.tmp 86) (Go.Operand.const (Go.Value.bool false)), type := 4, pos := "law.go:303", after := #[{ on := 7, ground := Go.Ground.data }, { on := 12, ground := Go.Ground.data }], guard := none }
def o9_18_14 : Oper := { dst := some 88, op := Go.Op.move (Go.Operand.tmp 87), type := 4, pos := "law.go:303", after := #[{ on := 13, ground := Go.Ground.data }, { on := 11, ground := Go.Ground.chain }], guard := none }
def o9_18_15 : Oper := { dst := some 89, op := Go.Op.load 24 (Go.Operand.tmp 3), type := 24, pos := "law.go:303", after := #[{ on := 14, ground := Go.Ground.guard }], guard := some (14, true) }
def o9_18_16 : Oper := { dst := some 90, op := Go.Op.load 24 (Go.Operand.tmp 4), type := 24, pos := "law.go:303", after := #[{ on := 14, ground := Go.Ground.guard }], guard := some (14, true) }
def o9_18_17 : Oper := { dst := some 91, op := Go.Op.call { callee := Go.Callee.value (Go.Operand.func 21), args := #[Go.Operand.tmp 89, Go.Operand.tmp 90], argTypes := #[24, 24] }, type := 4, pos := "law.go:303", after := #[{ on := 15, ground := Go.Ground.data }, { on := 16, ground := Go.Ground.data }, { on := 14, ground := Go.Ground.chain }, { on := 14, ground := Go.Ground.guard }], guard := some (14, true) }
def o9_18_18 : Oper := { dst := some 92, op := Go.Op.move (Go.Operand.tmp 13), type := 4, pos := "law.go:303", after := #[{ on := 14, ground := Go.Ground.guard }], guard := some (14, true) }
def o9_18_19 : Oper := { dst := some 93, op := Go.Op.binOp Go.BinOp.eql 4 (Go.Operand.tmp 91) (Go.Operand.tmp 92) 4, type := 4, pos := "law.go:303", after := #[{ on := 17, ground := Go.Ground.data }, { on := 18, ground := Go.Ground.data }, { on := 14, ground := Go.Ground.guard }], guard := some (14, true) }
def o9_18_20 : Oper := { dst := some 94, op := Go.Op.pick (Go.Operand.tmp 88) (Go.Operand.tmp 93) (Go.Operand.const (Go.Value.bool false)), type := 4, pos := "law.go:303", after := #[{ on := 14, ground := Go.Ground.data }, { on := 19, ground := Go.Ground.data }], guard := none }
def o9_18_21 : Oper := { dst := some 6, op := Go.Op.assign (Go.Operand.tmp 94), type := 4, pos := "law.go:303", after := #[{ on := 20, ground := Go.Ground.data }, { on := 17, ground := Go.Ground.chain }, { on := 0, ground := Go.Ground.phase }, { on := 1, ground := Go.Ground.phase }, { on := 2, ground := Go.Ground.phase }, { on := 3, ground := Go.Ground.phase }, { on := 4, ground := Go.Ground.phase }, { on := 5, ground := Go.Ground.phase }, { on := 6, ground := Go.Ground.phase }, { on := 7, ground := Go.Ground.phase }, { on := 8, ground := Go.Ground.phase }, { on := 9, ground := Go.Ground.phase }, { on := 10, ground := Go.Ground.phase }, { on := 11, ground := Go.Ground.phase }, { on := 12, ground := Go.Ground.phase }, { on := 13, ground := Go.Ground.phase }, { on := 14, ground := Go.Ground.phase }, { on := 15, ground := Go.Ground.phase }, { on := 16, ground := Go.Ground.phase }, { on := 17, ground := Go.Ground.phase }, { on := 18, ground := Go.Ground.phase }, { on := 19, ground := Go.Ground.phase }, { on := 20, ground := Go.Ground.phase }], guard := none }
def O9_18 : Array Oper := List.toArray (o9_18_0 :: o9_18_1 :: o9_18_2 :: o9_18_3 :: o9_18_4 :: o9_18_5 :: o9_18_6 :: o9_18_7 :: o9_18_8 :: o9_18_9 :: o9_18_10 :: o9_18_11 :: o9_18_12 :: o9_18_13 :: o9_18_14 :: o9_18_15 :: o9_18_16 :: o9_18_17 :: o9_18_18 :: o9_18_19 :: o9_18_20 :: o9_18_21 :: [])
theorem g9_18_0 : O9_18[0]? = some o9_18_0 := rfl
theorem g9_18_1 : O9_18[1]? = some o9_18_1 := rfl
theorem g9_18_2 : O9_18[2]? = some o9_18_2 := rfl
theorem g9_18_3 : O9_18[3]? = some o9_18_3 := rfl
theorem g9_18_4 : O9_18[4]? = some o9_18_4 := rfl
theorem g9_18_5 : O9_18[5]? = some o9_18_5 := rfl
theorem g9_18_6 : O9_18[6]? = some o9_18_6 := rfl
theorem g9_18_7 : O9_18[7]? = some o9_18_7 := rfl
theorem g9_18_8 : O9_18[8]? = some o9_18_8 := rfl
theorem g9_18_9 : O9_18[9]? = some o9_18_9 := rfl
theorem g9_18_10 : O9_18[10]? = some o9_18_10 := rfl
theorem g9_18_11 : O9_18[11]? = some o9_18_11 := rfl
theorem g9_18_12 : O9_18[12]? = some o9_18_12 := rfl
theorem g9_18_13 : O9_18[13]? = some o9_18_13 := rfl
theorem g9_18_14 : O9_18[14]? = some o9_18_14 := rfl
theorem g9_18_15 : O9_18[15]? = some o9_18_15 := rfl
theorem g9_18_16 : O9_18[16]? = some o9_18_16 := rfl
theorem g9_18_17 : O9_18[17]? = some o9_18_17 := rfl
theorem g9_18_18 : O9_18[18]? = some o9_18_18 := rfl
theorem g9_18_19 : O9_18[19]? = some o9_18_19 := rfl
theorem g9_18_20 : O9_18[20]? = some o9_18_20 := rfl
theorem g9_18_21 : O9_18[21]? = some o9_18_21 := rfl
def c9_62 : Code := Code.region 18 O9_18 false
def c9_61 : Code := Code.seq c9_62 Code.ret
def c9_59 : Code := Code.seq c9_60 c9_61
def c9_51 : Code := Code.seq c9_52 c9_59
def c9_43 : Code := Code.seq c9_44 c9_51
def c9_41 : Code := Code.seq c9_42 c9_43
def c9_20 : Code := Code.seq c9_21 c9_41
def c9_18 : Code := Code.seq c9_19 c9_20
def c9_10 : Code := Code.seq c9_11 c9_18
def c9_2 : Code := Code.seq c9_3 c9_10
def c9_0 : Code := Code.seq c9_1 c9_2
theorem body9 : Try.f9.body = some c9_0 := by kernel_rfl

set_option maxRecDepth 100000 in
set_option maxHeartbeats 4000000 in
theorem gw_a {W : World} {t u : Tm} {ta ua sa : Option Addr} {tc uc sc : Nat} {bs : List BP} {f0 : Act} {w0 : World} (R : FrS 95 f0) (h0 : f0.tmps[0]? = some (.agg #[.int .i64 t.k, .string (str t.nm), .int .i64 t.i, .slice ta t.args.length tc])) (h1 : f0.tmps[1]? = some (.agg #[.int .i64 u.k, .string (str u.nm), .int .i64 u.i, .slice ua u.args.length uc])) (h2 : f0.tmps[2]? = some (.slice sa bs.length sc)) (K1 : Keep (fun g => g < W.heap.size) W w0)  (HT : Hid (TmAt W.heap.size W t ta tc)) (HU : Hid (TmAt W.heap.size W u ua uc)) (HRT : Hid (t.right = false)) : c9_0.wp Try.prog (bodyPost Try.prog Try.f9 (fun e w' => e = .returned (.bool true) ∧ Keep (fun g => g < W.heap.size) W w')) f0 w0 := by
  refine wp_seq (x := c9_1) (y := c9_2) ?_
  change (Code.region 0 O9_0 false).wp _ _ _ _
  refine reg_in (l := [0, 1, 2]) rfl ?_
  have MK1 := K1
  have Y : (execOp f0.eval o9_0_0).run Try.prog w0 = .ok (.value (.pointer (some ⟨w0.heap.size, 0, none⟩))) (w0.alloc (.cells #[.int .i64 t.k, .string (str t.nm), .int .i64 t.i, .slice ta t.args.length tc] 24)) := by unfold o9_0_0; go_simp
  have B1 := Blk.new w0 24 #[.int .i64 t.k, .string (str t.nm), .int .i64 t.i, .slice ta t.args.length tc]
  replace K1 := K1.alloc (.cells #[.int .i64 t.k, .string (str t.nm), .int .i64 t.i, .slice ta t.args.length tc] 24)
  obtain ⟨w2, hw2⟩ : ∃ x, x = w0.alloc (.cells #[.int .i64 t.k, .string (str t.nm), .int .i64 t.i, .slice ta t.args.length tc] 24) := ⟨_, rfl⟩
  rw [← hw2] at Y B1 K1
  obtain ⟨b1, hb1⟩ : ∃ x, x = w0.heap.size := ⟨_, rfl⟩
  rw [← hb1] at Y B1
  have LK1_b1 : W.heap.size ≤ b1 := by rw [hb1]; first | exact Nat.le_refl _ | exact MK1.size
  clear hw2 hb1 MK1
  refine st_val g9_0_0 rfl (wanted_free rfl) Y fun a3 e => ?_; clear Y
  have g3 := R.at_ e (by decide); replace R := R.put e; replace h1 := slot_on e h1 (by decide); replace h2 := slot_on e h2 (by decide); clear h0; have h3 := g3; clear g3; clear e
  have MK1 := K1
  have Y : (execOp a3.eval o9_0_1).run Try.prog w2 = .ok (.value (.pointer (some ⟨w2.heap.size, 0, none⟩))) (w2.alloc (.cells #[.int .i64 u.k, .string (str u.nm), .int .i64 u.i, .slice ua u.args.length uc] 24)) := by unfold o9_0_1; go_simp
  have B5 := Blk.new w2 24 #[.int .i64 u.k, .string (str u.nm), .int .i64 u.i, .slice ua u.args.length uc]
  replace K1 := K1.alloc (.cells #[.int .i64 u.k, .string (str u.nm), .int .i64 u.i, .slice ua u.args.length uc] 24)
  have Nb1_b5 := Nat.ne_of_lt B1.lt; replace B1 := B1.alloc (.cells #[.int .i64 u.k, .string (str u.nm), .int .i64 u.i, .slice ua u.args.length uc] 24)
  obtain ⟨w6, hw6⟩ : ∃ x, x = w2.alloc (.cells #[.int .i64 u.k, .string (str u.nm), .int .i64 u.i, .slice ua u.args.length uc] 24) := ⟨_, rfl⟩
  rw [← hw6] at Y B5 K1 B1
  obtain ⟨b5, hb5⟩ : ∃ x, x = w2.heap.size := ⟨_, rfl⟩
  rw [← hb5] at Y B5 Nb1_b5
  have LK1_b5 : W.heap.size ≤ b5 := by rw [hb5]; first | exact Nat.le_refl _ | exact MK1.size
  clear hw6 hb5 MK1
  refine st_val g9_0_1 rfl (wanted_free rfl) Y fun a7 e => ?_; clear Y
  have g4 := R.at_ e (by decide); replace R := R.put e; replace h2 := slot_on e h2 (by decide); replace h3 := slot_on e h3 (by decide); clear h1; have h4 := g4; clear g4; clear e
  have Y : (execOp a7.eval o9_0_2).run Try.prog w6 = .ok (.value (.bool false)) w6 := by unfold o9_0_2; go_simp
  refine st_val g9_0_2 rfl (wanted_free rfl) Y fun a9 e => ?_; clear Y
  have g6 := R.at_ e (by decide); replace R := R.put e; replace h2 := slot_on e h2 (by decide); replace h3 := slot_on e h3 (by decide); replace h4 := slot_on e h4 (by decide); have h6 := g6; clear g6; clear e
  refine st_end ?_
  change (c9_2).wp _ _ _ _
  refine wp_seq (x := c9_3) (y := c9_10) ?_
  refine wp_seq (x := c9_4) (y := c9_5) ?_
  change (Code.region 1 O9_1 false).wp _ _ _ _
  refine reg_in (l := [0, 1]) rfl ?_
  have Y : (execOp a9.eval o9_1_0).run Try.prog w6 = .ok (.enter 13 #[]) w6 := by unfold o9_1_0; go_simp
  refine st_call g9_1_0 rfl (wanted_free rfl) Y ((alive_any (w := w6)).mono ?_); clear Y
  rintro e9 w11 ⟨rfl, kk⟩
  replace K1 := keep_onto K1 kk
  replace B1 := blk_on B1 kk
  replace B5 := blk_on B5 kk
  clear kk
  refine ⟨_, rfl, fun a12 e => ?_⟩
  have g15 := R.at_ e (by decide); replace R := R.put e; replace h2 := slot_on e h2 (by decide); replace h3 := slot_on e h3 (by decide); replace h4 := slot_on e h4 (by decide); replace h6 := slot_on e h6 (by decide); have h15 := g15; clear g15; clear e
  have Y : (execOp a12.eval o9_1_1).run Try.prog w11 = .ok (.value (.bool false)) w11 := by unfold o9_1_1; go_simp
  refine st_val g9_1_1 rfl (wanted_free rfl) Y fun a14 e => ?_; clear Y
  have g16 := R.at_ e (by decide); replace R := R.put e; replace h2 := slot_on e h2 (by decide); replace h3 := slot_on e h3 (by decide); replace h4 := slot_on e h4 (by decide); replace h6 := slot_on e h6 (by decide); clear h15; have h16 := g16; clear g16; clear e
  refine st_end ?_
  change (c9_5).wp _ _ _ _
  refine wp_cond_false (x := c9_6) (y := Code.skip) (eval_slot h16) ?_
  refine wp_skip ?_
  change (c9_10).wp _ _ _ _
  refine wp_seq (x := c9_11) (y := c9_18) ?_
  refine wp_seq (x := c9_12) (y := c9_13) ?_
  change (Code.region 3 O9_3 false).wp _ _ _ _
  refine reg_in (l := [0, 1, 2, 3, 4, 5, 6, 7]) rfl ?_
  have Y : (execOp a14.eval o9_3_0).run Try.prog w11 = .ok (.value (.agg #[.int .i64 t.k, .string (str t.nm), .int .i64 t.i, .slice ta t.args.length tc])) w11 := by have qq0 : w11.cell? ⟨b1, 0, none⟩ = some (.int .i64 t.k) := B1.cell 0; have qq1 : w11.cell? ⟨b1, 1, none⟩ = some (.string (str t.nm)) := B1.cell 1; have qq2 : w11.cell? ⟨b1, 2, none⟩ = some (.int .i64 t.i) := B1.cell 2; have qq3 : w11.cell? ⟨b1, 3, none⟩ = some (.slice ta t.args.length tc) := B1.cell 3; unfold o9_3_0; go_simp
  refine st_val g9_3_0 rfl (wanted_free rfl) Y fun a16 e => ?_; clear Y
  have g17 := R.at_ e (by decide); replace R := R.put e; replace h2 := slot_on e h2 (by decide); replace h3 := slot_on e h3 (by decide); replace h4 := slot_on e h4 (by decide); replace h6 := slot_on e h6 (by decide); clear h16; have h17 := g17; clear g17; clear e
  have Y : (execOp a16.eval o9_3_1).run Try.prog w11 = .ok (.enter 15 #[.agg #[.int .i64 t.k, .string (str t.nm), .int .i64 t.i, .slice ta t.args.length tc]]) w11 := by unfold o9_3_1; go_simp
  refine st_call g9_3_1 rfl (wanted_free rfl) Y ((check_f (HT.out.on K1) HRT.out).mono ?_); clear Y
  rintro e9 w18 ⟨rfl, kk⟩
  replace K1 := keep_onto K1 kk
  replace B1 := blk_on B1 kk
  replace B5 := blk_on B5 kk
  clear kk
  refine ⟨_, rfl, fun a19 e => ?_⟩
  have g18 := R.at_ e (by decide); replace R := R.put e; replace h2 := slot_on e h2 (by decide); replace h3 := slot_on e h3 (by decide); replace h4 := slot_on e h4 (by decide); replace h6 := slot_on e h6 (by decide); clear h17; have h18 := g18; clear g18; clear e
  have Y : (execOp a19.eval o9_3_2).run Try.prog w18 = .ok (.value (.bool true)) w18 := by unfold o9_3_2; go_simp
  refine st_val g9_3_2 rfl (wanted_free rfl) Y fun a21 e => ?_; clear Y
  have g19 := R.at_ e (by decide); replace R := R.put e; replace h2 := slot_on e h2 (by decide); replace h3 := slot_on e h3 (by decide); replace h4 := slot_on e h4 (by decide); replace h6 := slot_on e h6 (by decide); clear h18; have h19 := g19; clear g19; clear e
  have Y : (execOp a21.eval o9_3_3).run Try.prog w18 = .ok (.value (.bool true)) w18 := by unfold o9_3_3; go_simp
  refine st_val g9_3_3 rfl (wanted_free rfl) Y fun a23 e => ?_; clear Y
  have g20 := R.at_ e (by decide); replace R := R.put e; replace h2 := slot_on e h2 (by decide); replace h3 := slot_on e h3 (by decide); replace h4 := slot_on e h4 (by decide); replace h6 := slot_on e h6 (by decide); clear h19; have h20 := g20; clear g20; clear e
  refine st_not g9_3_4 rfl (wanted_is (j := 3) (d := 20) rfl rfl h20 rfl) fun a25 e => ?_
  have g21 := R.at_ e (by decide); replace R := R.put e; replace h2 := slot_on e h2 (by decide); replace h3 := slot_on e h3 (by decide); replace h4 := slot_on e h4 (by decide); replace h6 := slot_on e h6 (by decide); replace h20 := slot_on e h20 (by decide); have h21 := g21; clear g21; clear e
  refine st_not g9_3_5 rfl (wanted_is (j := 3) (d := 20) rfl rfl h20 rfl) fun a27 e => ?_
  have g22 := R.at_ e (by decide); replace R := R.put e; replace h2 := slot_on e h2 (by decide); replace h3 := slot_on e h3 (by decide); replace h4 := slot_on e h4 (by decide); replace h6 := slot_on e h6 (by decide); replace h20 := slot_on e h20 (by decide); clear h21; have h22 := g22; clear g22; clear e
  refine st_not g9_3_6 rfl (wanted_is (j := 3) (d := 20) rfl rfl h20 rfl) fun a29 e => ?_
  have g23 := R.at_ e (by decide); replace R := R.put e; replace h2 := slot_on e h2 (by decide); replace h3 := slot_on e h3 (by decide); replace h4 := slot_on e h4 (by decide); replace h6 := slot_on e h6 (by decide); replace h20 := slot_on e h20 (by decide); clear h22; have h23 := g23; clear g23; clear e
  have Y : (execOp a29.eval o9_3_7).run Try.prog w18 = .ok (.value (.bool true)) w18 := by unfold o9_3_7; go_simp
  refine st_val g9_3_7 rfl (wanted_free rfl) Y fun a31 e => ?_; clear Y
  have g24 := R.at_ e (by decide); replace R := R.put e; replace h2 := slot_on e h2 (by decide); replace h3 := slot_on e h3 (by decide); replace h4 := slot_on e h4 (by decide); replace h6 := slot_on e h6 (by decide); clear h20 h23; have h24 := g24; clear g24; clear e
  refine st_end ?_
  change (c9_13).wp _ _ _ _
  refine wp_cond_true (x := c9_14) (y := Code.skip) (eval_slot h24) ?_
  refine wp_seq (x := c9_15) (y := Code.ret) ?_
  change (Code.region 4 O9_4 false).wp _ _ _ _
  refine reg_in (l := [0]) rfl ?_
  have Y : (execOp a31.eval o9_4_0).run Try.prog w18 = .ok (.value (.bool true)) w18 := by unfold o9_4_0; go_simp
  refine st_val g9_4_0 rfl (wanted_free rfl) Y fun a33 e => ?_; clear Y
  have g6 := R.at_ e (by decide); replace R := R.put e; replace h2 := slot_on e h2 (by decide); replace h3 := slot_on e h3 (by decide); replace h4 := slot_on e h4 (by decide); clear h6 h24; have h6 := g6; clear g6; clear e
  refine st_end ?_
  change (Code.ret).wp _ _ _ _
  refine wp_ret ?_
  change bodyPost Try.prog Try.f9 (fun e w' => e = .returned (.bool true) ∧ Keep (fun g => g < W.heap.size) W w') .ret a33 w18
  refine ret_one rfl R h6 ?_
  exact ⟨rfl, K1⟩

set_option maxRecDepth 100000 in
set_option maxHeartbeats 4000000 in
theorem gw_b {W : World} {t u : Tm} {ta ua sa : Option Addr} {tc uc sc : Nat} {bs : List BP} {f0 : Act} {w0 : World} (R : FrS 95 f0) (h0 : f0.tmps[0]? = some (.agg #[.int .i64 t.k, .string (str t.nm), .int .i64 t.i, .slice ta t.args.length tc])) (h1 : f0.tmps[1]? = some (.agg #[.int .i64 u.k, .string (str u.nm), .int .i64 u.i, .slice ua u.args.length uc])) (h2 : f0.tmps[2]? = some (.slice sa bs.length sc)) (K1 : Keep (fun g => g < W.heap.size) W w0)  (HT : Hid (TmAt W.heap.size W t ta tc)) (HU : Hid (TmAt W.heap.size W u ua uc)) (HRT : Hid (t.right = true)) (HRU : Hid (u.right = false)) : c9_0.wp Try.prog (bodyPost Try.prog Try.f9 (fun e w' => e = .returned (.bool true) ∧ Keep (fun g => g < W.heap.size) W w')) f0 w0 := by
  refine wp_seq (x := c9_1) (y := c9_2) ?_
  change (Code.region 0 O9_0 false).wp _ _ _ _
  refine reg_in (l := [0, 1, 2]) rfl ?_
  have MK1 := K1
  have Y : (execOp f0.eval o9_0_0).run Try.prog w0 = .ok (.value (.pointer (some ⟨w0.heap.size, 0, none⟩))) (w0.alloc (.cells #[.int .i64 t.k, .string (str t.nm), .int .i64 t.i, .slice ta t.args.length tc] 24)) := by unfold o9_0_0; go_simp
  have B35 := Blk.new w0 24 #[.int .i64 t.k, .string (str t.nm), .int .i64 t.i, .slice ta t.args.length tc]
  replace K1 := K1.alloc (.cells #[.int .i64 t.k, .string (str t.nm), .int .i64 t.i, .slice ta t.args.length tc] 24)
  obtain ⟨w36, hw36⟩ : ∃ x, x = w0.alloc (.cells #[.int .i64 t.k, .string (str t.nm), .int .i64 t.i, .slice ta t.args.length tc] 24) := ⟨_, rfl⟩
  rw [← hw36] at Y B35 K1
  obtain ⟨b35, hb35⟩ : ∃ x, x = w0.heap.size := ⟨_, rfl⟩
  rw [← hb35] at Y B35
  have LK1_b35 : W.heap.size ≤ b35 := by rw [hb35]; first | exact Nat.le_refl _ | exact MK1.size
  clear hw36 hb35 MK1
  refine st_val g9_0_0 rfl (wanted_free rfl) Y fun a37 e => ?_; clear Y
  have g3 := R.at_ e (by decide); replace R := R.put e; replace h1 := slot_on e h1 (by decide); replace h2 := slot_on e h2 (by decide); clear h0; have h3 := g3; clear g3; clear e
  have MK1 := K1
  have Y : (execOp a37.eval o9_0_1).run Try.prog w36 = .ok (.value (.pointer (some ⟨w36.heap.size, 0, none⟩))) (w36.alloc (.cells #[.int .i64 u.k, .string (str u.nm), .int .i64 u.i, .slice ua u.args.length uc] 24)) := by unfold o9_0_1; go_simp
  have B39 := Blk.new w36 24 #[.int .i64 u.k, .string (str u.nm), .int .i64 u.i, .slice ua u.args.length uc]
  replace K1 := K1.alloc (.cells #[.int .i64 u.k, .string (str u.nm), .int .i64 u.i, .slice ua u.args.length uc] 24)
  have Nb35_b39 := Nat.ne_of_lt B35.lt; replace B35 := B35.alloc (.cells #[.int .i64 u.k, .string (str u.nm), .int .i64 u.i, .slice ua u.args.length uc] 24)
  obtain ⟨w40, hw40⟩ : ∃ x, x = w36.alloc (.cells #[.int .i64 u.k, .string (str u.nm), .int .i64 u.i, .slice ua u.args.length uc] 24) := ⟨_, rfl⟩
  rw [← hw40] at Y B39 K1 B35
  obtain ⟨b39, hb39⟩ : ∃ x, x = w36.heap.size := ⟨_, rfl⟩
  rw [← hb39] at Y B39 Nb35_b39
  have LK1_b39 : W.heap.size ≤ b39 := by rw [hb39]; first | exact Nat.le_refl _ | exact MK1.size
  clear hw40 hb39 MK1
  refine st_val g9_0_1 rfl (wanted_free rfl) Y fun a41 e => ?_; clear Y
  have g4 := R.at_ e (by decide); replace R := R.put e; replace h2 := slot_on e h2 (by decide); replace h3 := slot_on e h3 (by decide); clear h1; have h4 := g4; clear g4; clear e
  have Y : (execOp a41.eval o9_0_2).run Try.prog w40 = .ok (.value (.bool false)) w40 := by unfold o9_0_2; go_simp
  refine st_val g9_0_2 rfl (wanted_free rfl) Y fun a43 e => ?_; clear Y
  have g6 := R.at_ e (by decide); replace R := R.put e; replace h2 := slot_on e h2 (by decide); replace h3 := slot_on e h3 (by decide); replace h4 := slot_on e h4 (by decide); have h6 := g6; clear g6; clear e
  refine st_end ?_
  change (c9_2).wp _ _ _ _
  refine wp_seq (x := c9_3) (y := c9_10) ?_
  refine wp_seq (x := c9_4) (y := c9_5) ?_
  change (Code.region 1 O9_1 false).wp _ _ _ _
  refine reg_in (l := [0, 1]) rfl ?_
  have Y : (execOp a43.eval o9_1_0).run Try.prog w40 = .ok (.enter 13 #[]) w40 := by unfold o9_1_0; go_simp
  refine st_call g9_1_0 rfl (wanted_free rfl) Y ((alive_any (w := w40)).mono ?_); clear Y
  rintro e9 w45 ⟨rfl, kk⟩
  replace K1 := keep_onto K1 kk
  replace B35 := blk_on B35 kk
  replace B39 := blk_on B39 kk
  clear kk
  refine ⟨_, rfl, fun a46 e => ?_⟩
  have g15 := R.at_ e (by decide); replace R := R.put e; replace h2 := slot_on e h2 (by decide); replace h3 := slot_on e h3 (by decide); replace h4 := slot_on e h4 (by decide); replace h6 := slot_on e h6 (by decide); have h15 := g15; clear g15; clear e
  have Y : (execOp a46.eval o9_1_1).run Try.prog w45 = .ok (.value (.bool false)) w45 := by unfold o9_1_1; go_simp
  refine st_val g9_1_1 rfl (wanted_free rfl) Y fun a48 e => ?_; clear Y
  have g16 := R.at_ e (by decide); replace R := R.put e; replace h2 := slot_on e h2 (by decide); replace h3 := slot_on e h3 (by decide); replace h4 := slot_on e h4 (by decide); replace h6 := slot_on e h6 (by decide); clear h15; have h16 := g16; clear g16; clear e
  refine st_end ?_
  change (c9_5).wp _ _ _ _
  refine wp_cond_false (x := c9_6) (y := Code.skip) (eval_slot h16) ?_
  refine wp_skip ?_
  change (c9_10).wp _ _ _ _
  refine wp_seq (x := c9_11) (y := c9_18) ?_
  refine wp_seq (x := c9_12) (y := c9_13) ?_
  change (Code.region 3 O9_3 false).wp _ _ _ _
  refine reg_in (l := [0, 1, 2, 3, 4, 5, 6, 7]) rfl ?_
  have Y : (execOp a48.eval o9_3_0).run Try.prog w45 = .ok (.value (.agg #[.int .i64 t.k, .string (str t.nm), .int .i64 t.i, .slice ta t.args.length tc])) w45 := by have qq0 : w45.cell? ⟨b35, 0, none⟩ = some (.int .i64 t.k) := B35.cell 0; have qq1 : w45.cell? ⟨b35, 1, none⟩ = some (.string (str t.nm)) := B35.cell 1; have qq2 : w45.cell? ⟨b35, 2, none⟩ = some (.int .i64 t.i) := B35.cell 2; have qq3 : w45.cell? ⟨b35, 3, none⟩ = some (.slice ta t.args.length tc) := B35.cell 3; unfold o9_3_0; go_simp
  refine st_val g9_3_0 rfl (wanted_free rfl) Y fun a50 e => ?_; clear Y
  have g17 := R.at_ e (by decide); replace R := R.put e; replace h2 := slot_on e h2 (by decide); replace h3 := slot_on e h3 (by decide); replace h4 := slot_on e h4 (by decide); replace h6 := slot_on e h6 (by decide); clear h16; have h17 := g17; clear g17; clear e
  have Y : (execOp a50.eval o9_3_1).run Try.prog w45 = .ok (.enter 15 #[.agg #[.int .i64 t.k, .string (str t.nm), .int .i64 t.i, .slice ta t.args.length tc]]) w45 := by unfold o9_3_1; go_simp
  refine st_call g9_3_1 rfl (wanted_free rfl) Y ((check_t (HT.out.on K1) HRT.out).mono ?_); clear Y
  rintro e9 w52 ⟨rfl, kk⟩
  replace K1 := keep_onto K1 kk
  replace B35 := blk_on B35 kk
  replace B39 := blk_on B39 kk
  clear kk
  refine ⟨_, rfl, fun a53 e => ?_⟩
  have g18 := R.at_ e (by decide); replace R := R.put e; replace h2 := slot_on e h2 (by decide); replace h3 := slot_on e h3 (by decide); replace h4 := slot_on e h4 (by decide); replace h6 := slot_on e h6 (by decide); clear h17; have h18 := g18; clear g18; clear e
  have Y : (execOp a53.eval o9_3_2).run Try.prog w52 = .ok (.value (.bool false)) w52 := by unfold o9_3_2; go_simp
  refine st_val g9_3_2 rfl (wanted_free rfl) Y fun a55 e => ?_; clear Y
  have g19 := R.at_ e (by decide); replace R := R.put e; replace h2 := slot_on e h2 (by decide); replace h3 := slot_on e h3 (by decide); replace h4 := slot_on e h4 (by decide); replace h6 := slot_on e h6 (by decide); clear h18; have h19 := g19; clear g19; clear e
  have Y : (execOp a55.eval o9_3_3).run Try.prog w52 = .ok (.value (.bool false)) w52 := by unfold o9_3_3; go_simp
  refine st_val g9_3_3 rfl (wanted_free rfl) Y fun a57 e => ?_; clear Y
  have g20 := R.at_ e (by decide); replace R := R.put e; replace h2 := slot_on e h2 (by decide); replace h3 := slot_on e h3 (by decide); replace h4 := slot_on e h4 (by decide); replace h6 := slot_on e h6 (by decide); clear h19; have h20 := g20; clear g20; clear e
  have Y : (execOp a57.eval o9_3_4).run Try.prog w52 = .ok (.value (.agg #[.int .i64 u.k, .string (str u.nm), .int .i64 u.i, .slice ua u.args.length uc])) w52 := by have qq0 : w52.cell? ⟨b39, 0, none⟩ = some (.int .i64 u.k) := B39.cell 0; have qq1 : w52.cell? ⟨b39, 1, none⟩ = some (.string (str u.nm)) := B39.cell 1; have qq2 : w52.cell? ⟨b39, 2, none⟩ = some (.int .i64 u.i) := B39.cell 2; have qq3 : w52.cell? ⟨b39, 3, none⟩ = some (.slice ua u.args.length uc) := B39.cell 3; unfold o9_3_4; go_simp
  refine st_val g9_3_4 rfl (wanted_is (j := 3) (d := 20) rfl rfl h20 rfl) Y fun a59 e => ?_; clear Y
  have g21 := R.at_ e (by decide); replace R := R.put e; replace h2 := slot_on e h2 (by decide); replace h3 := slot_on e h3 (by decide); replace h4 := slot_on e h4 (by decide); replace h6 := slot_on e h6 (by decide); replace h20 := slot_on e h20 (by decide); have h21 := g21; clear g21; clear e
  have Y : (execOp a59.eval o9_3_5).run Try.prog w52 = .ok (.enter 15 #[.agg #[.int .i64 u.k, .string (str u.nm), .int .i64 u.i, .slice ua u.args.length uc]]) w52 := by unfold o9_3_5; go_simp
  refine st_call g9_3_5 rfl (wanted_is (j := 3) (d := 20) rfl rfl h20 rfl) Y ((check_f (HU.out.on K1) HRU.out).mono ?_); clear Y
  rintro e9 w61 ⟨rfl, kk⟩
  replace K1 := keep_onto K1 kk
  replace B35 := blk_on B35 kk
  replace B39 := blk_on B39 kk
  clear kk
  refine ⟨_, rfl, fun a62 e => ?_⟩
  have g22 := R.at_ e (by decide); replace R := R.put e; replace h2 := slot_on e h2 (by decide); replace h3 := slot_on e h3 (by decide); replace h4 := slot_on e h4 (by decide); replace h6 := slot_on e h6 (by decide); replace h20 := slot_on e h20 (by decide); clear h21; have h22 := g22; clear g22; clear e
  have Y : (execOp a62.eval o9_3_6).run Try.prog w61 = .ok (.value (.bool true)) w61 := by unfold o9_3_6; go_simp
  refine st_val g9_3_6 rfl (wanted_is (j := 3) (d := 20) rfl rfl h20 rfl) Y fun a64 e => ?_; clear Y
  have g23 := R.at_ e (by decide); replace R := R.put e; replace h2 := slot_on e h2 (by decide); replace h3 := slot_on e h3 (by decide); replace h4 := slot_on e h4 (by decide); replace h6 := slot_on e h6 (by decide); replace h20 := slot_on e h20 (by decide); clear h22; have h23 := g23; clear g23; clear e
  have Y : (execOp a64.eval o9_3_7).run Try.prog w61 = .ok (.value (.bool true)) w61 := by unfold o9_3_7; go_simp
  refine st_val g9_3_7 rfl (wanted_free rfl) Y fun a66 e => ?_; clear Y
  have g24 := R.at_ e (by decide); replace R := R.put e; replace h2 := slot_on e h2 (by decide); replace h3 := slot_on e h3 (by decide); replace h4 := slot_on e h4 (by decide); replace h6 := slot_on e h6 (by decide); clear h20 h23; have h24 := g24; clear g24; clear e
  refine st_end ?_
  change (c9_13).wp _ _ _ _
  refine wp_cond_true (x := c9_14) (y := Code.skip) (eval_slot h24) ?_
  refine wp_seq (x := c9_15) (y := Code.ret) ?_
  change (Code.region 4 O9_4 false).wp _ _ _ _
  refine reg_in (l := [0]) rfl ?_
  have Y : (execOp a66.eval o9_4_0).run Try.prog w61 = .ok (.value (.bool true)) w61 := by unfold o9_4_0; go_simp
  refine st_val g9_4_0 rfl (wanted_free rfl) Y fun a68 e => ?_; clear Y
  have g6 := R.at_ e (by decide); replace R := R.put e; replace h2 := slot_on e h2 (by decide); replace h3 := slot_on e h3 (by decide); replace h4 := slot_on e h4 (by decide); clear h6 h24; have h6 := g6; clear g6; clear e
  refine st_end ?_
  change (Code.ret).wp _ _ _ _
  refine wp_ret ?_
  change bodyPost Try.prog Try.f9 (fun e w' => e = .returned (.bool true) ∧ Keep (fun g => g < W.heap.size) W w') .ret a68 w61
  refine ret_one rfl R h6 ?_
  exact ⟨rfl, K1⟩

set_option maxRecDepth 100000 in
set_option maxHeartbeats 4000000 in
theorem gw_t {W : World} {t u : Tm} {ta ua sa : Option Addr} {tc uc sc : Nat} {bs : List BP} {f0 : Act} {w0 : World} (R : FrS 95 f0) (h0 : f0.tmps[0]? = some (.agg #[.int .i64 t.k, .string (str t.nm), .int .i64 t.i, .slice ta t.args.length tc])) (h1 : f0.tmps[1]? = some (.agg #[.int .i64 u.k, .string (str u.nm), .int .i64 u.i, .slice ua u.args.length uc])) (h2 : f0.tmps[2]? = some (.slice sa bs.length sc)) (K1 : Keep (fun g => g < W.heap.size) W w0)  (HT : Hid (TmAt W.heap.size W t ta tc)) (HU : Hid (TmAt W.heap.size W u ua uc)) (HRT : Hid (t.right = true)) (HRU : Hid (u.right = true)) (HS : Hid (BSl W.heap.size W sa bs)) (HLN : Hid (bs.length ≤ 2199023255551)) (HVL : Hid ((vaV t).length ≤ 2000)) : c9_0.wp Try.prog (bodyPost Try.prog Try.f9 (fun e w' => e = .returned (.bool true) ∧ Keep (fun g => g < W.heap.size) W w')) f0 w0 := by
  refine wp_seq (x := c9_1) (y := c9_2) ?_
  change (Code.region 0 O9_0 false).wp _ _ _ _
  refine reg_in (l := [0, 1, 2]) rfl ?_
  have MK1 := K1
  have Y : (execOp f0.eval o9_0_0).run Try.prog w0 = .ok (.value (.pointer (some ⟨w0.heap.size, 0, none⟩))) (w0.alloc (.cells #[.int .i64 t.k, .string (str t.nm), .int .i64 t.i, .slice ta t.args.length tc] 24)) := by unfold o9_0_0; go_simp
  have B70 := Blk.new w0 24 #[.int .i64 t.k, .string (str t.nm), .int .i64 t.i, .slice ta t.args.length tc]
  replace K1 := K1.alloc (.cells #[.int .i64 t.k, .string (str t.nm), .int .i64 t.i, .slice ta t.args.length tc] 24)
  obtain ⟨w71, hw71⟩ : ∃ x, x = w0.alloc (.cells #[.int .i64 t.k, .string (str t.nm), .int .i64 t.i, .slice ta t.args.length tc] 24) := ⟨_, rfl⟩
  rw [← hw71] at Y B70 K1
  obtain ⟨b70, hb70⟩ : ∃ x, x = w0.heap.size := ⟨_, rfl⟩
  rw [← hb70] at Y B70
  have LK1_b70 : W.heap.size ≤ b70 := by rw [hb70]; first | exact Nat.le_refl _ | exact MK1.size
  clear hw71 hb70 MK1
  refine st_val g9_0_0 rfl (wanted_free rfl) Y fun a72 e => ?_; clear Y
  have g3 := R.at_ e (by decide); replace R := R.put e; replace h1 := slot_on e h1 (by decide); replace h2 := slot_on e h2 (by decide); clear h0; have h3 := g3; clear g3; clear e
  have MK1 := K1
  have Y : (execOp a72.eval o9_0_1).run Try.prog w71 = .ok (.value (.pointer (some ⟨w71.heap.size, 0, none⟩))) (w71.alloc (.cells #[.int .i64 u.k, .string (str u.nm), .int .i64 u.i, .slice ua u.args.length uc] 24)) := by unfold o9_0_1; go_simp
  have B74 := Blk.new w71 24 #[.int .i64 u.k, .string (str u.nm), .int .i64 u.i, .slice ua u.args.length uc]
  replace K1 := K1.alloc (.cells #[.int .i64 u.k, .string (str u.nm), .int .i64 u.i, .slice ua u.args.length uc] 24)
  have Nb70_b74 := Nat.ne_of_lt B70.lt; replace B70 := B70.alloc (.cells #[.int .i64 u.k, .string (str u.nm), .int .i64 u.i, .slice ua u.args.length uc] 24)
  obtain ⟨w75, hw75⟩ : ∃ x, x = w71.alloc (.cells #[.int .i64 u.k, .string (str u.nm), .int .i64 u.i, .slice ua u.args.length uc] 24) := ⟨_, rfl⟩
  rw [← hw75] at Y B74 K1 B70
  obtain ⟨b74, hb74⟩ : ∃ x, x = w71.heap.size := ⟨_, rfl⟩
  rw [← hb74] at Y B74 Nb70_b74
  have LK1_b74 : W.heap.size ≤ b74 := by rw [hb74]; first | exact Nat.le_refl _ | exact MK1.size
  clear hw75 hb74 MK1
  refine st_val g9_0_1 rfl (wanted_free rfl) Y fun a76 e => ?_; clear Y
  have g4 := R.at_ e (by decide); replace R := R.put e; replace h2 := slot_on e h2 (by decide); replace h3 := slot_on e h3 (by decide); clear h1; have h4 := g4; clear g4; clear e
  have Y : (execOp a76.eval o9_0_2).run Try.prog w75 = .ok (.value (.bool false)) w75 := by unfold o9_0_2; go_simp
  refine st_val g9_0_2 rfl (wanted_free rfl) Y fun a78 e => ?_; clear Y
  have g6 := R.at_ e (by decide); replace R := R.put e; replace h2 := slot_on e h2 (by decide); replace h3 := slot_on e h3 (by decide); replace h4 := slot_on e h4 (by decide); have h6 := g6; clear g6; clear e
  refine st_end ?_
  change (c9_2).wp _ _ _ _
  refine wp_seq (x := c9_3) (y := c9_10) ?_
  refine wp_seq (x := c9_4) (y := c9_5) ?_
  change (Code.region 1 O9_1 false).wp _ _ _ _
  refine reg_in (l := [0, 1]) rfl ?_
  have Y : (execOp a78.eval o9_1_0).run Try.prog w75 = .ok (.enter 13 #[]) w75 := by unfold o9_1_0; go_simp
  refine st_call g9_1_0 rfl (wanted_free rfl) Y ((alive_any (w := w75)).mono ?_); clear Y
  rintro e9 w80 ⟨rfl, kk⟩
  replace K1 := keep_onto K1 kk
  replace B70 := blk_on B70 kk
  replace B74 := blk_on B74 kk
  clear kk
  refine ⟨_, rfl, fun a81 e => ?_⟩
  have g15 := R.at_ e (by decide); replace R := R.put e; replace h2 := slot_on e h2 (by decide); replace h3 := slot_on e h3 (by decide); replace h4 := slot_on e h4 (by decide); replace h6 := slot_on e h6 (by decide); have h15 := g15; clear g15; clear e
  have Y : (execOp a81.eval o9_1_1).run Try.prog w80 = .ok (.value (.bool false)) w80 := by unfold o9_1_1; go_simp
  refine st_val g9_1_1 rfl (wanted_free rfl) Y fun a83 e => ?_; clear Y
  have g16 := R.at_ e (by decide); replace R := R.put e; replace h2 := slot_on e h2 (by decide); replace h3 := slot_on e h3 (by decide); replace h4 := slot_on e h4 (by decide); replace h6 := slot_on e h6 (by decide); clear h15; have h16 := g16; clear g16; clear e
  refine st_end ?_
  change (c9_5).wp _ _ _ _
  refine wp_cond_false (x := c9_6) (y := Code.skip) (eval_slot h16) ?_
  refine wp_skip ?_
  change (c9_10).wp _ _ _ _
  refine wp_seq (x := c9_11) (y := c9_18) ?_
  refine wp_seq (x := c9_12) (y := c9_13) ?_
  change (Code.region 3 O9_3 false).wp _ _ _ _
  refine reg_in (l := [0, 1, 2, 3, 4, 5, 6, 7]) rfl ?_
  have Y : (execOp a83.eval o9_3_0).run Try.prog w80 = .ok (.value (.agg #[.int .i64 t.k, .string (str t.nm), .int .i64 t.i, .slice ta t.args.length tc])) w80 := by have qq0 : w80.cell? ⟨b70, 0, none⟩ = some (.int .i64 t.k) := B70.cell 0; have qq1 : w80.cell? ⟨b70, 1, none⟩ = some (.string (str t.nm)) := B70.cell 1; have qq2 : w80.cell? ⟨b70, 2, none⟩ = some (.int .i64 t.i) := B70.cell 2; have qq3 : w80.cell? ⟨b70, 3, none⟩ = some (.slice ta t.args.length tc) := B70.cell 3; unfold o9_3_0; go_simp
  refine st_val g9_3_0 rfl (wanted_free rfl) Y fun a85 e => ?_; clear Y
  have g17 := R.at_ e (by decide); replace R := R.put e; replace h2 := slot_on e h2 (by decide); replace h3 := slot_on e h3 (by decide); replace h4 := slot_on e h4 (by decide); replace h6 := slot_on e h6 (by decide); clear h16; have h17 := g17; clear g17; clear e
  have Y : (execOp a85.eval o9_3_1).run Try.prog w80 = .ok (.enter 15 #[.agg #[.int .i64 t.k, .string (str t.nm), .int .i64 t.i, .slice ta t.args.length tc]]) w80 := by unfold o9_3_1; go_simp
  refine st_call g9_3_1 rfl (wanted_free rfl) Y ((check_t (HT.out.on K1) HRT.out).mono ?_); clear Y
  rintro e9 w87 ⟨rfl, kk⟩
  replace K1 := keep_onto K1 kk
  replace B70 := blk_on B70 kk
  replace B74 := blk_on B74 kk
  clear kk
  refine ⟨_, rfl, fun a88 e => ?_⟩
  have g18 := R.at_ e (by decide); replace R := R.put e; replace h2 := slot_on e h2 (by decide); replace h3 := slot_on e h3 (by decide); replace h4 := slot_on e h4 (by decide); replace h6 := slot_on e h6 (by decide); clear h17; have h18 := g18; clear g18; clear e
  have Y : (execOp a88.eval o9_3_2).run Try.prog w87 = .ok (.value (.bool false)) w87 := by unfold o9_3_2; go_simp
  refine st_val g9_3_2 rfl (wanted_free rfl) Y fun a90 e => ?_; clear Y
  have g19 := R.at_ e (by decide); replace R := R.put e; replace h2 := slot_on e h2 (by decide); replace h3 := slot_on e h3 (by decide); replace h4 := slot_on e h4 (by decide); replace h6 := slot_on e h6 (by decide); clear h18; have h19 := g19; clear g19; clear e
  have Y : (execOp a90.eval o9_3_3).run Try.prog w87 = .ok (.value (.bool false)) w87 := by unfold o9_3_3; go_simp
  refine st_val g9_3_3 rfl (wanted_free rfl) Y fun a92 e => ?_; clear Y
  have g20 := R.at_ e (by decide); replace R := R.put e; replace h2 := slot_on e h2 (by decide); replace h3 := slot_on e h3 (by decide); replace h4 := slot_on e h4 (by decide); replace h6 := slot_on e h6 (by decide); clear h19; have h20 := g20; clear g20; clear e
  have Y : (execOp a92.eval o9_3_4).run Try.prog w87 = .ok (.value (.agg #[.int .i64 u.k, .string (str u.nm), .int .i64 u.i, .slice ua u.args.length uc])) w87 := by have qq0 : w87.cell? ⟨b74, 0, none⟩ = some (.int .i64 u.k) := B74.cell 0; have qq1 : w87.cell? ⟨b74, 1, none⟩ = some (.string (str u.nm)) := B74.cell 1; have qq2 : w87.cell? ⟨b74, 2, none⟩ = some (.int .i64 u.i) := B74.cell 2; have qq3 : w87.cell? ⟨b74, 3, none⟩ = some (.slice ua u.args.length uc) := B74.cell 3; unfold o9_3_4; go_simp
  refine st_val g9_3_4 rfl (wanted_is (j := 3) (d := 20) rfl rfl h20 rfl) Y fun a94 e => ?_; clear Y
  have g21 := R.at_ e (by decide); replace R := R.put e; replace h2 := slot_on e h2 (by decide); replace h3 := slot_on e h3 (by decide); replace h4 := slot_on e h4 (by decide); replace h6 := slot_on e h6 (by decide); replace h20 := slot_on e h20 (by decide); have h21 := g21; clear g21; clear e
  have Y : (execOp a94.eval o9_3_5).run Try.prog w87 = .ok (.enter 15 #[.agg #[.int .i64 u.k, .string (str u.nm), .int .i64 u.i, .slice ua u.args.length uc]]) w87 := by unfold o9_3_5; go_simp
  refine st_call g9_3_5 rfl (wanted_is (j := 3) (d := 20) rfl rfl h20 rfl) Y ((check_t (HU.out.on K1) HRU.out).mono ?_); clear Y
  rintro e9 w96 ⟨rfl, kk⟩
  replace K1 := keep_onto K1 kk
  replace B70 := blk_on B70 kk
  replace B74 := blk_on B74 kk
  clear kk
  refine ⟨_, rfl, fun a97 e => ?_⟩
  have g22 := R.at_ e (by decide); replace R := R.put e; replace h2 := slot_on e h2 (by decide); replace h3 := slot_on e h3 (by decide); replace h4 := slot_on e h4 (by decide); replace h6 := slot_on e h6 (by decide); replace h20 := slot_on e h20 (by decide); clear h21; have h22 := g22; clear g22; clear e
  have Y : (execOp a97.eval o9_3_6).run Try.prog w96 = .ok (.value (.bool false)) w96 := by unfold o9_3_6; go_simp
  refine st_val g9_3_6 rfl (wanted_is (j := 3) (d := 20) rfl rfl h20 rfl) Y fun a99 e => ?_; clear Y
  have g23 := R.at_ e (by decide); replace R := R.put e; replace h2 := slot_on e h2 (by decide); replace h3 := slot_on e h3 (by decide); replace h4 := slot_on e h4 (by decide); replace h6 := slot_on e h6 (by decide); replace h20 := slot_on e h20 (by decide); clear h22; have h23 := g23; clear g23; clear e
  have Y : (execOp a99.eval o9_3_7).run Try.prog w96 = .ok (.value (.bool false)) w96 := by unfold o9_3_7; go_simp
  refine st_val g9_3_7 rfl (wanted_free rfl) Y fun a101 e => ?_; clear Y
  have g24 := R.at_ e (by decide); replace R := R.put e; replace h2 := slot_on e h2 (by decide); replace h3 := slot_on e h3 (by decide); replace h4 := slot_on e h4 (by decide); replace h6 := slot_on e h6 (by decide); clear h20 h23; have h24 := g24; clear g24; clear e
  refine st_end ?_
  change (c9_13).wp _ _ _ _
  refine wp_cond_false (x := c9_14) (y := Code.skip) (eval_slot h24) ?_
  refine wp_skip ?_
  change (c9_18).wp _ _ _ _
  refine wp_seq (x := c9_19) (y := c9_20) ?_
  change (Code.region 5 O9_5 false).wp _ _ _ _
  refine reg_in (l := [0, 1]) rfl ?_
  have Ab70 : b70 < w96.heap.size := B70.lt
  have Ab74 : b74 < w96.heap.size := B74.lt
  have Y : (execOp a101.eval o9_5_0).run Try.prog w96 = .ok (.value (.slice (some ⟨w96.heap.size, 0, none⟩) 0 0)) (w96.alloc (.cells #[] 41)) := by unfold o9_5_0; go_simp
  have MK1 := K1
  have B103 := Blk.new w96 41 #[]
  replace K1 := K1.alloc (.cells #[] 41)
  have Nb70_b103 := Nat.ne_of_lt B70.lt; replace B70 := B70.alloc (.cells #[] 41)
  have Nb74_b103 := Nat.ne_of_lt B74.lt; replace B74 := B74.alloc (.cells #[] 41)
  obtain ⟨w104, hw104⟩ : ∃ x, x = w96.alloc (.cells #[] 41) := ⟨_, rfl⟩
  rw [← hw104] at Y B103 K1 B70 B74
  obtain ⟨b103, hb103⟩ : ∃ x, x = w96.heap.size := ⟨_, rfl⟩
  rw [← hb103] at Y B103 Nb70_b103 Nb74_b103 Ab70 Ab74
  have LK1_b103 : W.heap.size ≤ b103 := by rw [hb103]; first | exact Nat.le_refl _ | exact MK1.size
  clear hw104 hb103 MK1
  refine st_val g9_5_0 rfl (wanted_free rfl) Y fun a105 e => ?_; clear Y
  have g25 := R.at_ e (by decide); replace R := R.put e; replace h2 := slot_on e h2 (by decide); replace h3 := slot_on e h3 (by decide); replace h4 := slot_on e h4 (by decide); replace h6 := slot_on e h6 (by decide); clear h24; have h25 := g25; clear g25; clear e
  have Y : (execOp a105.eval o9_5_1).run Try.prog w104 = .ok (.value (.slice (some ⟨b103, 0, none⟩) 0 0)) w104 := by unfold o9_5_1; go_simp
  refine st_val g9_5_1 rfl (wanted_free rfl) Y fun a107 e => ?_; clear Y
  have g7 := R.at_ e (by decide); replace R := R.put e; replace h2 := slot_on e h2 (by decide); replace h3 := slot_on e h3 (by decide); replace h4 := slot_on e h4 (by decide); replace h6 := slot_on e h6 (by decide); clear h25; have h7 := g7; clear g7; clear e
  refine st_end ?_
  change (c9_20).wp _ _ _ _
  refine wp_seq (x := c9_21) (y := c9_41) ?_
  refine wp_seq (x := c9_22) (y := c9_23) ?_
  change (Code.region 6 O9_6 false).wp _ _ _ _
  refine reg_in (l := [0, 1, 2]) rfl ?_
  have Y : (execOp a107.eval o9_6_0).run Try.prog w104 = .ok (.value (.slice sa bs.length sc)) w104 := by unfold o9_6_0; go_simp
  refine st_val g9_6_0 rfl (wanted_free rfl) Y fun a109 e => ?_; clear Y
  have g26 := R.at_ e (by decide); replace R := R.put e; replace h3 := slot_on e h3 (by decide); replace h4 := slot_on e h4 (by decide); replace h6 := slot_on e h6 (by decide); replace h7 := slot_on e h7 (by decide); clear h2; have h26 := g26; clear g26; clear e
  have Y : (execOp a109.eval o9_6_1).run Try.prog w104 = .ok (.value (.int .i64 bs.length)) w104 := by unfold o9_6_1; go_simp
  refine st_val g9_6_1 rfl (wanted_free rfl) Y fun a111 e => ?_; clear Y
  have g27 := R.at_ e (by decide); replace R := R.put e; replace h3 := slot_on e h3 (by decide); replace h4 := slot_on e h4 (by decide); replace h6 := slot_on e h6 (by decide); replace h7 := slot_on e h7 (by decide); replace h26 := slot_on e h26 (by decide); have h27 := g27; clear g27; clear e
  have Y : (execOp a111.eval o9_6_2).run Try.prog w104 = .ok (.value (.int .i64 0)) w104 := by unfold o9_6_2; go_simp
  refine st_val g9_6_2 rfl (wanted_free rfl) Y fun a113 e => ?_; clear Y
  have g28 := R.at_ e (by decide); replace R := R.put e; replace h3 := slot_on e h3 (by decide); replace h4 := slot_on e h4 (by decide); replace h6 := slot_on e h6 (by decide); replace h7 := slot_on e h7 (by decide); replace h26 := slot_on e h26 (by decide); replace h27 := slot_on e h27 (by decide); have h28 := g28; clear g28; clear e
  refine st_end ?_
  change (c9_23).wp _ _ _ _
  refine wp_block (id := 0) (c := c9_24) ?_
  have HROW := Lib.hid (row_made0 B103 (Nat.le_refl b103))
  obtain ⟨vm, hvm⟩ : ∃ v : Value, v = .slice (some ⟨b103, 0, none⟩) 0 0 := ⟨_, rfl⟩
  rw [← hvm] at h7 HROW; clear hvm
  have hlq : b103 ≤ w104.heap.size := Nat.le_of_lt B103.lt
  have hbW : W.heap.size ≤ b103 := LK1_b103
  clear B103
  have KR := Keep.refl (fun g => g < w104.heap.size) w104
  refine wp_loop_ghost (c := c9_25) (fun n f9 w9 => ∃ j : Nat, ∃ wr : World, ∃ vm : Value, n = bs.length - j ∧ FrS 95 f9 ∧ f9.tmps[3]? = some (.pointer (some ⟨b70, 0, none⟩)) ∧ f9.tmps[4]? = some (.pointer (some ⟨b74, 0, none⟩)) ∧ f9.tmps[6]? = some (.bool false) ∧ f9.tmps[7]? = some (vm) ∧ f9.tmps[26]? = some (.slice sa bs.length sc) ∧ f9.tmps[27]? = some (.int .i64 bs.length) ∧ f9.tmps[28]? = some (.int .i64 (j : Int)) ∧ Keep (fun g => g < W.heap.size) W w9 ∧ Keep (fun g => g < wr.heap.size) wr w9 ∧ Blk w9 b70 24 #[.int .i64 t.k, .string (str t.nm), .int .i64 t.i, .slice ta t.args.length tc] ∧ Blk w9 b74 24 #[.int .i64 u.k, .string (str u.nm), .int .i64 u.i, .slice ua u.args.length uc] ∧ j ≤ bs.length ∧ Hid (wr.ownsRow b103 41 5 vm (notIn (vaV t) (bs.take j)).length ((notIn (vaV t) (bs.take j)).flatMap bcells)) ∧ b103 ≤ wr.heap.size) (bs.length - 0) ⟨0, w104, vm, rfl, R, h3, h4, h6, h7, h26, h27, h28, K1, KR, B70, B74, Nat.zero_le _, HROW, hlq⟩ ?_
  clear R h3 h4 h6 h7 h26 h27 h28 K1 KR B70 B74
  rintro n117 a115 w116 ⟨j, wr, vm, rfl, R, h3, h4, h6, h7, h26, h27, h28, K1, KR, B70, B74, hj, HROW, hlq⟩
  have hj2 := HLN.out
  have hwj : IntKind.i64.wrap ((j : Int) + 1) = (j : Int) + 1 := by rw [IntKind.wrap_i64]; omega
  refine wp_seq (x := c9_26) (y := c9_27) ?_
  change (Code.region 7 O9_7 false).wp _ _ _ _
  refine reg_in (l := [0]) rfl ?_
  obtain ⟨b118, hb118⟩ : ∃ x, (decide ((j : Int) < (bs.length : Int))) = x := ⟨_, rfl⟩
  have Y : (execOp a115.eval o9_7_0).run Try.prog w116 = .ok (.value (.bool b118)) w116 := by rw [← hb118]; unfold o9_7_0; go_simp
  refine st_val g9_7_0 rfl (wanted_free rfl) Y fun a119 e => ?_; clear Y
  have g29 := R.at_ e (by decide); replace R := R.put e; replace h3 := slot_on e h3 (by decide); replace h4 := slot_on e h4 (by decide); replace h6 := slot_on e h6 (by decide); replace h7 := slot_on e h7 (by decide); replace h26 := slot_on e h26 (by decide); replace h27 := slot_on e h27 (by decide); replace h28 := slot_on e h28 (by decide); have h29 := g29; clear g29; clear e
  refine st_end ?_
  change (c9_27).wp _ _ _ _
  refine wp_seq (x := c9_28) (y := c9_31) ?_
  cases b118 with
  | false =>
    have fb118 := hb118; clear hb118
    simp only [decide_eq_true_eq, decide_eq_false_iff_not, Bool.not_eq_true', Bool.not_eq_false', Bool.not_eq_eq_eq_not, Bool.not_true, Bool.not_false] at fb118
    refine wp_cond_false (x := Code.skip) (y := c9_30) (eval_slot h29) ?_
    refine wp_exit ?_
    change (c9_41).wp _ _ _ _
    refine wp_seq (x := c9_42) (y := c9_43) ?_
    change (Code.region 12 O9_12 false).wp _ _ _ _
    refine reg_in (l := [0, 1, 2, 3, 4, 5, 6, 7, 8]) rfl ?_
    have Y : (execOp a119.eval o9_12_0).run Try.prog w116 = .ok (.value (.agg #[.int .i64 t.k, .string (str t.nm), .int .i64 t.i, .slice ta t.args.length tc])) w116 := by have qq0 : w116.cell? ⟨b70, 0, none⟩ = some (.int .i64 t.k) := B70.cell 0; have qq1 : w116.cell? ⟨b70, 1, none⟩ = some (.string (str t.nm)) := B70.cell 1; have qq2 : w116.cell? ⟨b70, 2, none⟩ = some (.int .i64 t.i) := B70.cell 2; have qq3 : w116.cell? ⟨b70, 3, none⟩ = some (.slice ta t.args.length tc) := B70.cell 3; unfold o9_12_0; go_simp
    refine st_val g9_12_0 rfl (wanted_free rfl) Y fun a121 e => ?_; clear Y
    have g44 := R.at_ e (by decide); replace R := R.put e; replace h3 := slot_on e h3 (by decide); replace h4 := slot_on e h4 (by decide); replace h6 := slot_on e h6 (by decide); replace h7 := slot_on e h7 (by decide); replace h26 := slot_on e h26 (by decide); replace h27 := slot_on e h27 (by decide); replace h28 := slot_on e h28 (by decide); replace h29 := slot_on e h29 (by decide); have h44 := g44; clear g44; clear e
    have Y : (execOp a121.eval o9_12_1).run Try.prog w116 = .ok (.value (vm)) w116 := by unfold o9_12_1; go_simp
    refine st_val g9_12_1 rfl (wanted_free rfl) Y fun a123 e => ?_; clear Y
    have g45 := R.at_ e (by decide); replace R := R.put e; replace h3 := slot_on e h3 (by decide); replace h4 := slot_on e h4 (by decide); replace h6 := slot_on e h6 (by decide); replace h7 := slot_on e h7 (by decide); replace h26 := slot_on e h26 (by decide); replace h27 := slot_on e h27 (by decide); replace h28 := slot_on e h28 (by decide); replace h29 := slot_on e h29 (by decide); replace h44 := slot_on e h44 (by decide); have h45 := g45; clear g45; clear e
    have Y : (execOp a123.eval o9_12_2).run Try.prog w116 = .ok (.enter 30 #[.agg #[.int .i64 t.k, .string (str t.nm), .int .i64 t.i, .slice ta t.args.length tc], vm]) w116 := by unfold o9_12_2; go_simp
    obtain rfl : j = bs.length := by omega
    obtain ⟨am, cm, hvm9, hbm9, him9⟩ := bsl_row (row_kept HROW.out KR) (fun q hq => by obtain ⟨hm, _⟩ := notIn_mem hq; rw [List.take_length] at hm; obtain ⟨i9, hi9, rfl⟩ := List.getElem_of_mem hm; obtain ⟨_, h1, h2⟩ := HS.out i9 _ (List.getElem?_eq_getElem hi9); exact ⟨h1, h2.on K1⟩)
    rw [hvm9] at Y; rw [List.take_length] at hbm9 Y
    refine st_call g9_12_2 rfl (wanted_free rfl) Y ((apply_sx hbm9 (HT.out.on K1) (Nat.le_trans (notIn_len _ _) (Nat.le_trans HLN.out (by decide))) him9 (ap_notIn HRT.out)).mono ?_); clear Y
    rintro e9 w125 ⟨ax, cx, rfl, hx, kk⟩
    replace K1 := keep_onto K1 kk
    replace KR := keep_onto KR kk
    replace B70 := blk_on B70 kk
    replace B74 := blk_on B74 kk
    clear kk
    clear hvm9 hbm9 him9
    have HX := Lib.hid hx; clear hx
    have K2 := Keep.refl (fun g => g < w125.heap.size) w125
    refine ⟨_, rfl, fun a126 e => ?_⟩
    have g46 := R.at_ e (by decide); replace R := R.put e; replace h3 := slot_on e h3 (by decide); replace h4 := slot_on e h4 (by decide); replace h6 := slot_on e h6 (by decide); replace h7 := slot_on e h7 (by decide); replace h26 := slot_on e h26 (by decide); replace h27 := slot_on e h27 (by decide); replace h28 := slot_on e h28 (by decide); replace h29 := slot_on e h29 (by decide); clear h44 h45; have h46 := g46; clear g46; clear e
    have Y : (execOp a126.eval o9_12_3).run Try.prog w125 = .ok (.value (.tuple #[.agg #[.int .i64 t.tree.tm.k, .string (str t.tree.tm.nm), .int .i64 t.tree.tm.i, .slice ax t.tree.tm.args.length cx], .int .i64 0])) w125 := by unfold o9_12_3; go_simp
    refine st_val g9_12_3 rfl (wanted_free rfl) Y fun a128 e => ?_; clear Y
    have g43 := R.at_ e (by decide); replace R := R.put e; replace h3 := slot_on e h3 (by decide); replace h4 := slot_on e h4 (by decide); replace h6 := slot_on e h6 (by decide); replace h7 := slot_on e h7 (by decide); replace h26 := slot_on e h26 (by decide); replace h27 := slot_on e h27 (by decide); replace h28 := slot_on e h28 (by decide); replace h29 := slot_on e h29 (by decide); clear h46; have h43 := g43; clear g43; clear e
    have Y : (execOp a128.eval o9_12_4).run Try.prog w125 = .ok (.value (.agg #[.int .i64 t.tree.tm.k, .string (str t.tree.tm.nm), .int .i64 t.tree.tm.i, .slice ax t.tree.tm.args.length cx])) w125 := by unfold o9_12_4; go_simp
    refine st_val g9_12_4 rfl (wanted_free rfl) Y fun a130 e => ?_; clear Y
    have g47 := R.at_ e (by decide); replace R := R.put e; replace h3 := slot_on e h3 (by decide); replace h4 := slot_on e h4 (by decide); replace h6 := slot_on e h6 (by decide); replace h7 := slot_on e h7 (by decide); replace h26 := slot_on e h26 (by decide); replace h27 := slot_on e h27 (by decide); replace h28 := slot_on e h28 (by decide); replace h29 := slot_on e h29 (by decide); replace h43 := slot_on e h43 (by decide); have h47 := g47; clear g47; clear e
    have Y : (execOp a130.eval o9_12_5).run Try.prog w125 = .ok (.value (.int .i64 0)) w125 := by unfold o9_12_5; go_simp
    refine st_val g9_12_5 rfl (wanted_free rfl) Y fun a132 e => ?_; clear Y
    have g48 := R.at_ e (by decide); replace R := R.put e; replace h3 := slot_on e h3 (by decide); replace h4 := slot_on e h4 (by decide); replace h6 := slot_on e h6 (by decide); replace h7 := slot_on e h7 (by decide); replace h26 := slot_on e h26 (by decide); replace h27 := slot_on e h27 (by decide); replace h28 := slot_on e h28 (by decide); replace h29 := slot_on e h29 (by decide); replace h47 := slot_on e h47 (by decide); clear h43; have h48 := g48; clear g48; clear e
    have MK1 := K1
    have MKR := KR
    have MK2 := K2
    have Y : (execOp a132.eval o9_12_6).run Try.prog w125 = .ok (.value (.pointer (some ⟨w125.heap.size, 0, none⟩))) (w125.alloc (.cells #[.int .i64 0, .string (⟨#[]⟩), .int .i64 0, .slice none 0 0] 24)) := by unfold o9_12_6; go_simp
    have B134 := Blk.new w125 24 #[.int .i64 0, .string (⟨#[]⟩), .int .i64 0, .slice none 0 0]
    replace K1 := K1.alloc (.cells #[.int .i64 0, .string (⟨#[]⟩), .int .i64 0, .slice none 0 0] 24)
    replace KR := KR.alloc (.cells #[.int .i64 0, .string (⟨#[]⟩), .int .i64 0, .slice none 0 0] 24)
    replace K2 := K2.alloc (.cells #[.int .i64 0, .string (⟨#[]⟩), .int .i64 0, .slice none 0 0] 24)
    have Nb70_b134 := Nat.ne_of_lt B70.lt; replace B70 := B70.alloc (.cells #[.int .i64 0, .string (⟨#[]⟩), .int .i64 0, .slice none 0 0] 24)
    have Nb74_b134 := Nat.ne_of_lt B74.lt; replace B74 := B74.alloc (.cells #[.int .i64 0, .string (⟨#[]⟩), .int .i64 0, .slice none 0 0] 24)
    obtain ⟨w135, hw135⟩ : ∃ x, x = w125.alloc (.cells #[.int .i64 0, .string (⟨#[]⟩), .int .i64 0, .slice none 0 0] 24) := ⟨_, rfl⟩
    rw [← hw135] at Y B134 K1 KR K2 B70 B74
    obtain ⟨b134, hb134⟩ : ∃ x, x = w125.heap.size := ⟨_, rfl⟩
    rw [← hb134] at Y B134 Nb70_b134 Nb74_b134
    have LK1_b134 : W.heap.size ≤ b134 := by rw [hb134]; first | exact Nat.le_refl _ | exact MK1.size
    have LKR_b134 : wr.heap.size ≤ b134 := by rw [hb134]; first | exact Nat.le_refl _ | exact MKR.size
    have LK2_b134 : w125.heap.size ≤ b134 := by rw [hb134]; first | exact Nat.le_refl _ | exact MK2.size
    clear hw135 hb134 MK1 MKR MK2
    refine st_val g9_12_6 rfl (wanted_free rfl) Y fun a136 e => ?_; clear Y
    have g10 := R.at_ e (by decide); replace R := R.put e; replace h3 := slot_on e h3 (by decide); replace h4 := slot_on e h4 (by decide); replace h6 := slot_on e h6 (by decide); replace h7 := slot_on e h7 (by decide); replace h26 := slot_on e h26 (by decide); replace h27 := slot_on e h27 (by decide); replace h28 := slot_on e h28 (by decide); replace h29 := slot_on e h29 (by decide); replace h47 := slot_on e h47 (by decide); replace h48 := slot_on e h48 (by decide); have h10 := g10; clear g10; clear e
    have Y : (execOp a136.eval o9_12_7).run Try.prog w135 = .ok .skip ((((w135.setCell ⟨b134, 0, none⟩ (.int .i64 t.tree.tm.k)).setCell ⟨b134, 1, none⟩ (.string (str t.tree.tm.nm))).setCell ⟨b134, 2, none⟩ (.int .i64 t.tree.tm.i)).setCell ⟨b134, 3, none⟩ (.slice ax t.tree.tm.args.length cx)) := by have qq0 : w135.cell? ⟨b134, 0, none⟩ = some (.int .i64 0) := B134.cell 0; have qq1 : w135.cell? ⟨b134, 1, none⟩ = some (.string (⟨#[]⟩)) := B134.cell 1; have qq2 : w135.cell? ⟨b134, 2, none⟩ = some (.int .i64 0) := B134.cell 2; have qq3 : w135.cell? ⟨b134, 3, none⟩ = some (.slice none 0 0) := B134.cell 3; have z0 := B134.frozen 0; have z1 := B134.frozen 1; have z2 := B134.frozen 2; have z3 := B134.frozen 3; unfold o9_12_7; go_simp
    replace K1 := ((((K1.setCell (p := ⟨b134, 0, none⟩) (Nat.not_lt.2 LK1_b134) (.int .i64 t.tree.tm.k)).setCell (p := ⟨b134, 1, none⟩) (Nat.not_lt.2 LK1_b134) (.string (str t.tree.tm.nm))).setCell (p := ⟨b134, 2, none⟩) (Nat.not_lt.2 LK1_b134) (.int .i64 t.tree.tm.i)).setCell (p := ⟨b134, 3, none⟩) (Nat.not_lt.2 LK1_b134) (.slice ax t.tree.tm.args.length cx))
    replace KR := ((((KR.setCell (p := ⟨b134, 0, none⟩) (Nat.not_lt.2 LKR_b134) (.int .i64 t.tree.tm.k)).setCell (p := ⟨b134, 1, none⟩) (Nat.not_lt.2 LKR_b134) (.string (str t.tree.tm.nm))).setCell (p := ⟨b134, 2, none⟩) (Nat.not_lt.2 LKR_b134) (.int .i64 t.tree.tm.i)).setCell (p := ⟨b134, 3, none⟩) (Nat.not_lt.2 LKR_b134) (.slice ax t.tree.tm.args.length cx))
    replace K2 := ((((K2.setCell (p := ⟨b134, 0, none⟩) (Nat.not_lt.2 LK2_b134) (.int .i64 t.tree.tm.k)).setCell (p := ⟨b134, 1, none⟩) (Nat.not_lt.2 LK2_b134) (.string (str t.tree.tm.nm))).setCell (p := ⟨b134, 2, none⟩) (Nat.not_lt.2 LK2_b134) (.int .i64 t.tree.tm.i)).setCell (p := ⟨b134, 3, none⟩) (Nat.not_lt.2 LK2_b134) (.slice ax t.tree.tm.args.length cx))
    replace B70 := ((((B70.far (p := ⟨b134, 0, none⟩) Nb70_b134 (.int .i64 t.tree.tm.k)).far (p := ⟨b134, 1, none⟩) Nb70_b134 (.string (str t.tree.tm.nm))).far (p := ⟨b134, 2, none⟩) Nb70_b134 (.int .i64 t.tree.tm.i)).far (p := ⟨b134, 3, none⟩) Nb70_b134 (.slice ax t.tree.tm.args.length cx))
    replace B74 := ((((B74.far (p := ⟨b134, 0, none⟩) Nb74_b134 (.int .i64 t.tree.tm.k)).far (p := ⟨b134, 1, none⟩) Nb74_b134 (.string (str t.tree.tm.nm))).far (p := ⟨b134, 2, none⟩) Nb74_b134 (.int .i64 t.tree.tm.i)).far (p := ⟨b134, 3, none⟩) Nb74_b134 (.slice ax t.tree.tm.args.length cx))
    replace B134 : Blk ((((w135.setCell ⟨b134, 0, none⟩ (.int .i64 t.tree.tm.k)).setCell ⟨b134, 1, none⟩ (.string (str t.tree.tm.nm))).setCell ⟨b134, 2, none⟩ (.int .i64 t.tree.tm.i)).setCell ⟨b134, 3, none⟩ (.slice ax t.tree.tm.args.length cx)) b134 24 #[.int .i64 t.tree.tm.k, .string (str t.tree.tm.nm), .int .i64 t.tree.tm.i, .slice ax t.tree.tm.args.length cx] := ((((B134.set_ 0 (.int .i64 t.tree.tm.k)).set_ 1 (.string (str t.tree.tm.nm))).set_ 2 (.int .i64 t.tree.tm.i)).set_ 3 (.slice ax t.tree.tm.args.length cx))
    generalize ((((w135.setCell ⟨b134, 0, none⟩ (.int .i64 t.tree.tm.k)).setCell ⟨b134, 1, none⟩ (.string (str t.tree.tm.nm))).setCell ⟨b134, 2, none⟩ (.int .i64 t.tree.tm.i)).setCell ⟨b134, 3, none⟩ (.slice ax t.tree.tm.args.length cx)) = w138 at Y K1 KR K2 B70 B74 B134
    refine st_skip g9_12_7 rfl (wanted_free rfl) Y ?_; clear Y
    have Y : (execOp a136.eval o9_12_8).run Try.prog w138 = .ok (.value (.int .i64 0)) w138 := by unfold o9_12_8; go_simp
    refine st_val g9_12_8 rfl (wanted_free rfl) Y fun a139 e => ?_; clear Y
    have g11 := R.at_ e (by decide); replace R := R.put e; replace h3 := slot_on e h3 (by decide); replace h4 := slot_on e h4 (by decide); replace h6 := slot_on e h6 (by decide); replace h7 := slot_on e h7 (by decide); replace h10 := slot_on e h10 (by decide); replace h26 := slot_on e h26 (by decide); replace h27 := slot_on e h27 (by decide); replace h28 := slot_on e h28 (by decide); replace h29 := slot_on e h29 (by decide); clear h47 h48; have h11 := g11; clear g11; clear e
    refine st_end ?_
    change (c9_43).wp _ _ _ _
    refine wp_seq (x := c9_44) (y := c9_51) ?_
    refine wp_seq (x := c9_45) (y := c9_46) ?_
    change (Code.region 13 O9_13 false).wp _ _ _ _
    refine reg_in (l := [0, 1, 2, 3, 4, 5, 6, 7]) rfl ?_
    have Y : (execOp a139.eval o9_13_0).run Try.prog w138 = .ok (.value (.int .i64 0)) w138 := by unfold o9_13_0; go_simp
    refine st_val g9_13_0 rfl (wanted_free rfl) Y fun a141 e => ?_; clear Y
    have g49 := R.at_ e (by decide); replace R := R.put e; replace h3 := slot_on e h3 (by decide); replace h4 := slot_on e h4 (by decide); replace h6 := slot_on e h6 (by decide); replace h7 := slot_on e h7 (by decide); replace h10 := slot_on e h10 (by decide); replace h26 := slot_on e h26 (by decide); replace h27 := slot_on e h27 (by decide); replace h28 := slot_on e h28 (by decide); replace h29 := slot_on e h29 (by decide); clear h11; have h49 := g49; clear g49; clear e
    have Y : (execOp a141.eval o9_13_1).run Try.prog w138 = .ok (.value (.bool false)) w138 := by unfold o9_13_1; go_simp
    refine st_val g9_13_1 rfl (wanted_free rfl) Y fun a143 e => ?_; clear Y
    have g50 := R.at_ e (by decide); replace R := R.put e; replace h3 := slot_on e h3 (by decide); replace h4 := slot_on e h4 (by decide); replace h6 := slot_on e h6 (by decide); replace h7 := slot_on e h7 (by decide); replace h10 := slot_on e h10 (by decide); replace h26 := slot_on e h26 (by decide); replace h27 := slot_on e h27 (by decide); replace h28 := slot_on e h28 (by decide); replace h29 := slot_on e h29 (by decide); clear h49; have h50 := g50; clear g50; clear e
    have Y : (execOp a143.eval o9_13_2).run Try.prog w138 = .ok (.value (.bool false)) w138 := by unfold o9_13_2; go_simp
    refine st_val g9_13_2 rfl (wanted_free rfl) Y fun a145 e => ?_; clear Y
    have g51 := R.at_ e (by decide); replace R := R.put e; replace h3 := slot_on e h3 (by decide); replace h4 := slot_on e h4 (by decide); replace h6 := slot_on e h6 (by decide); replace h7 := slot_on e h7 (by decide); replace h10 := slot_on e h10 (by decide); replace h26 := slot_on e h26 (by decide); replace h27 := slot_on e h27 (by decide); replace h28 := slot_on e h28 (by decide); replace h29 := slot_on e h29 (by decide); clear h50; have h51 := g51; clear g51; clear e
    have Y : (execOp a145.eval o9_13_3).run Try.prog w138 = .ok (.value (.agg #[.int .i64 t.tree.tm.k, .string (str t.tree.tm.nm), .int .i64 t.tree.tm.i, .slice ax t.tree.tm.args.length cx])) w138 := by have qq0 : w138.cell? ⟨b134, 0, none⟩ = some (.int .i64 t.tree.tm.k) := B134.cell 0; have qq1 : w138.cell? ⟨b134, 1, none⟩ = some (.string (str t.tree.tm.nm)) := B134.cell 1; have qq2 : w138.cell? ⟨b134, 2, none⟩ = some (.int .i64 t.tree.tm.i) := B134.cell 2; have qq3 : w138.cell? ⟨b134, 3, none⟩ = some (.slice ax t.tree.tm.args.length cx) := B134.cell 3; unfold o9_13_3; go_simp
    refine st_val g9_13_3 rfl (wanted_is (j := 2) (d := 51) rfl rfl h51 rfl) Y fun a147 e => ?_; clear Y
    have g52 := R.at_ e (by decide); replace R := R.put e; replace h3 := slot_on e h3 (by decide); replace h4 := slot_on e h4 (by decide); replace h6 := slot_on e h6 (by decide); replace h7 := slot_on e h7 (by decide); replace h26 := slot_on e h26 (by decide); replace h27 := slot_on e h27 (by decide); replace h28 := slot_on e h28 (by decide); replace h29 := slot_on e h29 (by decide); replace h51 := slot_on e h51 (by decide); clear h10; have h52 := g52; clear g52; clear e
    have Y : (execOp a147.eval o9_13_4).run Try.prog w138 = .ok (.value (.agg #[.int .i64 t.k, .string (str t.nm), .int .i64 t.i, .slice ta t.args.length tc])) w138 := by have qq0 : w138.cell? ⟨b70, 0, none⟩ = some (.int .i64 t.k) := B70.cell 0; have qq1 : w138.cell? ⟨b70, 1, none⟩ = some (.string (str t.nm)) := B70.cell 1; have qq2 : w138.cell? ⟨b70, 2, none⟩ = some (.int .i64 t.i) := B70.cell 2; have qq3 : w138.cell? ⟨b70, 3, none⟩ = some (.slice ta t.args.length tc) := B70.cell 3; unfold o9_13_4; go_simp
    refine st_val g9_13_4 rfl (wanted_is (j := 2) (d := 51) rfl rfl h51 rfl) Y fun a149 e => ?_; clear Y
    have g53 := R.at_ e (by decide); replace R := R.put e; replace h3 := slot_on e h3 (by decide); replace h4 := slot_on e h4 (by decide); replace h6 := slot_on e h6 (by decide); replace h7 := slot_on e h7 (by decide); replace h26 := slot_on e h26 (by decide); replace h27 := slot_on e h27 (by decide); replace h28 := slot_on e h28 (by decide); replace h29 := slot_on e h29 (by decide); replace h51 := slot_on e h51 (by decide); replace h52 := slot_on e h52 (by decide); have h53 := g53; clear g53; clear e
    have Y : (execOp a149.eval o9_13_5).run Try.prog w138 = .ok (.enter 19 #[.agg #[.int .i64 t.tree.tm.k, .string (str t.tree.tm.nm), .int .i64 t.tree.tm.i, .slice ax t.tree.tm.args.length cx], .agg #[.int .i64 t.k, .string (str t.nm), .int .i64 t.i, .slice ta t.args.length tc]]) w138 := by unfold o9_13_5; go_simp
    refine st_call g9_13_5 rfl (wanted_is (j := 2) (d := 51) rfl rfl h51 rfl) Y ((same_sx (z := true) (HX.out.on K2) (HT.out.on K1) (same_tm HRT.out)).mono ?_); clear Y
    rintro e9 w151 ⟨rfl, kk⟩
    replace K1 := keep_onto K1 kk
    replace KR := keep_onto KR kk
    replace K2 := keep_onto K2 kk
    replace B70 := blk_on B70 kk
    replace B74 := blk_on B74 kk
    replace B134 := blk_on B134 kk
    clear kk
    refine ⟨_, rfl, fun a152 e => ?_⟩
    have g54 := R.at_ e (by decide); replace R := R.put e; replace h3 := slot_on e h3 (by decide); replace h4 := slot_on e h4 (by decide); replace h6 := slot_on e h6 (by decide); replace h7 := slot_on e h7 (by decide); replace h26 := slot_on e h26 (by decide); replace h27 := slot_on e h27 (by decide); replace h28 := slot_on e h28 (by decide); replace h29 := slot_on e h29 (by decide); replace h51 := slot_on e h51 (by decide); clear h52 h53; have h54 := g54; clear g54; clear e
    have Y : (execOp a152.eval o9_13_6).run Try.prog w151 = .ok (.value (.bool false)) w151 := by unfold o9_13_6; go_simp
    refine st_val g9_13_6 rfl (wanted_is (j := 2) (d := 51) rfl rfl h51 rfl) Y fun a154 e => ?_; clear Y
    have g55 := R.at_ e (by decide); replace R := R.put e; replace h3 := slot_on e h3 (by decide); replace h4 := slot_on e h4 (by decide); replace h6 := slot_on e h6 (by decide); replace h7 := slot_on e h7 (by decide); replace h26 := slot_on e h26 (by decide); replace h27 := slot_on e h27 (by decide); replace h28 := slot_on e h28 (by decide); replace h29 := slot_on e h29 (by decide); replace h51 := slot_on e h51 (by decide); clear h54; have h55 := g55; clear g55; clear e
    have Y : (execOp a154.eval o9_13_7).run Try.prog w151 = .ok (.value (.bool false)) w151 := by unfold o9_13_7; go_simp
    refine st_val g9_13_7 rfl (wanted_free rfl) Y fun a156 e => ?_; clear Y
    have g56 := R.at_ e (by decide); replace R := R.put e; replace h3 := slot_on e h3 (by decide); replace h4 := slot_on e h4 (by decide); replace h6 := slot_on e h6 (by decide); replace h7 := slot_on e h7 (by decide); replace h26 := slot_on e h26 (by decide); replace h27 := slot_on e h27 (by decide); replace h28 := slot_on e h28 (by decide); replace h29 := slot_on e h29 (by decide); clear h51 h55; have h56 := g56; clear g56; clear e
    refine st_end ?_
    change (c9_46).wp _ _ _ _
    refine wp_cond_false (x := c9_47) (y := Code.skip) (eval_slot h56) ?_
    refine wp_skip ?_
    change (c9_51).wp _ _ _ _
    refine wp_seq (x := c9_52) (y := c9_59) ?_
    refine wp_seq (x := c9_53) (y := c9_54) ?_
    change (Code.region 15 O9_15 false).wp _ _ _ _
    refine reg_in (l := [0, 1, 2, 3, 4, 5, 6, 7, 8, 9]) rfl ?_
    have Y : (execOp a156.eval o9_15_0).run Try.prog w151 = .ok (.value (.agg #[.int .i64 t.k, .string (str t.nm), .int .i64 t.i, .slice ta t.args.length tc])) w151 := by have qq0 : w151.cell? ⟨b70, 0, none⟩ = some (.int .i64 t.k) := B70.cell 0; have qq1 : w151.cell? ⟨b70, 1, none⟩ = some (.string (str t.nm)) := B70.cell 1; have qq2 : w151.cell? ⟨b70, 2, none⟩ = some (.int .i64 t.i) := B70.cell 2; have qq3 : w151.cell? ⟨b70, 3, none⟩ = some (.slice ta t.args.length tc) := B70.cell 3; unfold o9_15_0; go_simp
    refine st_val g9_15_0 rfl (wanted_free rfl) Y fun a158 e => ?_; clear Y
    have g57 := R.at_ e (by decide); replace R := R.put e; replace h3 := slot_on e h3 (by decide); replace h4 := slot_on e h4 (by decide); replace h6 := slot_on e h6 (by decide); replace h7 := slot_on e h7 (by decide); replace h26 := slot_on e h26 (by decide); replace h27 := slot_on e h27 (by decide); replace h28 := slot_on e h28 (by decide); replace h29 := slot_on e h29 (by decide); clear h56; have h57 := g57; clear g57; clear e
    have Y : (execOp a158.eval o9_15_1).run Try.prog w151 = .ok (.enter 18 #[.agg #[.int .i64 t.k, .string (str t.nm), .int .i64 t.i, .slice ta t.args.length tc]]) w151 := by unfold o9_15_1; go_simp
    refine st_call g9_15_1 rfl (wanted_free rfl) Y ((vars_sx (HT.out.on K1) (l := vaV t) (L := (vaV t).length) rfl rfl).mono ?_); clear Y
    rintro e9 w160 ⟨gb, ub, uc9, rfl, hvr, kk⟩
    replace K1 := keep_onto K1 kk
    replace KR := keep_onto KR kk
    replace K2 := keep_onto K2 kk
    replace B70 := blk_on B70 kk
    replace B74 := blk_on B74 kk
    replace B134 := blk_on B134 kk
    clear kk
    refine ⟨_, rfl, fun a161 e => ?_⟩
    have g58 := R.at_ e (by decide); replace R := R.put e; replace h3 := slot_on e h3 (by decide); replace h4 := slot_on e h4 (by decide); replace h6 := slot_on e h6 (by decide); replace h7 := slot_on e h7 (by decide); replace h26 := slot_on e h26 (by decide); replace h27 := slot_on e h27 (by decide); replace h28 := slot_on e h28 (by decide); replace h29 := slot_on e h29 (by decide); clear h57; have h58 := g58; clear g58; clear e
    have Y : (execOp a161.eval o9_15_2).run Try.prog w160 = .ok (.value (.int .i64 ((vaV t).length))) w160 := by unfold o9_15_2; go_simp
    refine st_val g9_15_2 rfl (wanted_free rfl) Y fun a163 e => ?_; clear Y
    have g59 := R.at_ e (by decide); replace R := R.put e; replace h3 := slot_on e h3 (by decide); replace h4 := slot_on e h4 (by decide); replace h6 := slot_on e h6 (by decide); replace h7 := slot_on e h7 (by decide); replace h26 := slot_on e h26 (by decide); replace h27 := slot_on e h27 (by decide); replace h28 := slot_on e h28 (by decide); replace h29 := slot_on e h29 (by decide); clear h58; have h59 := g59; clear g59; clear e
    obtain ⟨b165, hb165⟩ : ∃ x, (decide ((0 : Int) < ((vaV t).length : Int))) = x := ⟨_, rfl⟩
    have Y : (execOp a163.eval o9_15_3).run Try.prog w160 = .ok (.value (.bool b165)) w160 := by rw [← hb165]; unfold o9_15_3; go_simp
    refine st_val g9_15_3 rfl (wanted_free rfl) Y fun a166 e => ?_; clear Y
    have g60 := R.at_ e (by decide); replace R := R.put e; replace h3 := slot_on e h3 (by decide); replace h4 := slot_on e h4 (by decide); replace h6 := slot_on e h6 (by decide); replace h7 := slot_on e h7 (by decide); replace h26 := slot_on e h26 (by decide); replace h27 := slot_on e h27 (by decide); replace h28 := slot_on e h28 (by decide); replace h29 := slot_on e h29 (by decide); clear h59; have h60 := g60; clear g60; clear e
    have Y : (execOp a166.eval o9_15_4).run Try.prog w160 = .ok (.value (.bool b165)) w160 := by unfold o9_15_4; go_simp
    refine st_val g9_15_4 rfl (wanted_free rfl) Y fun a168 e => ?_; clear Y
    have g61 := R.at_ e (by decide); replace R := R.put e; replace h3 := slot_on e h3 (by decide); replace h4 := slot_on e h4 (by decide); replace h6 := slot_on e h6 (by decide); replace h7 := slot_on e h7 (by decide); replace h26 := slot_on e h26 (by decide); replace h27 := slot_on e h27 (by decide); replace h28 := slot_on e h28 (by decide); replace h29 := slot_on e h29 (by decide); clear h60; have h61 := g61; clear g61; clear e
    cases b165 with
    | false =>
      have fb165 := hb165; clear hb165
      simp only [decide_eq_true_eq, decide_eq_false_iff_not, Bool.not_eq_true', Bool.not_eq_false', Bool.not_eq_eq_eq_not, Bool.not_true, Bool.not_false] at fb165
      have Y : (execOp a168.eval o9_15_5).run Try.prog w160 = .ok (.value (.agg #[.int .i64 u.k, .string (str u.nm), .int .i64 u.i, .slice ua u.args.length uc])) w160 := by have qq0 : w160.cell? ⟨b74, 0, none⟩ = some (.int .i64 u.k) := B74.cell 0; have qq1 : w160.cell? ⟨b74, 1, none⟩ = some (.string (str u.nm)) := B74.cell 1; have qq2 : w160.cell? ⟨b74, 2, none⟩ = some (.int .i64 u.i) := B74.cell 2; have qq3 : w160.cell? ⟨b74, 3, none⟩ = some (.slice ua u.args.length uc) := B74.cell 3; unfold o9_15_5; go_simp
      refine st_val g9_15_5 rfl (wanted_is (j := 4) (d := 61) rfl rfl h61 rfl) Y fun a170 e => ?_; clear Y
      have g62 := R.at_ e (by decide); replace R := R.put e; replace h3 := slot_on e h3 (by decide); replace h4 := slot_on e h4 (by decide); replace h6 := slot_on e h6 (by decide); replace h7 := slot_on e h7 (by decide); replace h26 := slot_on e h26 (by decide); replace h27 := slot_on e h27 (by decide); replace h28 := slot_on e h28 (by decide); replace h29 := slot_on e h29 (by decide); replace h61 := slot_on e h61 (by decide); have h62 := g62; clear g62; clear e
      have Y : (execOp a170.eval o9_15_6).run Try.prog w160 = .ok (.enter 18 #[.agg #[.int .i64 u.k, .string (str u.nm), .int .i64 u.i, .slice ua u.args.length uc]]) w160 := by unfold o9_15_6; go_simp
      refine st_call g9_15_6 rfl (wanted_is (j := 4) (d := 61) rfl rfl h61 rfl) Y ((vars_sx (HU.out.on K1) (l := vaV u) (L := (vaV u).length) rfl rfl).mono ?_); clear Y
      rintro e9 w172 ⟨gb, ub, uc9, rfl, hvr, kk⟩
      replace K1 := keep_onto K1 kk
      replace KR := keep_onto KR kk
      replace K2 := keep_onto K2 kk
      replace B70 := blk_on B70 kk
      replace B74 := blk_on B74 kk
      replace B134 := blk_on B134 kk
      clear kk
      refine ⟨_, rfl, fun a173 e => ?_⟩
      have g63 := R.at_ e (by decide); replace R := R.put e; replace h3 := slot_on e h3 (by decide); replace h4 := slot_on e h4 (by decide); replace h6 := slot_on e h6 (by decide); replace h7 := slot_on e h7 (by decide); replace h26 := slot_on e h26 (by decide); replace h27 := slot_on e h27 (by decide); replace h28 := slot_on e h28 (by decide); replace h29 := slot_on e h29 (by decide); replace h61 := slot_on e h61 (by decide); clear h62; have h63 := g63; clear g63; clear e
      have Y : (execOp a173.eval o9_15_7).run Try.prog w172 = .ok (.value (.int .i64 ((vaV u).length))) w172 := by unfold o9_15_7; go_simp
      refine st_val g9_15_7 rfl (wanted_is (j := 4) (d := 61) rfl rfl h61 rfl) Y fun a175 e => ?_; clear Y
      have g64 := R.at_ e (by decide); replace R := R.put e; replace h3 := slot_on e h3 (by decide); replace h4 := slot_on e h4 (by decide); replace h6 := slot_on e h6 (by decide); replace h7 := slot_on e h7 (by decide); replace h26 := slot_on e h26 (by decide); replace h27 := slot_on e h27 (by decide); replace h28 := slot_on e h28 (by decide); replace h29 := slot_on e h29 (by decide); replace h61 := slot_on e h61 (by decide); clear h63; have h64 := g64; clear g64; clear e
      obtain ⟨b177, hb177⟩ : ∃ x, (decide ((0 : Int) < ((vaV u).length : Int))) = x := ⟨_, rfl⟩
      have Y : (execOp a175.eval o9_15_8).run Try.prog w172 = .ok (.value (.bool b177)) w172 := by rw [← hb177]; unfold o9_15_8; go_simp
      refine st_val g9_15_8 rfl (wanted_is (j := 4) (d := 61) rfl rfl h61 rfl) Y fun a178 e => ?_; clear Y
      have g65 := R.at_ e (by decide); replace R := R.put e; replace h3 := slot_on e h3 (by decide); replace h4 := slot_on e h4 (by decide); replace h6 := slot_on e h6 (by decide); replace h7 := slot_on e h7 (by decide); replace h26 := slot_on e h26 (by decide); replace h27 := slot_on e h27 (by decide); replace h28 := slot_on e h28 (by decide); replace h29 := slot_on e h29 (by decide); replace h61 := slot_on e h61 (by decide); clear h64; have h65 := g65; clear g65; clear e
      have Y : (execOp a178.eval o9_15_9).run Try.prog w172 = .ok (.value (.bool b177)) w172 := by unfold o9_15_9; go_simp
      refine st_val g9_15_9 rfl (wanted_free rfl) Y fun a180 e => ?_; clear Y
      have g66 := R.at_ e (by decide); replace R := R.put e; replace h3 := slot_on e h3 (by decide); replace h4 := slot_on e h4 (by decide); replace h6 := slot_on e h6 (by decide); replace h7 := slot_on e h7 (by decide); replace h26 := slot_on e h26 (by decide); replace h27 := slot_on e h27 (by decide); replace h28 := slot_on e h28 (by decide); replace h29 := slot_on e h29 (by decide); clear h61 h65; have h66 := g66; clear g66; clear e
      refine st_end ?_
      change (c9_54).wp _ _ _ _
      cases b177 with
      | false =>
        have fb177 := hb177; clear hb177
        simp only [decide_eq_true_eq, decide_eq_false_iff_not, Bool.not_eq_true', Bool.not_eq_false', Bool.not_eq_eq_eq_not, Bool.not_true, Bool.not_false] at fb177
        refine wp_cond_false (x := c9_55) (y := Code.skip) (eval_slot h66) ?_
        refine wp_skip ?_
        change (c9_59).wp _ _ _ _
        refine wp_seq (x := c9_60) (y := c9_61) ?_
        change (Code.region 17 O9_17 false).wp _ _ _ _
        refine reg_in (l := [0, 1, 2, 3, 4, 5, 6, 7, 8, 9]) rfl ?_
        have Y : (execOp a180.eval o9_17_0).run Try.prog w172 = .ok (.value (.agg #[.int .i64 t.k, .string (str t.nm), .int .i64 t.i, .slice ta t.args.length tc])) w172 := by have qq0 : w172.cell? ⟨b70, 0, none⟩ = some (.int .i64 t.k) := B70.cell 0; have qq1 : w172.cell? ⟨b70, 1, none⟩ = some (.string (str t.nm)) := B70.cell 1; have qq2 : w172.cell? ⟨b70, 2, none⟩ = some (.int .i64 t.i) := B70.cell 2; have qq3 : w172.cell? ⟨b70, 3, none⟩ = some (.slice ta t.args.length tc) := B70.cell 3; unfold o9_17_0; go_simp
        refine st_val g9_17_0 rfl (wanted_free rfl) Y fun a182 e => ?_; clear Y
        have g68 := R.at_ e (by decide); replace R := R.put e; replace h3 := slot_on e h3 (by decide); replace h4 := slot_on e h4 (by decide); replace h6 := slot_on e h6 (by decide); replace h7 := slot_on e h7 (by decide); replace h26 := slot_on e h26 (by decide); replace h27 := slot_on e h27 (by decide); replace h28 := slot_on e h28 (by decide); replace h29 := slot_on e h29 (by decide); clear h66; have h68 := g68; clear g68; clear e
        have Y : (execOp a182.eval o9_17_1).run Try.prog w172 = .ok (.value (.agg #[.int .i64 u.k, .string (str u.nm), .int .i64 u.i, .slice ua u.args.length uc])) w172 := by have qq0 : w172.cell? ⟨b74, 0, none⟩ = some (.int .i64 u.k) := B74.cell 0; have qq1 : w172.cell? ⟨b74, 1, none⟩ = some (.string (str u.nm)) := B74.cell 1; have qq2 : w172.cell? ⟨b74, 2, none⟩ = some (.int .i64 u.i) := B74.cell 2; have qq3 : w172.cell? ⟨b74, 3, none⟩ = some (.slice ua u.args.length uc) := B74.cell 3; unfold o9_17_1; go_simp
        refine st_val g9_17_1 rfl (wanted_free rfl) Y fun a184 e => ?_; clear Y
        have g69 := R.at_ e (by decide); replace R := R.put e; replace h3 := slot_on e h3 (by decide); replace h4 := slot_on e h4 (by decide); replace h6 := slot_on e h6 (by decide); replace h7 := slot_on e h7 (by decide); replace h26 := slot_on e h26 (by decide); replace h27 := slot_on e h27 (by decide); replace h28 := slot_on e h28 (by decide); replace h29 := slot_on e h29 (by decide); replace h68 := slot_on e h68 (by decide); have h69 := g69; clear g69; clear e
        have Y : (execOp a184.eval o9_17_2).run Try.prog w172 = .ok (.enter 28 #[.agg #[.int .i64 t.k, .string (str t.nm), .int .i64 t.i, .slice ta t.args.length tc], .agg #[.int .i64 u.k, .string (str u.nm), .int .i64 u.i, .slice ua u.args.length uc]]) w172 := by unfold o9_17_2; go_simp
        refine st_call g9_17_2 rfl (wanted_free rfl) Y ((solve_sx (HT.out.on K1) (HU.out.on K1)).mono ?_); clear Y
        rintro e9 w186 ⟨va, vc, ds, ok, er, rfl, hs, kk⟩
        replace K1 := keep_onto K1 kk
        replace KR := keep_onto KR kk
        replace K2 := keep_onto K2 kk
        replace B70 := blk_on B70 kk
        replace B74 := blk_on B74 kk
        replace B134 := blk_on B134 kk
        clear kk
        obtain ⟨rfl, hd0, hok, hvt⟩ := ground_facts HRT.out HRU.out (by omega) (by omega) hs.1; clear hs
        obtain ⟨zs, hzs⟩ : ∃ z, sameV t u = z := ⟨_, rfl⟩
        rw [hd0]; rw [hzs] at hok hvt; replace hok := hok.symm; subst hok; have HZS := Lib.hid hzs; have HZV := Lib.hid hvt; clear hzs hvt hd0
        refine ⟨_, rfl, fun a187 e => ?_⟩
        have g70 := R.at_ e (by decide); replace R := R.put e; replace h3 := slot_on e h3 (by decide); replace h4 := slot_on e h4 (by decide); replace h6 := slot_on e h6 (by decide); replace h7 := slot_on e h7 (by decide); replace h26 := slot_on e h26 (by decide); replace h27 := slot_on e h27 (by decide); replace h28 := slot_on e h28 (by decide); replace h29 := slot_on e h29 (by decide); clear h68 h69; have h70 := g70; clear g70; clear e
        have Y : (execOp a187.eval o9_17_3).run Try.prog w186 = .ok (.value (.tuple #[.slice va 0 vc, .bool zs, .int .i64 0])) w186 := by unfold o9_17_3; go_simp
        refine st_val g9_17_3 rfl (wanted_free rfl) Y fun a189 e => ?_; clear Y
        have g67 := R.at_ e (by decide); replace R := R.put e; replace h3 := slot_on e h3 (by decide); replace h4 := slot_on e h4 (by decide); replace h6 := slot_on e h6 (by decide); replace h7 := slot_on e h7 (by decide); replace h26 := slot_on e h26 (by decide); replace h27 := slot_on e h27 (by decide); replace h28 := slot_on e h28 (by decide); replace h29 := slot_on e h29 (by decide); clear h70; have h67 := g67; clear g67; clear e
        have Y : (execOp a189.eval o9_17_4).run Try.prog w186 = .ok (.value (.slice va 0 vc)) w186 := by unfold o9_17_4; go_simp
        refine st_val g9_17_4 rfl (wanted_free rfl) Y fun a191 e => ?_; clear Y
        have g71 := R.at_ e (by decide); replace R := R.put e; replace h3 := slot_on e h3 (by decide); replace h4 := slot_on e h4 (by decide); replace h6 := slot_on e h6 (by decide); replace h7 := slot_on e h7 (by decide); replace h26 := slot_on e h26 (by decide); replace h27 := slot_on e h27 (by decide); replace h28 := slot_on e h28 (by decide); replace h29 := slot_on e h29 (by decide); replace h67 := slot_on e h67 (by decide); have h71 := g71; clear g71; clear e
        have Y : (execOp a191.eval o9_17_5).run Try.prog w186 = .ok (.value (.bool zs)) w186 := by unfold o9_17_5; go_simp
        refine st_val g9_17_5 rfl (wanted_free rfl) Y fun a193 e => ?_; clear Y
        have g72 := R.at_ e (by decide); replace R := R.put e; replace h3 := slot_on e h3 (by decide); replace h4 := slot_on e h4 (by decide); replace h6 := slot_on e h6 (by decide); replace h7 := slot_on e h7 (by decide); replace h26 := slot_on e h26 (by decide); replace h27 := slot_on e h27 (by decide); replace h28 := slot_on e h28 (by decide); replace h29 := slot_on e h29 (by decide); replace h67 := slot_on e h67 (by decide); replace h71 := slot_on e h71 (by decide); have h72 := g72; clear g72; clear e
        have Y : (execOp a193.eval o9_17_6).run Try.prog w186 = .ok (.value (.int .i64 0)) w186 := by unfold o9_17_6; go_simp
        refine st_val g9_17_6 rfl (wanted_free rfl) Y fun a195 e => ?_; clear Y
        have g73 := R.at_ e (by decide); replace R := R.put e; replace h3 := slot_on e h3 (by decide); replace h4 := slot_on e h4 (by decide); replace h6 := slot_on e h6 (by decide); replace h7 := slot_on e h7 (by decide); replace h26 := slot_on e h26 (by decide); replace h27 := slot_on e h27 (by decide); replace h28 := slot_on e h28 (by decide); replace h29 := slot_on e h29 (by decide); replace h71 := slot_on e h71 (by decide); replace h72 := slot_on e h72 (by decide); clear h67; have h73 := g73; clear g73; clear e
        have Y : (execOp a195.eval o9_17_7).run Try.prog w186 = .ok (.value (.slice va 0 vc)) w186 := by unfold o9_17_7; go_simp
        refine st_val g9_17_7 rfl (wanted_free rfl) Y fun a197 e => ?_; clear Y
        have g12 := R.at_ e (by decide); replace R := R.put e; replace h3 := slot_on e h3 (by decide); replace h4 := slot_on e h4 (by decide); replace h6 := slot_on e h6 (by decide); replace h7 := slot_on e h7 (by decide); replace h26 := slot_on e h26 (by decide); replace h27 := slot_on e h27 (by decide); replace h28 := slot_on e h28 (by decide); replace h29 := slot_on e h29 (by decide); replace h72 := slot_on e h72 (by decide); replace h73 := slot_on e h73 (by decide); clear h71; have h12 := g12; clear g12; clear e
        have Y : (execOp a197.eval o9_17_8).run Try.prog w186 = .ok (.value (.bool zs)) w186 := by unfold o9_17_8; go_simp
        refine st_val g9_17_8 rfl (wanted_free rfl) Y fun a199 e => ?_; clear Y
        have g13 := R.at_ e (by decide); replace R := R.put e; replace h3 := slot_on e h3 (by decide); replace h4 := slot_on e h4 (by decide); replace h6 := slot_on e h6 (by decide); replace h7 := slot_on e h7 (by decide); replace h12 := slot_on e h12 (by decide); replace h26 := slot_on e h26 (by decide); replace h27 := slot_on e h27 (by decide); replace h28 := slot_on e h28 (by decide); replace h29 := slot_on e h29 (by decide); replace h73 := slot_on e h73 (by decide); clear h72; have h13 := g13; clear g13; clear e
        have Y : (execOp a199.eval o9_17_9).run Try.prog w186 = .ok (.value (.int .i64 0)) w186 := by unfold o9_17_9; go_simp
        refine st_val g9_17_9 rfl (wanted_free rfl) Y fun a201 e => ?_; clear Y
        have g14 := R.at_ e (by decide); replace R := R.put e; replace h3 := slot_on e h3 (by decide); replace h4 := slot_on e h4 (by decide); replace h6 := slot_on e h6 (by decide); replace h7 := slot_on e h7 (by decide); replace h12 := slot_on e h12 (by decide); replace h13 := slot_on e h13 (by decide); replace h26 := slot_on e h26 (by decide); replace h27 := slot_on e h27 (by decide); replace h28 := slot_on e h28 (by decide); replace h29 := slot_on e h29 (by decide); clear h73; have h14 := g14; clear g14; clear e
        refine st_end ?_
        change (c9_61).wp _ _ _ _
        refine wp_seq (x := c9_62) (y := Code.ret) ?_
        change (Code.region 18 O9_18 false).wp _ _ _ _
        refine reg_in (l := [0, 1, 2, 3, 4, 5, 6, 7, 8, 9, 10, 11, 12, 13, 14, 15, 16, 17, 18, 19, 20, 21]) rfl ?_
        have Y : (execOp a201.eval o9_18_0).run Try.prog w186 = .ok (.value (.int .i64 0)) w186 := by unfold o9_18_0; go_simp
        refine st_val g9_18_0 rfl (wanted_free rfl) Y fun a203 e => ?_; clear Y
        have g74 := R.at_ e (by decide); replace R := R.put e; replace h3 := slot_on e h3 (by decide); replace h4 := slot_on e h4 (by decide); replace h6 := slot_on e h6 (by decide); replace h7 := slot_on e h7 (by decide); replace h12 := slot_on e h12 (by decide); replace h13 := slot_on e h13 (by decide); replace h26 := slot_on e h26 (by decide); replace h27 := slot_on e h27 (by decide); replace h28 := slot_on e h28 (by decide); replace h29 := slot_on e h29 (by decide); clear h14; have h74 := g74; clear g74; clear e
        have Y : (execOp a203.eval o9_18_1).run Try.prog w186 = .ok (.value (.bool true)) w186 := by unfold o9_18_1; go_simp
        refine st_val g9_18_1 rfl (wanted_free rfl) Y fun a205 e => ?_; clear Y
        have g75 := R.at_ e (by decide); replace R := R.put e; replace h3 := slot_on e h3 (by decide); replace h4 := slot_on e h4 (by decide); replace h6 := slot_on e h6 (by decide); replace h7 := slot_on e h7 (by decide); replace h12 := slot_on e h12 (by decide); replace h13 := slot_on e h13 (by decide); replace h26 := slot_on e h26 (by decide); replace h27 := slot_on e h27 (by decide); replace h28 := slot_on e h28 (by decide); replace h29 := slot_on e h29 (by decide); clear h74; have h75 := g75; clear g75; clear e
        have Y : (execOp a205.eval o9_18_2).run Try.prog w186 = .ok (.value (.bool true)) w186 := by unfold o9_18_2; go_simp
        refine st_val g9_18_2 rfl (wanted_free rfl) Y fun a207 e => ?_; clear Y
        have g76 := R.at_ e (by decide); replace R := R.put e; replace h3 := slot_on e h3 (by decide); replace h4 := slot_on e h4 (by decide); replace h6 := slot_on e h6 (by decide); replace h7 := slot_on e h7 (by decide); replace h12 := slot_on e h12 (by decide); replace h13 := slot_on e h13 (by decide); replace h26 := slot_on e h26 (by decide); replace h27 := slot_on e h27 (by decide); replace h28 := slot_on e h28 (by decide); replace h29 := slot_on e h29 (by decide); clear h75; have h76 := g76; clear g76; clear e
        have Y : (execOp a207.eval o9_18_3).run Try.prog w186 = .ok (.value (.slice va 0 vc)) w186 := by unfold o9_18_3; go_simp
        refine st_val g9_18_3 rfl (wanted_is (j := 2) (d := 76) rfl rfl h76 rfl) Y fun a209 e => ?_; clear Y
        have g77 := R.at_ e (by decide); replace R := R.put e; replace h3 := slot_on e h3 (by decide); replace h4 := slot_on e h4 (by decide); replace h6 := slot_on e h6 (by decide); replace h7 := slot_on e h7 (by decide); replace h13 := slot_on e h13 (by decide); replace h26 := slot_on e h26 (by decide); replace h27 := slot_on e h27 (by decide); replace h28 := slot_on e h28 (by decide); replace h29 := slot_on e h29 (by decide); replace h76 := slot_on e h76 (by decide); clear h12; have h77 := g77; clear g77; clear e
        have Y : (execOp a209.eval o9_18_4).run Try.prog w186 = .ok (.value (.int .i64 0)) w186 := by unfold o9_18_4; go_simp
        refine st_val g9_18_4 rfl (wanted_is (j := 2) (d := 76) rfl rfl h76 rfl) Y fun a211 e => ?_; clear Y
        have g78 := R.at_ e (by decide); replace R := R.put e; replace h3 := slot_on e h3 (by decide); replace h4 := slot_on e h4 (by decide); replace h6 := slot_on e h6 (by decide); replace h7 := slot_on e h7 (by decide); replace h13 := slot_on e h13 (by decide); replace h26 := slot_on e h26 (by decide); replace h27 := slot_on e h27 (by decide); replace h28 := slot_on e h28 (by decide); replace h29 := slot_on e h29 (by decide); replace h76 := slot_on e h76 (by decide); clear h77; have h78 := g78; clear g78; clear e
        have Y : (execOp a211.eval o9_18_5).run Try.prog w186 = .ok (.value (.bool true)) w186 := by unfold o9_18_5; go_simp
        refine st_val g9_18_5 rfl (wanted_is (j := 2) (d := 76) rfl rfl h76 rfl) Y fun a213 e => ?_; clear Y
        have g79 := R.at_ e (by decide); replace R := R.put e; replace h3 := slot_on e h3 (by decide); replace h4 := slot_on e h4 (by decide); replace h6 := slot_on e h6 (by decide); replace h7 := slot_on e h7 (by decide); replace h13 := slot_on e h13 (by decide); replace h26 := slot_on e h26 (by decide); replace h27 := slot_on e h27 (by decide); replace h28 := slot_on e h28 (by decide); replace h29 := slot_on e h29 (by decide); replace h76 := slot_on e h76 (by decide); clear h78; have h79 := g79; clear g79; clear e
        have Y : (execOp a213.eval o9_18_6).run Try.prog w186 = .ok (.value (.bool true)) w186 := by unfold o9_18_6; go_simp
        refine st_val g9_18_6 rfl (wanted_free rfl) Y fun a215 e => ?_; clear Y
        have g80 := R.at_ e (by decide); replace R := R.put e; replace h3 := slot_on e h3 (by decide); replace h4 := slot_on e h4 (by decide); replace h6 := slot_on e h6 (by decide); replace h7 := slot_on e h7 (by decide); replace h13 := slot_on e h13 (by decide); replace h26 := slot_on e h26 (by decide); replace h27 := slot_on e h27 (by decide); replace h28 := slot_on e h28 (by decide); replace h29 := slot_on e h29 (by decide); clear h76 h79; have h80 := g80; clear g80; clear e
        have Y : (execOp a215.eval o9_18_7).run Try.prog w186 = .ok (.value (.bool true)) w186 := by unfold o9_18_7; go_simp
        refine st_val g9_18_7 rfl (wanted_free rfl) Y fun a217 e => ?_; clear Y
        have g81 := R.at_ e (by decide); replace R := R.put e; replace h3 := slot_on e h3 (by decide); replace h4 := slot_on e h4 (by decide); replace h6 := slot_on e h6 (by decide); replace h7 := slot_on e h7 (by decide); replace h13 := slot_on e h13 (by decide); replace h26 := slot_on e h26 (by decide); replace h27 := slot_on e h27 (by decide); replace h28 := slot_on e h28 (by decide); replace h29 := slot_on e h29 (by decide); clear h80; have h81 := g81; clear g81; clear e
        have Y : (execOp a217.eval o9_18_8).run Try.prog w186 = .ok (.value (.bool zs)) w186 := by unfold o9_18_8; go_simp
        refine st_val g9_18_8 rfl (wanted_is (j := 7) (d := 81) rfl rfl h81 rfl) Y fun a219 e => ?_; clear Y
        have g82 := R.at_ e (by decide); replace R := R.put e; replace h3 := slot_on e h3 (by decide); replace h4 := slot_on e h4 (by decide); replace h6 := slot_on e h6 (by decide); replace h7 := slot_on e h7 (by decide); replace h13 := slot_on e h13 (by decide); replace h26 := slot_on e h26 (by decide); replace h27 := slot_on e h27 (by decide); replace h28 := slot_on e h28 (by decide); replace h29 := slot_on e h29 (by decide); replace h81 := slot_on e h81 (by decide); have h82 := g82; clear g82; clear e
        have Y : (execOp a219.eval o9_18_9).run Try.prog w186 = .ok (.value (.agg #[.int .i64 t.k, .string (str t.nm), .int .i64 t.i, .slice ta t.args.length tc])) w186 := by have qq0 : w186.cell? ⟨b70, 0, none⟩ = some (.int .i64 t.k) := B70.cell 0; have qq1 : w186.cell? ⟨b70, 1, none⟩ = some (.string (str t.nm)) := B70.cell 1; have qq2 : w186.cell? ⟨b70, 2, none⟩ = some (.int .i64 t.i) := B70.cell 2; have qq3 : w186.cell? ⟨b70, 3, none⟩ = some (.slice ta t.args.length tc) := B70.cell 3; unfold o9_18_9; go_simp
        refine st_val g9_18_9 rfl (wanted_is (j := 7) (d := 81) rfl rfl h81 rfl) Y fun a221 e => ?_; clear Y
        have g83 := R.at_ e (by decide); replace R := R.put e; replace h3 := slot_on e h3 (by decide); replace h4 := slot_on e h4 (by decide); replace h6 := slot_on e h6 (by decide); replace h7 := slot_on e h7 (by decide); replace h13 := slot_on e h13 (by decide); replace h26 := slot_on e h26 (by decide); replace h27 := slot_on e h27 (by decide); replace h28 := slot_on e h28 (by decide); replace h29 := slot_on e h29 (by decide); replace h81 := slot_on e h81 (by decide); replace h82 := slot_on e h82 (by decide); have h83 := g83; clear g83; clear e
        have Y : (execOp a221.eval o9_18_10).run Try.prog w186 = .ok (.value (.agg #[.int .i64 u.k, .string (str u.nm), .int .i64 u.i, .slice ua u.args.length uc])) w186 := by have qq0 : w186.cell? ⟨b74, 0, none⟩ = some (.int .i64 u.k) := B74.cell 0; have qq1 : w186.cell? ⟨b74, 1, none⟩ = some (.string (str u.nm)) := B74.cell 1; have qq2 : w186.cell? ⟨b74, 2, none⟩ = some (.int .i64 u.i) := B74.cell 2; have qq3 : w186.cell? ⟨b74, 3, none⟩ = some (.slice ua u.args.length uc) := B74.cell 3; unfold o9_18_10; go_simp
        refine st_val g9_18_10 rfl (wanted_is (j := 7) (d := 81) rfl rfl h81 rfl) Y fun a223 e => ?_; clear Y
        have g84 := R.at_ e (by decide); replace R := R.put e; replace h3 := slot_on e h3 (by decide); replace h4 := slot_on e h4 (by decide); replace h6 := slot_on e h6 (by decide); replace h7 := slot_on e h7 (by decide); replace h13 := slot_on e h13 (by decide); replace h26 := slot_on e h26 (by decide); replace h27 := slot_on e h27 (by decide); replace h28 := slot_on e h28 (by decide); replace h29 := slot_on e h29 (by decide); replace h81 := slot_on e h81 (by decide); replace h82 := slot_on e h82 (by decide); replace h83 := slot_on e h83 (by decide); have h84 := g84; clear g84; clear e
        have Y : (execOp a223.eval o9_18_11).run Try.prog w186 = .ok (.enter 19 #[.agg #[.int .i64 t.k, .string (str t.nm), .int .i64 t.i, .slice ta t.args.length tc], .agg #[.int .i64 u.k, .string (str u.nm), .int .i64 u.i, .slice ua u.args.length uc]]) w186 := by unfold o9_18_11; go_simp
        refine st_call g9_18_11 rfl (wanted_is (j := 7) (d := 81) rfl rfl h81 rfl) Y ((same_sx (z := zs) (HT.out.on K1) (HU.out.on K1) HZS.out).mono ?_); clear Y
        rintro e9 w225 ⟨rfl, kk⟩
        replace K1 := keep_onto K1 kk
        replace KR := keep_onto KR kk
        replace K2 := keep_onto K2 kk
        replace B70 := blk_on B70 kk
        replace B74 := blk_on B74 kk
        replace B134 := blk_on B134 kk
        clear kk
        refine ⟨_, rfl, fun a226 e => ?_⟩
        have g85 := R.at_ e (by decide); replace R := R.put e; replace h3 := slot_on e h3 (by decide); replace h4 := slot_on e h4 (by decide); replace h6 := slot_on e h6 (by decide); replace h7 := slot_on e h7 (by decide); replace h13 := slot_on e h13 (by decide); replace h26 := slot_on e h26 (by decide); replace h27 := slot_on e h27 (by decide); replace h28 := slot_on e h28 (by decide); replace h29 := slot_on e h29 (by decide); replace h81 := slot_on e h81 (by decide); replace h82 := slot_on e h82 (by decide); clear h83 h84; have h85 := g85; clear g85; clear e
        cases zs with
        | false =>
          have Y : (execOp a226.eval o9_18_12).run Try.prog w225 = .ok (.value (.bool true)) w225 := by unfold o9_18_12; go_simp
          refine st_val g9_18_12 rfl (wanted_is (j := 7) (d := 81) rfl rfl h81 rfl) Y fun a228 e => ?_; clear Y
          have g86 := R.at_ e (by decide); replace R := R.put e; replace h3 := slot_on e h3 (by decide); replace h4 := slot_on e h4 (by decide); replace h6 := slot_on e h6 (by decide); replace h7 := slot_on e h7 (by decide); replace h13 := slot_on e h13 (by decide); replace h26 := slot_on e h26 (by decide); replace h27 := slot_on e h27 (by decide); replace h28 := slot_on e h28 (by decide); replace h29 := slot_on e h29 (by decide); replace h81 := slot_on e h81 (by decide); clear h82 h85; have h86 := g86; clear g86; clear e
          have Y : (execOp a228.eval o9_18_13).run Try.prog w225 = .ok (.value (.bool true)) w225 := by unfold o9_18_13; go_simp
          refine st_val g9_18_13 rfl (wanted_free rfl) Y fun a230 e => ?_; clear Y
          have g87 := R.at_ e (by decide); replace R := R.put e; replace h3 := slot_on e h3 (by decide); replace h4 := slot_on e h4 (by decide); replace h6 := slot_on e h6 (by decide); replace h7 := slot_on e h7 (by decide); replace h13 := slot_on e h13 (by decide); replace h26 := slot_on e h26 (by decide); replace h27 := slot_on e h27 (by decide); replace h28 := slot_on e h28 (by decide); replace h29 := slot_on e h29 (by decide); clear h81 h86; have h87 := g87; clear g87; clear e
          have Y : (execOp a230.eval o9_18_14).run Try.prog w225 = .ok (.value (.bool true)) w225 := by unfold o9_18_14; go_simp
          refine st_val g9_18_14 rfl (wanted_free rfl) Y fun a232 e => ?_; clear Y
          have g88 := R.at_ e (by decide); replace R := R.put e; replace h3 := slot_on e h3 (by decide); replace h4 := slot_on e h4 (by decide); replace h6 := slot_on e h6 (by decide); replace h7 := slot_on e h7 (by decide); replace h13 := slot_on e h13 (by decide); replace h26 := slot_on e h26 (by decide); replace h27 := slot_on e h27 (by decide); replace h28 := slot_on e h28 (by decide); replace h29 := slot_on e h29 (by decide); clear h87; have h88 := g88; clear g88; clear e
          have Y : (execOp a232.eval o9_18_15).run Try.prog w225 = .ok (.value (.agg #[.int .i64 t.k, .string (str t.nm), .int .i64 t.i, .slice ta t.args.length tc])) w225 := by have qq0 : w225.cell? ⟨b70, 0, none⟩ = some (.int .i64 t.k) := B70.cell 0; have qq1 : w225.cell? ⟨b70, 1, none⟩ = some (.string (str t.nm)) := B70.cell 1; have qq2 : w225.cell? ⟨b70, 2, none⟩ = some (.int .i64 t.i) := B70.cell 2; have qq3 : w225.cell? ⟨b70, 3, none⟩ = some (.slice ta t.args.length tc) := B70.cell 3; unfold o9_18_15; go_simp
          refine st_val g9_18_15 rfl (wanted_is (j := 14) (d := 88) rfl rfl h88 rfl) Y fun a234 e => ?_; clear Y
          have g89 := R.at_ e (by decide); replace R := R.put e; replace h3 := slot_on e h3 (by decide); replace h4 := slot_on e h4 (by decide); replace h6 := slot_on e h6 (by decide); replace h7 := slot_on e h7 (by decide); replace h13 := slot_on e h13 (by decide); replace h26 := slot_on e h26 (by decide); replace h27 := slot_on e h27 (by decide); replace h28 := slot_on e h28 (by decide); replace h29 := slot_on e h29 (by decide); replace h88 := slot_on e h88 (by decide); have h89 := g89; clear g89; clear e
          have Y : (execOp a234.eval o9_18_16).run Try.prog w225 = .ok (.value (.agg #[.int .i64 u.k, .string (str u.nm), .int .i64 u.i, .slice ua u.args.length uc])) w225 := by have qq0 : w225.cell? ⟨b74, 0, none⟩ = some (.int .i64 u.k) := B74.cell 0; have qq1 : w225.cell? ⟨b74, 1, none⟩ = some (.string (str u.nm)) := B74.cell 1; have qq2 : w225.cell? ⟨b74, 2, none⟩ = some (.int .i64 u.i) := B74.cell 2; have qq3 : w225.cell? ⟨b74, 3, none⟩ = some (.slice ua u.args.length uc) := B74.cell 3; unfold o9_18_16; go_simp
          refine st_val g9_18_16 rfl (wanted_is (j := 14) (d := 88) rfl rfl h88 rfl) Y fun a236 e => ?_; clear Y
          have g90 := R.at_ e (by decide); replace R := R.put e; replace h3 := slot_on e h3 (by decide); replace h6 := slot_on e h6 (by decide); replace h7 := slot_on e h7 (by decide); replace h13 := slot_on e h13 (by decide); replace h26 := slot_on e h26 (by decide); replace h27 := slot_on e h27 (by decide); replace h28 := slot_on e h28 (by decide); replace h29 := slot_on e h29 (by decide); replace h88 := slot_on e h88 (by decide); replace h89 := slot_on e h89 (by decide); clear h4; have h90 := g90; clear g90; clear e
          have Y : (execOp a236.eval o9_18_17).run Try.prog w225 = .ok (.enter 21 #[.agg #[.int .i64 t.k, .string (str t.nm), .int .i64 t.i, .slice ta t.args.length tc], .agg #[.int .i64 u.k, .string (str u.nm), .int .i64 u.i, .slice ua u.args.length uc]]) w225 := by unfold o9_18_17; go_simp
          refine st_call g9_18_17 rfl (wanted_is (j := 14) (d := 88) rfl rfl h88 rfl) Y ((variant_sx (z := false) (HT.out.on K1) (HU.out.on K1) HZV.out).mono ?_); clear Y
          rintro e9 w238 ⟨rfl, kk⟩
          replace K1 := keep_onto K1 kk
          replace KR := keep_onto KR kk
          replace K2 := keep_onto K2 kk
          replace B70 := blk_on B70 kk
          replace B74 := blk_on B74 kk
          replace B134 := blk_on B134 kk
          clear kk
          refine ⟨_, rfl, fun a239 e => ?_⟩
          have g91 := R.at_ e (by decide); replace R := R.put e; replace h3 := slot_on e h3 (by decide); replace h6 := slot_on e h6 (by decide); replace h7 := slot_on e h7 (by decide); replace h13 := slot_on e h13 (by decide); replace h26 := slot_on e h26 (by decide); replace h27 := slot_on e h27 (by decide); replace h28 := slot_on e h28 (by decide); replace h29 := slot_on e h29 (by decide); replace h88 := slot_on e h88 (by decide); clear h89 h90; have h91 := g91; clear g91; clear e
          have Y : (execOp a239.eval o9_18_18).run Try.prog w238 = .ok (.value (.bool false)) w238 := by unfold o9_18_18; go_simp
          refine st_val g9_18_18 rfl (wanted_is (j := 14) (d := 88) rfl rfl h88 rfl) Y fun a241 e => ?_; clear Y
          have g92 := R.at_ e (by decide); replace R := R.put e; replace h3 := slot_on e h3 (by decide); replace h6 := slot_on e h6 (by decide); replace h7 := slot_on e h7 (by decide); replace h26 := slot_on e h26 (by decide); replace h27 := slot_on e h27 (by decide); replace h28 := slot_on e h28 (by decide); replace h29 := slot_on e h29 (by decide); replace h88 := slot_on e h88 (by decide); replace h91 := slot_on e h91 (by decide); clear h13; have h92 := g92; clear g92; clear e
          have Y : (execOp a241.eval o9_18_19).run Try.prog w238 = .ok (.value (.bool true)) w238 := by unfold o9_18_19; go_simp
          refine st_val g9_18_19 rfl (wanted_is (j := 14) (d := 88) rfl rfl h88 rfl) Y fun a243 e => ?_; clear Y
          have g93 := R.at_ e (by decide); replace R := R.put e; replace h3 := slot_on e h3 (by decide); replace h6 := slot_on e h6 (by decide); replace h7 := slot_on e h7 (by decide); replace h26 := slot_on e h26 (by decide); replace h27 := slot_on e h27 (by decide); replace h28 := slot_on e h28 (by decide); replace h29 := slot_on e h29 (by decide); replace h88 := slot_on e h88 (by decide); clear h91 h92; have h93 := g93; clear g93; clear e
          have Y : (execOp a243.eval o9_18_20).run Try.prog w238 = .ok (.value (.bool true)) w238 := by unfold o9_18_20; go_simp
          refine st_val g9_18_20 rfl (wanted_free rfl) Y fun a245 e => ?_; clear Y
          have g94 := R.at_ e (by decide); replace R := R.put e; replace h3 := slot_on e h3 (by decide); replace h6 := slot_on e h6 (by decide); replace h7 := slot_on e h7 (by decide); replace h26 := slot_on e h26 (by decide); replace h27 := slot_on e h27 (by decide); replace h28 := slot_on e h28 (by decide); replace h29 := slot_on e h29 (by decide); clear h88 h93; have h94 := g94; clear g94; clear e
          have Y : (execOp a245.eval o9_18_21).run Try.prog w238 = .ok (.value (.bool true)) w238 := by unfold o9_18_21; go_simp
          refine st_val g9_18_21 rfl (wanted_free rfl) Y fun a247 e => ?_; clear Y
          have g6 := R.at_ e (by decide); replace R := R.put e; replace h3 := slot_on e h3 (by decide); replace h7 := slot_on e h7 (by decide); replace h26 := slot_on e h26 (by decide); replace h27 := slot_on e h27 (by decide); replace h28 := slot_on e h28 (by decide); replace h29 := slot_on e h29 (by decide); clear h6 h94; have h6 := g6; clear g6; clear e
          refine st_end ?_
          change (Code.ret).wp _ _ _ _
          refine wp_ret ?_
          change bodyPost Try.prog Try.f9 (fun e w' => e = .returned (.bool true) ∧ Keep (fun g => g < W.heap.size) W w') .ret a247 w238
          refine ret_one rfl R h6 ?_
          exact ⟨rfl, K1⟩
        | true =>
          have Y : (execOp a226.eval o9_18_12).run Try.prog w225 = .ok (.value (.bool true)) w225 := by unfold o9_18_12; go_simp
          refine st_val g9_18_12 rfl (wanted_is (j := 7) (d := 81) rfl rfl h81 rfl) Y fun a249 e => ?_; clear Y
          have g86 := R.at_ e (by decide); replace R := R.put e; replace h3 := slot_on e h3 (by decide); replace h4 := slot_on e h4 (by decide); replace h6 := slot_on e h6 (by decide); replace h7 := slot_on e h7 (by decide); replace h13 := slot_on e h13 (by decide); replace h26 := slot_on e h26 (by decide); replace h27 := slot_on e h27 (by decide); replace h28 := slot_on e h28 (by decide); replace h29 := slot_on e h29 (by decide); replace h81 := slot_on e h81 (by decide); clear h82 h85; have h86 := g86; clear g86; clear e
          have Y : (execOp a249.eval o9_18_13).run Try.prog w225 = .ok (.value (.bool true)) w225 := by unfold o9_18_13; go_simp
          refine st_val g9_18_13 rfl (wanted_free rfl) Y fun a251 e => ?_; clear Y
          have g87 := R.at_ e (by decide); replace R := R.put e; replace h3 := slot_on e h3 (by decide); replace h4 := slot_on e h4 (by decide); replace h6 := slot_on e h6 (by decide); replace h7 := slot_on e h7 (by decide); replace h13 := slot_on e h13 (by decide); replace h26 := slot_on e h26 (by decide); replace h27 := slot_on e h27 (by decide); replace h28 := slot_on e h28 (by decide); replace h29 := slot_on e h29 (by decide); clear h81 h86; have h87 := g87; clear g87; clear e
          have Y : (execOp a251.eval o9_18_14).run Try.prog w225 = .ok (.value (.bool true)) w225 := by unfold o9_18_14; go_simp
          refine st_val g9_18_14 rfl (wanted_free rfl) Y fun a253 e => ?_; clear Y
          have g88 := R.at_ e (by decide); replace R := R.put e; replace h3 := slot_on e h3 (by decide); replace h4 := slot_on e h4 (by decide); replace h6 := slot_on e h6 (by decide); replace h7 := slot_on e h7 (by decide); replace h13 := slot_on e h13 (by decide); replace h26 := slot_on e h26 (by decide); replace h27 := slot_on e h27 (by decide); replace h28 := slot_on e h28 (by decide); replace h29 := slot_on e h29 (by decide); clear h87; have h88 := g88; clear g88; clear e
          have Y : (execOp a253.eval o9_18_15).run Try.prog w225 = .ok (.value (.agg #[.int .i64 t.k, .string (str t.nm), .int .i64 t.i, .slice ta t.args.length tc])) w225 := by have qq0 : w225.cell? ⟨b70, 0, none⟩ = some (.int .i64 t.k) := B70.cell 0; have qq1 : w225.cell? ⟨b70, 1, none⟩ = some (.string (str t.nm)) := B70.cell 1; have qq2 : w225.cell? ⟨b70, 2, none⟩ = some (.int .i64 t.i) := B70.cell 2; have qq3 : w225.cell? ⟨b70, 3, none⟩ = some (.slice ta t.args.length tc) := B70.cell 3; unfold o9_18_15; go_simp
          refine st_val g9_18_15 rfl (wanted_is (j := 14) (d := 88) rfl rfl h88 rfl) Y fun a255 e => ?_; clear Y
          have g89 := R.at_ e (by decide); replace R := R.put e; replace h3 := slot_on e h3 (by decide); replace h4 := slot_on e h4 (by decide); replace h6 := slot_on e h6 (by decide); replace h7 := slot_on e h7 (by decide); replace h13 := slot_on e h13 (by decide); replace h26 := slot_on e h26 (by decide); replace h27 := slot_on e h27 (by decide); replace h28 := slot_on e h28 (by decide); replace h29 := slot_on e h29 (by decide); replace h88 := slot_on e h88 (by decide); have h89 := g89; clear g89; clear e
          have Y : (execOp a255.eval o9_18_16).run Try.prog w225 = .ok (.value (.agg #[.int .i64 u.k, .string (str u.nm), .int .i64 u.i, .slice ua u.args.length uc])) w225 := by have qq0 : w225.cell? ⟨b74, 0, none⟩ = some (.int .i64 u.k) := B74.cell 0; have qq1 : w225.cell? ⟨b74, 1, none⟩ = some (.string (str u.nm)) := B74.cell 1; have qq2 : w225.cell? ⟨b74, 2, none⟩ = some (.int .i64 u.i) := B74.cell 2; have qq3 : w225.cell? ⟨b74, 3, none⟩ = some (.slice ua u.args.length uc) := B74.cell 3; unfold o9_18_16; go_simp
          refine st_val g9_18_16 rfl (wanted_is (j := 14) (d := 88) rfl rfl h88 rfl) Y fun a257 e => ?_; clear Y
          have g90 := R.at_ e (by decide); replace R := R.put e; replace h3 := slot_on e h3 (by decide); replace h6 := slot_on e h6 (by decide); replace h7 := slot_on e h7 (by decide); replace h13 := slot_on e h13 (by decide); replace h26 := slot_on e h26 (by decide); replace h27 := slot_on e h27 (by decide); replace h28 := slot_on e h28 (by decide); replace h29 := slot_on e h29 (by decide); replace h88 := slot_on e h88 (by decide); replace h89 := slot_on e h89 (by decide); clear h4; have h90 := g90; clear g90; clear e
          have Y : (execOp a257.eval o9_18_17).run Try.prog w225 = .ok (.enter 21 #[.agg #[.int .i64 t.k, .string (str t.nm), .int .i64 t.i, .slice ta t.args.length tc], .agg #[.int .i64 u.k, .string (str u.nm), .int .i64 u.i, .slice ua u.args.length uc]]) w225 := by unfold o9_18_17; go_simp
          refine st_call g9_18_17 rfl (wanted_is (j := 14) (d := 88) rfl rfl h88 rfl) Y ((variant_sx (z := true) (HT.out.on K1) (HU.out.on K1) HZV.out).mono ?_); clear Y
          rintro e9 w259 ⟨rfl, kk⟩
          replace K1 := keep_onto K1 kk
          replace KR := keep_onto KR kk
          replace K2 := keep_onto K2 kk
          replace B70 := blk_on B70 kk
          replace B74 := blk_on B74 kk
          replace B134 := blk_on B134 kk
          clear kk
          refine ⟨_, rfl, fun a260 e => ?_⟩
          have g91 := R.at_ e (by decide); replace R := R.put e; replace h3 := slot_on e h3 (by decide); replace h6 := slot_on e h6 (by decide); replace h7 := slot_on e h7 (by decide); replace h13 := slot_on e h13 (by decide); replace h26 := slot_on e h26 (by decide); replace h27 := slot_on e h27 (by decide); replace h28 := slot_on e h28 (by decide); replace h29 := slot_on e h29 (by decide); replace h88 := slot_on e h88 (by decide); clear h89 h90; have h91 := g91; clear g91; clear e
          have Y : (execOp a260.eval o9_18_18).run Try.prog w259 = .ok (.value (.bool true)) w259 := by unfold o9_18_18; go_simp
          refine st_val g9_18_18 rfl (wanted_is (j := 14) (d := 88) rfl rfl h88 rfl) Y fun a262 e => ?_; clear Y
          have g92 := R.at_ e (by decide); replace R := R.put e; replace h3 := slot_on e h3 (by decide); replace h6 := slot_on e h6 (by decide); replace h7 := slot_on e h7 (by decide); replace h26 := slot_on e h26 (by decide); replace h27 := slot_on e h27 (by decide); replace h28 := slot_on e h28 (by decide); replace h29 := slot_on e h29 (by decide); replace h88 := slot_on e h88 (by decide); replace h91 := slot_on e h91 (by decide); clear h13; have h92 := g92; clear g92; clear e
          have Y : (execOp a262.eval o9_18_19).run Try.prog w259 = .ok (.value (.bool true)) w259 := by unfold o9_18_19; go_simp
          refine st_val g9_18_19 rfl (wanted_is (j := 14) (d := 88) rfl rfl h88 rfl) Y fun a264 e => ?_; clear Y
          have g93 := R.at_ e (by decide); replace R := R.put e; replace h3 := slot_on e h3 (by decide); replace h6 := slot_on e h6 (by decide); replace h7 := slot_on e h7 (by decide); replace h26 := slot_on e h26 (by decide); replace h27 := slot_on e h27 (by decide); replace h28 := slot_on e h28 (by decide); replace h29 := slot_on e h29 (by decide); replace h88 := slot_on e h88 (by decide); clear h91 h92; have h93 := g93; clear g93; clear e
          have Y : (execOp a264.eval o9_18_20).run Try.prog w259 = .ok (.value (.bool true)) w259 := by unfold o9_18_20; go_simp
          refine st_val g9_18_20 rfl (wanted_free rfl) Y fun a266 e => ?_; clear Y
          have g94 := R.at_ e (by decide); replace R := R.put e; replace h3 := slot_on e h3 (by decide); replace h6 := slot_on e h6 (by decide); replace h7 := slot_on e h7 (by decide); replace h26 := slot_on e h26 (by decide); replace h27 := slot_on e h27 (by decide); replace h28 := slot_on e h28 (by decide); replace h29 := slot_on e h29 (by decide); clear h88 h93; have h94 := g94; clear g94; clear e
          have Y : (execOp a266.eval o9_18_21).run Try.prog w259 = .ok (.value (.bool true)) w259 := by unfold o9_18_21; go_simp
          refine st_val g9_18_21 rfl (wanted_free rfl) Y fun a268 e => ?_; clear Y
          have g6 := R.at_ e (by decide); replace R := R.put e; replace h3 := slot_on e h3 (by decide); replace h7 := slot_on e h7 (by decide); replace h26 := slot_on e h26 (by decide); replace h27 := slot_on e h27 (by decide); replace h28 := slot_on e h28 (by decide); replace h29 := slot_on e h29 (by decide); clear h6 h94; have h6 := g6; clear g6; clear e
          refine st_end ?_
          change (Code.ret).wp _ _ _ _
          refine wp_ret ?_
          change bodyPost Try.prog Try.f9 (fun e w' => e = .returned (.bool true) ∧ Keep (fun g => g < W.heap.size) W w') .ret a268 w259
          refine ret_one rfl R h6 ?_
          exact ⟨rfl, K1⟩
      | true =>
        have fb177 := hb177; clear hb177
        simp only [decide_eq_true_eq, decide_eq_false_iff_not, Bool.not_eq_true', Bool.not_eq_false', Bool.not_eq_eq_eq_not, Bool.not_true, Bool.not_false] at fb177
        refine wp_cond_true (x := c9_55) (y := Code.skip) (eval_slot h66) ?_
        refine wp_seq (x := c9_56) (y := Code.ret) ?_
        change (Code.region 16 O9_16 false).wp _ _ _ _
        refine reg_in (l := [0]) rfl ?_
        have Y : (execOp a180.eval o9_16_0).run Try.prog w172 = .ok (.value (.bool true)) w172 := by unfold o9_16_0; go_simp
        refine st_val g9_16_0 rfl (wanted_free rfl) Y fun a270 e => ?_; clear Y
        have g6 := R.at_ e (by decide); replace R := R.put e; replace h3 := slot_on e h3 (by decide); replace h4 := slot_on e h4 (by decide); replace h7 := slot_on e h7 (by decide); replace h26 := slot_on e h26 (by decide); replace h27 := slot_on e h27 (by decide); replace h28 := slot_on e h28 (by decide); replace h29 := slot_on e h29 (by decide); clear h6 h66; have h6 := g6; clear g6; clear e
        refine st_end ?_
        change (Code.ret).wp _ _ _ _
        refine wp_ret ?_
        change bodyPost Try.prog Try.f9 (fun e w' => e = .returned (.bool true) ∧ Keep (fun g => g < W.heap.size) W w') .ret a270 w172
        refine ret_one rfl R h6 ?_
        exact ⟨rfl, K1⟩
    | true =>
      have fb165 := hb165; clear hb165
      simp only [decide_eq_true_eq, decide_eq_false_iff_not, Bool.not_eq_true', Bool.not_eq_false', Bool.not_eq_eq_eq_not, Bool.not_true, Bool.not_false] at fb165
      refine st_not g9_15_5 rfl (wanted_is (j := 4) (d := 61) rfl rfl h61 rfl) fun a272 e => ?_
      have g62 := R.at_ e (by decide); replace R := R.put e; replace h3 := slot_on e h3 (by decide); replace h4 := slot_on e h4 (by decide); replace h6 := slot_on e h6 (by decide); replace h7 := slot_on e h7 (by decide); replace h26 := slot_on e h26 (by decide); replace h27 := slot_on e h27 (by decide); replace h28 := slot_on e h28 (by decide); replace h29 := slot_on e h29 (by decide); replace h61 := slot_on e h61 (by decide); have h62 := g62; clear g62; clear e
      refine st_not g9_15_6 rfl (wanted_is (j := 4) (d := 61) rfl rfl h61 rfl) fun a274 e => ?_
      have g63 := R.at_ e (by decide); replace R := R.put e; replace h3 := slot_on e h3 (by decide); replace h4 := slot_on e h4 (by decide); replace h6 := slot_on e h6 (by decide); replace h7 := slot_on e h7 (by decide); replace h26 := slot_on e h26 (by decide); replace h27 := slot_on e h27 (by decide); replace h28 := slot_on e h28 (by decide); replace h29 := slot_on e h29 (by decide); replace h61 := slot_on e h61 (by decide); clear h62; have h63 := g63; clear g63; clear e
      refine st_not g9_15_7 rfl (wanted_is (j := 4) (d := 61) rfl rfl h61 rfl) fun a276 e => ?_
      have g64 := R.at_ e (by decide); replace R := R.put e; replace h3 := slot_on e h3 (by decide); replace h4 := slot_on e h4 (by decide); replace h6 := slot_on e h6 (by decide); replace h7 := slot_on e h7 (by decide); replace h26 := slot_on e h26 (by decide); replace h27 := slot_on e h27 (by decide); replace h28 := slot_on e h28 (by decide); replace h29 := slot_on e h29 (by decide); replace h61 := slot_on e h61 (by decide); clear h63; have h64 := g64; clear g64; clear e
      refine st_not g9_15_8 rfl (wanted_is (j := 4) (d := 61) rfl rfl h61 rfl) fun a278 e => ?_
      have g65 := R.at_ e (by decide); replace R := R.put e; replace h3 := slot_on e h3 (by decide); replace h4 := slot_on e h4 (by decide); replace h6 := slot_on e h6 (by decide); replace h7 := slot_on e h7 (by decide); replace h26 := slot_on e h26 (by decide); replace h27 := slot_on e h27 (by decide); replace h28 := slot_on e h28 (by decide); replace h29 := slot_on e h29 (by decide); replace h61 := slot_on e h61 (by decide); clear h64; have h65 := g65; clear g65; clear e
      have Y : (execOp a278.eval o9_15_9).run Try.prog w160 = .ok (.value (.bool true)) w160 := by unfold o9_15_9; go_simp
      refine st_val g9_15_9 rfl (wanted_free rfl) Y fun a280 e => ?_; clear Y
      have g66 := R.at_ e (by decide); replace R := R.put e; replace h3 := slot_on e h3 (by decide); replace h4 := slot_on e h4 (by decide); replace h6 := slot_on e h6 (by decide); replace h7 := slot_on e h7 (by decide); replace h26 := slot_on e h26 (by decide); replace h27 := slot_on e h27 (by decide); replace h28 := slot_on e h28 (by decide); replace h29 := slot_on e h29 (by decide); clear h61 h65; have h66 := g66; clear g66; clear e
      refine st_end ?_
      change (c9_54).wp _ _ _ _
      refine wp_cond_true (x := c9_55) (y := Code.skip) (eval_slot h66) ?_
      refine wp_seq (x := c9_56) (y := Code.ret) ?_
      change (Code.region 16 O9_16 false).wp _ _ _ _
      refine reg_in (l := [0]) rfl ?_
      have Y : (execOp a280.eval o9_16_0).run Try.prog w160 = .ok (.value (.bool true)) w160 := by unfold o9_16_0; go_simp
      refine st_val g9_16_0 rfl (wanted_free rfl) Y fun a282 e => ?_; clear Y
      have g6 := R.at_ e (by decide); replace R := R.put e; replace h3 := slot_on e h3 (by decide); replace h4 := slot_on e h4 (by decide); replace h7 := slot_on e h7 (by decide); replace h26 := slot_on e h26 (by decide); replace h27 := slot_on e h27 (by decide); replace h28 := slot_on e h28 (by decide); replace h29 := slot_on e h29 (by decide); clear h6 h66; have h6 := g6; clear g6; clear e
      refine st_end ?_
      change (Code.ret).wp _ _ _ _
      refine wp_ret ?_
      change bodyPost Try.prog Try.f9 (fun e w' => e = .returned (.bool true) ∧ Keep (fun g => g < W.heap.size) W w') .ret a282 w160
      refine ret_one rfl R h6 ?_
      exact ⟨rfl, K1⟩
  | true =>
    have fb118 := hb118; clear hb118
    simp only [decide_eq_true_eq, decide_eq_false_iff_not, Bool.not_eq_true', Bool.not_eq_false', Bool.not_eq_eq_eq_not, Bool.not_true, Bool.not_false] at fb118
    refine wp_cond_true (x := Code.skip) (y := c9_30) (eval_slot h29) ?_
    refine wp_skip ?_
    change (c9_31).wp _ _ _ _
    refine wp_seq (x := c9_32) (y := c9_40) ?_
    refine wp_block (id := 1) (c := c9_33) ?_
    refine wp_seq (x := c9_34) (y := c9_35) ?_
    change (Code.region 8 O9_8 false).wp _ _ _ _
    refine reg_in (l := [0, 1, 2, 3]) rfl ?_
    obtain ⟨bA, oA, hsA, -⟩ := bsl_addr (bsl_on HS.out K1) (show j < bs.length by omega)
    have hltA : (j : Int) < (bs.length : Int) := by omega
    have Y : (execOp a119.eval o9_8_0).run Try.prog w116 = .ok (.value (.pointer (some ⟨bA, oA + j * 5, none⟩))) w116 := by unfold o9_8_0; go_simp
    refine st_val g9_8_0 rfl (wanted_free rfl) Y fun a284 e => ?_; clear Y
    have g30 := R.at_ e (by decide); replace R := R.put e; replace h3 := slot_on e h3 (by decide); replace h4 := slot_on e h4 (by decide); replace h6 := slot_on e h6 (by decide); replace h7 := slot_on e h7 (by decide); replace h26 := slot_on e h26 (by decide); replace h27 := slot_on e h27 (by decide); replace h28 := slot_on e h28 (by decide); replace h29 := slot_on e h29 (by decide); have h30 := g30; clear g30; clear e
    obtain ⟨q, hq⟩ : ∃ q, bs[j]? = some q := ⟨_, List.getElem?_eq_getElem (by omega)⟩
    have Y : (execOp a284.eval o9_8_1).run Try.prog w116 = .ok (.value (.agg #[.int .i64 q.1, .int .i64 q.2.1.k, .string (str q.2.1.nm), .int .i64 q.2.1.i, .slice q.2.2.1 q.2.1.args.length q.2.2.2])) w116 := by obtain ⟨⟨c0, c1, c2, c3, c4⟩, -⟩ := bsl_at (bsl_on HS.out K1) hsA hq; unfold o9_8_1; go_simp
    refine st_val g9_8_1 rfl (wanted_free rfl) Y fun a286 e => ?_; clear Y
    have g31 := R.at_ e (by decide); replace R := R.put e; replace h3 := slot_on e h3 (by decide); replace h4 := slot_on e h4 (by decide); replace h6 := slot_on e h6 (by decide); replace h7 := slot_on e h7 (by decide); replace h26 := slot_on e h26 (by decide); replace h27 := slot_on e h27 (by decide); replace h28 := slot_on e h28 (by decide); replace h29 := slot_on e h29 (by decide); replace h30 := slot_on e h30 (by decide); have h31 := g31; clear g31; clear e
    have MK1 := K1
    have MKR := KR
    have Y : (execOp a286.eval o9_8_2).run Try.prog w116 = .ok (.value (.pointer (some ⟨w116.heap.size, 0, none⟩))) (w116.alloc (.cells #[.int .i64 0, .int .i64 0, .string (⟨#[]⟩), .int .i64 0, .slice none 0 0] 41)) := by unfold o9_8_2; go_simp
    have B288 := Blk.new w116 41 #[.int .i64 0, .int .i64 0, .string (⟨#[]⟩), .int .i64 0, .slice none 0 0]
    replace K1 := K1.alloc (.cells #[.int .i64 0, .int .i64 0, .string (⟨#[]⟩), .int .i64 0, .slice none 0 0] 41)
    replace KR := KR.alloc (.cells #[.int .i64 0, .int .i64 0, .string (⟨#[]⟩), .int .i64 0, .slice none 0 0] 41)
    have Nb70_b288 := Nat.ne_of_lt B70.lt; replace B70 := B70.alloc (.cells #[.int .i64 0, .int .i64 0, .string (⟨#[]⟩), .int .i64 0, .slice none 0 0] 41)
    have Nb74_b288 := Nat.ne_of_lt B74.lt; replace B74 := B74.alloc (.cells #[.int .i64 0, .int .i64 0, .string (⟨#[]⟩), .int .i64 0, .slice none 0 0] 41)
    obtain ⟨w289, hw289⟩ : ∃ x, x = w116.alloc (.cells #[.int .i64 0, .int .i64 0, .string (⟨#[]⟩), .int .i64 0, .slice none 0 0] 41) := ⟨_, rfl⟩
    rw [← hw289] at Y B288 K1 KR B70 B74
    obtain ⟨b288, hb288⟩ : ∃ x, x = w116.heap.size := ⟨_, rfl⟩
    rw [← hb288] at Y B288 Nb70_b288 Nb74_b288
    have LK1_b288 : W.heap.size ≤ b288 := by rw [hb288]; first | exact Nat.le_refl _ | exact MK1.size
    have LKR_b288 : wr.heap.size ≤ b288 := by rw [hb288]; first | exact Nat.le_refl _ | exact MKR.size
    clear hw289 hb288 MK1 MKR
    refine st_val g9_8_2 rfl (wanted_free rfl) Y fun a290 e => ?_; clear Y
    have g9 := R.at_ e (by decide); replace R := R.put e; replace h3 := slot_on e h3 (by decide); replace h4 := slot_on e h4 (by decide); replace h6 := slot_on e h6 (by decide); replace h7 := slot_on e h7 (by decide); replace h26 := slot_on e h26 (by decide); replace h27 := slot_on e h27 (by decide); replace h28 := slot_on e h28 (by decide); replace h29 := slot_on e h29 (by decide); replace h30 := slot_on e h30 (by decide); replace h31 := slot_on e h31 (by decide); have h9 := g9; clear g9; clear e
    have Y : (execOp a290.eval o9_8_3).run Try.prog w289 = .ok .skip (((((w289.setCell ⟨b288, 0, none⟩ (.int .i64 q.1)).setCell ⟨b288, 1, none⟩ (.int .i64 q.2.1.k)).setCell ⟨b288, 2, none⟩ (.string (str q.2.1.nm))).setCell ⟨b288, 3, none⟩ (.int .i64 q.2.1.i)).setCell ⟨b288, 4, none⟩ (.slice q.2.2.1 q.2.1.args.length q.2.2.2)) := by have qq0 : w289.cell? ⟨b288, 0, none⟩ = some (.int .i64 0) := B288.cell 0; have qq1 : w289.cell? ⟨b288, 1, none⟩ = some (.int .i64 0) := B288.cell 1; have qq2 : w289.cell? ⟨b288, 2, none⟩ = some (.string (⟨#[]⟩)) := B288.cell 2; have qq3 : w289.cell? ⟨b288, 3, none⟩ = some (.int .i64 0) := B288.cell 3; have qq4 : w289.cell? ⟨b288, 4, none⟩ = some (.slice none 0 0) := B288.cell 4; have z0 := B288.frozen 0; have z1 := B288.frozen 1; have z2 := B288.frozen 2; have z3 := B288.frozen 3; have z4 := B288.frozen 4; unfold o9_8_3; go_simp
    replace K1 := (((((K1.setCell (p := ⟨b288, 0, none⟩) (Nat.not_lt.2 LK1_b288) (.int .i64 q.1)).setCell (p := ⟨b288, 1, none⟩) (Nat.not_lt.2 LK1_b288) (.int .i64 q.2.1.k)).setCell (p := ⟨b288, 2, none⟩) (Nat.not_lt.2 LK1_b288) (.string (str q.2.1.nm))).setCell (p := ⟨b288, 3, none⟩) (Nat.not_lt.2 LK1_b288) (.int .i64 q.2.1.i)).setCell (p := ⟨b288, 4, none⟩) (Nat.not_lt.2 LK1_b288) (.slice q.2.2.1 q.2.1.args.length q.2.2.2))
    replace KR := (((((KR.setCell (p := ⟨b288, 0, none⟩) (Nat.not_lt.2 LKR_b288) (.int .i64 q.1)).setCell (p := ⟨b288, 1, none⟩) (Nat.not_lt.2 LKR_b288) (.int .i64 q.2.1.k)).setCell (p := ⟨b288, 2, none⟩) (Nat.not_lt.2 LKR_b288) (.string (str q.2.1.nm))).setCell (p := ⟨b288, 3, none⟩) (Nat.not_lt.2 LKR_b288) (.int .i64 q.2.1.i)).setCell (p := ⟨b288, 4, none⟩) (Nat.not_lt.2 LKR_b288) (.slice q.2.2.1 q.2.1.args.length q.2.2.2))
    replace B70 := (((((B70.far (p := ⟨b288, 0, none⟩) Nb70_b288 (.int .i64 q.1)).far (p := ⟨b288, 1, none⟩) Nb70_b288 (.int .i64 q.2.1.k)).far (p := ⟨b288, 2, none⟩) Nb70_b288 (.string (str q.2.1.nm))).far (p := ⟨b288, 3, none⟩) Nb70_b288 (.int .i64 q.2.1.i)).far (p := ⟨b288, 4, none⟩) Nb70_b288 (.slice q.2.2.1 q.2.1.args.length q.2.2.2))
    replace B74 := (((((B74.far (p := ⟨b288, 0, none⟩) Nb74_b288 (.int .i64 q.1)).far (p := ⟨b288, 1, none⟩) Nb74_b288 (.int .i64 q.2.1.k)).far (p := ⟨b288, 2, none⟩) Nb74_b288 (.string (str q.2.1.nm))).far (p := ⟨b288, 3, none⟩) Nb74_b288 (.int .i64 q.2.1.i)).far (p := ⟨b288, 4, none⟩) Nb74_b288 (.slice q.2.2.1 q.2.1.args.length q.2.2.2))
    replace B288 : Blk (((((w289.setCell ⟨b288, 0, none⟩ (.int .i64 q.1)).setCell ⟨b288, 1, none⟩ (.int .i64 q.2.1.k)).setCell ⟨b288, 2, none⟩ (.string (str q.2.1.nm))).setCell ⟨b288, 3, none⟩ (.int .i64 q.2.1.i)).setCell ⟨b288, 4, none⟩ (.slice q.2.2.1 q.2.1.args.length q.2.2.2)) b288 41 #[.int .i64 q.1, .int .i64 q.2.1.k, .string (str q.2.1.nm), .int .i64 q.2.1.i, .slice q.2.2.1 q.2.1.args.length q.2.2.2] := (((((B288.set_ 0 (.int .i64 q.1)).set_ 1 (.int .i64 q.2.1.k)).set_ 2 (.string (str q.2.1.nm))).set_ 3 (.int .i64 q.2.1.i)).set_ 4 (.slice q.2.2.1 q.2.1.args.length q.2.2.2))
    generalize (((((w289.setCell ⟨b288, 0, none⟩ (.int .i64 q.1)).setCell ⟨b288, 1, none⟩ (.int .i64 q.2.1.k)).setCell ⟨b288, 2, none⟩ (.string (str q.2.1.nm))).setCell ⟨b288, 3, none⟩ (.int .i64 q.2.1.i)).setCell ⟨b288, 4, none⟩ (.slice q.2.2.1 q.2.1.args.length q.2.2.2)) = w292 at Y K1 KR B70 B74 B288
    refine st_skip g9_8_3 rfl (wanted_free rfl) Y ?_; clear Y
    refine st_end ?_
    change (c9_35).wp _ _ _ _
    refine wp_seq (x := c9_36) (y := c9_37) ?_
    change (Code.region 9 O9_9 true).wp _ _ _ _
    have D295 := B70
    have D296 := B74
    have D297 := B288
    have K293 := (Keep.refl (fun g => g < w292.heap.size) w292).drew
    have EK1 := K1
    have EKR := KR
    refine dr_in (S := (fun W => Keep (fun g => g < w292.heap.size) w292 W)) (n := 6) (l := #[false, false, false, false, false, false]) (by kernel_rfl) K293 rfl rfl ?_
    replace K1 := K1.drew
    replace KR := KR.drew
    replace B70 := B70.drew
    replace B74 := B74.drew
    replace B288 := B288.drew
    generalize w292.drew = w294 at K293 K1 KR B70 B74 B288 ⊢
    have Y : ∀ W, Keep (fun g => g < w292.heap.size) w292 W → (execOp a290.eval o9_9_0).run Try.prog W = .ok (.value (.agg #[.int .i64 t.k, .string (str t.nm), .int .i64 t.i, .slice ta t.args.length tc])) W := by intro W7 hS; have D := D295.keep hS D295.lt; have qq0 : W7.cell? ⟨b70, 0, none⟩ = some (.int .i64 t.k) := D.cell 0; have qq1 : W7.cell? ⟨b70, 1, none⟩ = some (.string (str t.nm)) := D.cell 1; have qq2 : W7.cell? ⟨b70, 2, none⟩ = some (.int .i64 t.i) := D.cell 2; have qq3 : W7.cell? ⟨b70, 3, none⟩ = some (.slice ta t.args.length tc) := D.cell 3; unfold o9_9_0; go_simp
    refine dr_take (i := 0) (fuel := 5) (l' := #[true, false, false, false, false, false]) g9_9_0 rfl ns9_9 (by kernel_rfl) (by kernel_rfl) rfl (wanted_free rfl) K293 Y fun a298 e => ?_; clear Y
    have g32 := R.at_ e (by decide); replace R := R.put e; replace h3 := slot_on e h3 (by decide); replace h4 := slot_on e h4 (by decide); replace h6 := slot_on e h6 (by decide); replace h7 := slot_on e h7 (by decide); replace h9 := slot_on e h9 (by decide); replace h26 := slot_on e h26 (by decide); replace h27 := slot_on e h27 (by decide); replace h28 := slot_on e h28 (by decide); replace h29 := slot_on e h29 (by decide); replace h30 := slot_on e h30 (by decide); replace h31 := slot_on e h31 (by decide); have h32 := g32; clear g32; clear e
    have Y : ∀ W, Keep (fun g => g < w292.heap.size) w292 W → (execOp a298.eval o9_9_2).run Try.prog W = .ok (.value (.pointer (some ⟨b288, 0, none⟩))) W := by intro W7 hS; unfold o9_9_2; go_simp
    refine dr_take (i := 2) (fuel := 4) (l' := #[true, false, true, false, false, false]) g9_9_2 rfl ns9_9 (by kernel_rfl) (by kernel_rfl) rfl (wanted_free rfl) K293 Y fun a300 e => ?_; clear Y
    have g34 := R.at_ e (by decide); replace R := R.put e; replace h3 := slot_on e h3 (by decide); replace h4 := slot_on e h4 (by decide); replace h6 := slot_on e h6 (by decide); replace h7 := slot_on e h7 (by decide); replace h9 := slot_on e h9 (by decide); replace h26 := slot_on e h26 (by decide); replace h27 := slot_on e h27 (by decide); replace h28 := slot_on e h28 (by decide); replace h29 := slot_on e h29 (by decide); replace h30 := slot_on e h30 (by decide); replace h31 := slot_on e h31 (by decide); replace h32 := slot_on e h32 (by decide); have h34 := g34; clear g34; clear e
    have Y : ∀ W, Keep (fun g => g < w292.heap.size) w292 W → (execOp a300.eval o9_9_3).run Try.prog W = .ok (.value (.int .i64 q.1)) W := by intro W7 hS; have D := D297.keep hS D297.lt; have qq0 : W7.cell? ⟨b288, 0, none⟩ = some (.int .i64 q.1) := D.cell 0; have qq1 : W7.cell? ⟨b288, 1, none⟩ = some (.int .i64 q.2.1.k) := D.cell 1; have qq2 : W7.cell? ⟨b288, 2, none⟩ = some (.string (str q.2.1.nm)) := D.cell 2; have qq3 : W7.cell? ⟨b288, 3, none⟩ = some (.int .i64 q.2.1.i) := D.cell 3; have qq4 : W7.cell? ⟨b288, 4, none⟩ = some (.slice q.2.2.1 q.2.1.args.length q.2.2.2) := D.cell 4; unfold o9_9_3; go_simp
    refine dr_take (i := 3) (fuel := 3) (l' := #[true, false, true, true, false, false]) g9_9_3 rfl ns9_9 (by kernel_rfl) (by kernel_rfl) rfl (wanted_free rfl) K293 Y fun a302 e => ?_; clear Y
    have g35 := R.at_ e (by decide); replace R := R.put e; replace h3 := slot_on e h3 (by decide); replace h4 := slot_on e h4 (by decide); replace h6 := slot_on e h6 (by decide); replace h7 := slot_on e h7 (by decide); replace h9 := slot_on e h9 (by decide); replace h26 := slot_on e h26 (by decide); replace h27 := slot_on e h27 (by decide); replace h28 := slot_on e h28 (by decide); replace h29 := slot_on e h29 (by decide); replace h30 := slot_on e h30 (by decide); replace h31 := slot_on e h31 (by decide); replace h32 := slot_on e h32 (by decide); replace h34 := slot_on e h34 (by decide); have h35 := g35; clear g35; clear e
    refine dr_only (i := 1) (fuel := 2) (by kernel_rfl) ?_
    have Y : (execOp a302.eval o9_9_1).run Try.prog w294 = .ok (.enter 18 #[.agg #[.int .i64 t.k, .string (str t.nm), .int .i64 t.i, .slice ta t.args.length tc]]) w294 := by unfold o9_9_1; go_simp
    refine dr_call (l' := #[true, true, true, true, false, false]) g9_9_1 rfl rfl (wanted_free rfl) Y ((vars_sx (HT.out.on K1) (l := vaV t) (L := (vaV t).length) rfl rfl).mono ?_); clear Y
    rintro e9 w304 ⟨gb, ub, uc9, rfl, hvr, kk⟩
    replace K1 := keep_onto K1 kk
    replace KR := keep_onto KR kk
    replace K293 := keep_onto K293 kk
    replace B70 := blk_on B70 kk
    replace B74 := blk_on B74 kk
    replace B288 := blk_on B288 kk
    clear kk
    refine ⟨_, rfl, K293, fun a305 e => ?_⟩
    have g33 := R.at_ e (by decide); replace R := R.put e; replace h3 := slot_on e h3 (by decide); replace h4 := slot_on e h4 (by decide); replace h6 := slot_on e h6 (by decide); replace h7 := slot_on e h7 (by decide); replace h9 := slot_on e h9 (by decide); replace h26 := slot_on e h26 (by decide); replace h27 := slot_on e h27 (by decide); replace h28 := slot_on e h28 (by decide); replace h29 := slot_on e h29 (by decide); replace h30 := slot_on e h30 (by decide); replace h31 := slot_on e h31 (by decide); replace h32 := slot_on e h32 (by decide); replace h34 := slot_on e h34 (by decide); replace h35 := slot_on e h35 (by decide); have h33 := g33; clear g33; clear e
    refine dr_only (i := 4) (fuel := 1) (by kernel_rfl) ?_
    have Y : (execOp a305.eval o9_9_4).run Try.prog w304 = .ok (.enter 31 #[.slice ub ((vaV t).length) uc9, .int .i64 q.1]) w304 := by unfold o9_9_4; go_simp
    obtain ⟨bm, hbm⟩ : ∃ z, among (vaV t) q.1 = z := ⟨_, rfl⟩
    have hlg := haslong_sx (w := w304) (uc := uc9) (z := q.1) (fun h => ⟨(hvr.1 h).1, (hvr.1 h).2.2⟩) hvr.2 (Nat.le_trans HVL.out (by decide))
    rw [hbm] at hlg; have HBM := Lib.hid hbm; clear hbm hvr
    refine dr_call (l' := #[true, true, true, true, true, false]) g9_9_4 rfl rfl (wanted_free rfl) Y ((hlg).mono ?_); clear Y
    rintro e9 w307 ⟨rfl, kk⟩
    replace K1 := keep_onto K1 kk
    replace KR := keep_onto KR kk
    replace K293 := keep_onto K293 kk
    replace B70 := blk_on B70 kk
    replace B74 := blk_on B74 kk
    replace B288 := blk_on B288 kk
    clear kk
    clear hlg
    refine ⟨_, rfl, K293, fun a308 e => ?_⟩
    have g36 := R.at_ e (by decide); replace R := R.put e; replace h3 := slot_on e h3 (by decide); replace h4 := slot_on e h4 (by decide); replace h6 := slot_on e h6 (by decide); replace h7 := slot_on e h7 (by decide); replace h9 := slot_on e h9 (by decide); replace h26 := slot_on e h26 (by decide); replace h27 := slot_on e h27 (by decide); replace h28 := slot_on e h28 (by decide); replace h29 := slot_on e h29 (by decide); replace h30 := slot_on e h30 (by decide); replace h31 := slot_on e h31 (by decide); replace h32 := slot_on e h32 (by decide); replace h33 := slot_on e h33 (by decide); replace h34 := slot_on e h34 (by decide); replace h35 := slot_on e h35 (by decide); have h36 := g36; clear g36; clear e
    cases bm with
    | false =>
      have Y : ∀ W, Keep (fun g => g < w292.heap.size) w292 W → (execOp a308.eval o9_9_5).run Try.prog W = .ok (.value (.bool true)) W := by intro W7 hS; unfold o9_9_5; go_simp
      refine dr_take (i := 5) (fuel := 0) (l' := #[true, true, true, true, true, true]) g9_9_5 rfl ns9_9 (by kernel_rfl) (by kernel_rfl) rfl (wanted_free rfl) K293 Y fun a310 e => ?_; clear Y
      have g37 := R.at_ e (by decide); replace R := R.put e; replace h3 := slot_on e h3 (by decide); replace h4 := slot_on e h4 (by decide); replace h6 := slot_on e h6 (by decide); replace h7 := slot_on e h7 (by decide); replace h9 := slot_on e h9 (by decide); replace h26 := slot_on e h26 (by decide); replace h27 := slot_on e h27 (by decide); replace h28 := slot_on e h28 (by decide); replace h29 := slot_on e h29 (by decide); replace h30 := slot_on e h30 (by decide); replace h31 := slot_on e h31 (by decide); replace h32 := slot_on e h32 (by decide); replace h33 := slot_on e h33 (by decide); replace h34 := slot_on e h34 (by decide); replace h35 := slot_on e h35 (by decide); replace h36 := slot_on e h36 (by decide); have h37 := g37; clear g37; clear e
      refine dr_end (by kernel_rfl) ?_
      clear K293 EK1 EKR D295 D296 D297
      change (c9_37).wp _ _ _ _
      refine wp_cond_true (x := c9_38) (y := Code.skip) (eval_slot h37) ?_
      change (Code.region 10 O9_10 false).wp _ _ _ _
      refine reg_in (l := [0, 1, 2, 3, 4]) rfl ?_
      have Y : (execOp a310.eval o9_10_0).run Try.prog w307 = .ok (.value (vm)) w307 := by unfold o9_10_0; go_simp
      refine st_val g9_10_0 rfl (wanted_free rfl) Y fun a312 e => ?_; clear Y
      have g38 := R.at_ e (by decide); replace R := R.put e; replace h3 := slot_on e h3 (by decide); replace h4 := slot_on e h4 (by decide); replace h6 := slot_on e h6 (by decide); replace h7 := slot_on e h7 (by decide); replace h9 := slot_on e h9 (by decide); replace h26 := slot_on e h26 (by decide); replace h27 := slot_on e h27 (by decide); replace h28 := slot_on e h28 (by decide); replace h29 := slot_on e h29 (by decide); replace h30 := slot_on e h30 (by decide); replace h31 := slot_on e h31 (by decide); replace h32 := slot_on e h32 (by decide); replace h33 := slot_on e h33 (by decide); replace h34 := slot_on e h34 (by decide); replace h35 := slot_on e h35 (by decide); replace h36 := slot_on e h36 (by decide); replace h37 := slot_on e h37 (by decide); have h38 := g38; clear g38; clear e
      have Y : (execOp a312.eval o9_10_1).run Try.prog w307 = .ok (.value (.agg #[.int .i64 q.1, .int .i64 q.2.1.k, .string (str q.2.1.nm), .int .i64 q.2.1.i, .slice q.2.2.1 q.2.1.args.length q.2.2.2])) w307 := by have qq0 : w307.cell? ⟨b288, 0, none⟩ = some (.int .i64 q.1) := B288.cell 0; have qq1 : w307.cell? ⟨b288, 1, none⟩ = some (.int .i64 q.2.1.k) := B288.cell 1; have qq2 : w307.cell? ⟨b288, 2, none⟩ = some (.string (str q.2.1.nm)) := B288.cell 2; have qq3 : w307.cell? ⟨b288, 3, none⟩ = some (.int .i64 q.2.1.i) := B288.cell 3; have qq4 : w307.cell? ⟨b288, 4, none⟩ = some (.slice q.2.2.1 q.2.1.args.length q.2.2.2) := B288.cell 4; unfold o9_10_1; go_simp
      refine st_val g9_10_1 rfl (wanted_free rfl) Y fun a314 e => ?_; clear Y
      have g39 := R.at_ e (by decide); replace R := R.put e; replace h3 := slot_on e h3 (by decide); replace h4 := slot_on e h4 (by decide); replace h6 := slot_on e h6 (by decide); replace h7 := slot_on e h7 (by decide); replace h9 := slot_on e h9 (by decide); replace h26 := slot_on e h26 (by decide); replace h27 := slot_on e h27 (by decide); replace h28 := slot_on e h28 (by decide); replace h29 := slot_on e h29 (by decide); replace h30 := slot_on e h30 (by decide); replace h31 := slot_on e h31 (by decide); replace h32 := slot_on e h32 (by decide); replace h33 := slot_on e h33 (by decide); replace h34 := slot_on e h34 (by decide); replace h35 := slot_on e h35 (by decide); replace h36 := slot_on e h36 (by decide); replace h37 := slot_on e h37 (by decide); replace h38 := slot_on e h38 (by decide); have h39 := g39; clear g39; clear e
      have MK1 := K1
      have MKR := KR
      have Y : (execOp a314.eval o9_10_2).run Try.prog w307 = .ok (.value (.slice (some ⟨w307.heap.size, 0, none⟩) 1 1)) (w307.alloc (.cells #[.int .i64 q.1, .int .i64 q.2.1.k, .string (str q.2.1.nm), .int .i64 q.2.1.i, .slice q.2.2.1 q.2.1.args.length q.2.2.2] 41)) := by unfold o9_10_2; go_simp
      have B316 := Blk.new w307 41 #[.int .i64 q.1, .int .i64 q.2.1.k, .string (str q.2.1.nm), .int .i64 q.2.1.i, .slice q.2.2.1 q.2.1.args.length q.2.2.2]
      replace K1 := K1.alloc (.cells #[.int .i64 q.1, .int .i64 q.2.1.k, .string (str q.2.1.nm), .int .i64 q.2.1.i, .slice q.2.2.1 q.2.1.args.length q.2.2.2] 41)
      replace KR := KR.alloc (.cells #[.int .i64 q.1, .int .i64 q.2.1.k, .string (str q.2.1.nm), .int .i64 q.2.1.i, .slice q.2.2.1 q.2.1.args.length q.2.2.2] 41)
      have Nb70_b316 := Nat.ne_of_lt B70.lt; replace B70 := B70.alloc (.cells #[.int .i64 q.1, .int .i64 q.2.1.k, .string (str q.2.1.nm), .int .i64 q.2.1.i, .slice q.2.2.1 q.2.1.args.length q.2.2.2] 41)
      have Nb74_b316 := Nat.ne_of_lt B74.lt; replace B74 := B74.alloc (.cells #[.int .i64 q.1, .int .i64 q.2.1.k, .string (str q.2.1.nm), .int .i64 q.2.1.i, .slice q.2.2.1 q.2.1.args.length q.2.2.2] 41)
      have Nb288_b316 := Nat.ne_of_lt B288.lt; replace B288 := B288.alloc (.cells #[.int .i64 q.1, .int .i64 q.2.1.k, .string (str q.2.1.nm), .int .i64 q.2.1.i, .slice q.2.2.1 q.2.1.args.length q.2.2.2] 41)
      obtain ⟨w317, hw317⟩ : ∃ x, x = w307.alloc (.cells #[.int .i64 q.1, .int .i64 q.2.1.k, .string (str q.2.1.nm), .int .i64 q.2.1.i, .slice q.2.2.1 q.2.1.args.length q.2.2.2] 41) := ⟨_, rfl⟩
      rw [← hw317] at Y B316 K1 KR B70 B74 B288
      obtain ⟨b316, hb316⟩ : ∃ x, x = w307.heap.size := ⟨_, rfl⟩
      rw [← hb316] at Y B316 Nb70_b316 Nb74_b316 Nb288_b316
      have LK1_b316 : W.heap.size ≤ b316 := by rw [hb316]; first | exact Nat.le_refl _ | exact MK1.size
      have LKR_b316 : wr.heap.size ≤ b316 := by rw [hb316]; first | exact Nat.le_refl _ | exact MKR.size
      clear hw317 hb316 MK1 MKR
      refine st_val g9_10_2 rfl (wanted_free rfl) Y fun a318 e => ?_; clear Y
      have g40 := R.at_ e (by decide); replace R := R.put e; replace h3 := slot_on e h3 (by decide); replace h4 := slot_on e h4 (by decide); replace h6 := slot_on e h6 (by decide); replace h7 := slot_on e h7 (by decide); replace h9 := slot_on e h9 (by decide); replace h26 := slot_on e h26 (by decide); replace h27 := slot_on e h27 (by decide); replace h28 := slot_on e h28 (by decide); replace h29 := slot_on e h29 (by decide); replace h30 := slot_on e h30 (by decide); replace h31 := slot_on e h31 (by decide); replace h32 := slot_on e h32 (by decide); replace h33 := slot_on e h33 (by decide); replace h34 := slot_on e h34 (by decide); replace h35 := slot_on e h35 (by decide); replace h36 := slot_on e h36 (by decide); replace h37 := slot_on e h37 (by decide); replace h38 := slot_on e h38 (by decide); replace h39 := slot_on e h39 (by decide); have h40 := g40; clear g40; clear e
      obtain ⟨v8, w8, hap, hrow, kap⟩ := append_bd (q := q) (ty := o9_10_3.type) (b2 := b316) (c2 := 1) (row_kept HROW.out KR) B316 (by have := notIn_len (vaV t) (bs.take j); have h9 := HLN.out; have h8 : (bs.take j).length ≤ bs.length := (by rw [List.length_take]; omega); omega) (Nat.le_trans hlq KR.size)
      have Y : (execOp a318.eval o9_10_3).run Try.prog w317 = .ok (.value v8) w8 := by
        unfold o9_10_3 at hap ⊢; unfold execOp; simp only [resolve, invoke, builtin, Sem.run_bind, Sem.run_pure, Result.andThen_ok, List.map_toArray, List.map_cons, List.map_nil, eval_slot h38, eval_slot h40]; rw [hap]; rfl
      clear B288
      clear B316
      replace K1 := K1.trans (kap.less fun g hg => Nat.lt_of_lt_of_le hg hbW)
      replace B70 := B70.keep kap Ab70
      replace B74 := B74.keep kap Ab74
      have hlq2 : b103 ≤ w8.heap.size := Nat.le_trans hlq (Nat.le_trans KR.size kap.size)
      clear KR kap hap
      have KR := Keep.refl (fun g => g < w8.heap.size) w8
      have HROW2 : Hid (w8.ownsRow b103 41 5 v8 (notIn (vaV t) (bs.take (j + 1))).length ((notIn (vaV t) (bs.take (j + 1))).flatMap bcells)) := Lib.hid (by rw [notIn_snoc (vaV t) hq, if_neg (by rw [HBM.out]; decide)]; exact hrow)
      clear hrow
      refine st_val g9_10_3 rfl (wanted_free rfl) Y fun a320 e => ?_; clear Y
      have g41 := R.at_ e (by decide); replace R := R.put e; replace h3 := slot_on e h3 (by decide); replace h4 := slot_on e h4 (by decide); replace h6 := slot_on e h6 (by decide); replace h7 := slot_on e h7 (by decide); replace h9 := slot_on e h9 (by decide); replace h26 := slot_on e h26 (by decide); replace h27 := slot_on e h27 (by decide); replace h28 := slot_on e h28 (by decide); replace h29 := slot_on e h29 (by decide); replace h30 := slot_on e h30 (by decide); replace h31 := slot_on e h31 (by decide); replace h32 := slot_on e h32 (by decide); replace h33 := slot_on e h33 (by decide); replace h34 := slot_on e h34 (by decide); replace h35 := slot_on e h35 (by decide); replace h36 := slot_on e h36 (by decide); replace h37 := slot_on e h37 (by decide); replace h38 := slot_on e h38 (by decide); replace h39 := slot_on e h39 (by decide); replace h40 := slot_on e h40 (by decide); have h41 := g41; clear g41; clear e
      have Y : (execOp a320.eval o9_10_4).run Try.prog w8 = .ok (.value (v8)) w8 := by unfold o9_10_4; go_simp
      refine st_val g9_10_4 rfl (wanted_free rfl) Y fun a322 e => ?_; clear Y
      have g7 := R.at_ e (by decide); replace R := R.put e; replace h3 := slot_on e h3 (by decide); replace h4 := slot_on e h4 (by decide); replace h6 := slot_on e h6 (by decide); replace h9 := slot_on e h9 (by decide); replace h26 := slot_on e h26 (by decide); replace h27 := slot_on e h27 (by decide); replace h28 := slot_on e h28 (by decide); replace h29 := slot_on e h29 (by decide); replace h30 := slot_on e h30 (by decide); replace h31 := slot_on e h31 (by decide); replace h32 := slot_on e h32 (by decide); replace h33 := slot_on e h33 (by decide); replace h34 := slot_on e h34 (by decide); replace h35 := slot_on e h35 (by decide); replace h36 := slot_on e h36 (by decide); replace h37 := slot_on e h37 (by decide); replace h38 := slot_on e h38 (by decide); replace h39 := slot_on e h39 (by decide); replace h40 := slot_on e h40 (by decide); replace h41 := slot_on e h41 (by decide); clear h7; have h7 := g7; clear g7; clear e
      refine st_end ?_
      change (c9_40).wp _ _ _ _
      change (Code.region 11 O9_11 false).wp _ _ _ _
      refine reg_in (l := [0, 1]) rfl ?_
      have Y : (execOp a322.eval o9_11_0).run Try.prog w8 = .ok (.value (.int .i64 ((j : Int) + 1))) w8 := by unfold o9_11_0; go_simp
      refine st_val g9_11_0 rfl (wanted_free rfl) Y fun a324 e => ?_; clear Y
      have g42 := R.at_ e (by decide); replace R := R.put e; replace h3 := slot_on e h3 (by decide); replace h4 := slot_on e h4 (by decide); replace h6 := slot_on e h6 (by decide); replace h7 := slot_on e h7 (by decide); replace h9 := slot_on e h9 (by decide); replace h26 := slot_on e h26 (by decide); replace h27 := slot_on e h27 (by decide); replace h28 := slot_on e h28 (by decide); replace h29 := slot_on e h29 (by decide); replace h30 := slot_on e h30 (by decide); replace h31 := slot_on e h31 (by decide); replace h32 := slot_on e h32 (by decide); replace h33 := slot_on e h33 (by decide); replace h34 := slot_on e h34 (by decide); replace h35 := slot_on e h35 (by decide); replace h36 := slot_on e h36 (by decide); replace h37 := slot_on e h37 (by decide); replace h38 := slot_on e h38 (by decide); replace h39 := slot_on e h39 (by decide); replace h40 := slot_on e h40 (by decide); replace h41 := slot_on e h41 (by decide); have h42 := g42; clear g42; clear e
      have Y : (execOp a324.eval o9_11_1).run Try.prog w8 = .ok (.value (.int .i64 ((j : Int) + 1))) w8 := by unfold o9_11_1; go_simp
      refine st_val g9_11_1 rfl (wanted_free rfl) Y fun a326 e => ?_; clear Y
      have g28 := R.at_ e (by decide); replace R := R.put e; replace h3 := slot_on e h3 (by decide); replace h4 := slot_on e h4 (by decide); replace h6 := slot_on e h6 (by decide); replace h7 := slot_on e h7 (by decide); replace h9 := slot_on e h9 (by decide); replace h26 := slot_on e h26 (by decide); replace h27 := slot_on e h27 (by decide); replace h29 := slot_on e h29 (by decide); replace h30 := slot_on e h30 (by decide); replace h31 := slot_on e h31 (by decide); replace h32 := slot_on e h32 (by decide); replace h33 := slot_on e h33 (by decide); replace h34 := slot_on e h34 (by decide); replace h35 := slot_on e h35 (by decide); replace h36 := slot_on e h36 (by decide); replace h37 := slot_on e h37 (by decide); replace h38 := slot_on e h38 (by decide); replace h39 := slot_on e h39 (by decide); replace h40 := slot_on e h40 (by decide); replace h41 := slot_on e h41 (by decide); replace h42 := slot_on e h42 (by decide); clear h28; have h28 := g28; clear g28; clear e
      refine st_end ?_
      exact ⟨_, by omega, j + 1, w8, v8, rfl, R, h3, h4, h6, h7, h26, h27, h28, K1, KR, B70, B74, (by omega), HROW2, hlq2⟩
    | true =>
      have Y : ∀ W, Keep (fun g => g < w292.heap.size) w292 W → (execOp a308.eval o9_9_5).run Try.prog W = .ok (.value (.bool false)) W := by intro W7 hS; unfold o9_9_5; go_simp
      refine dr_take (i := 5) (fuel := 0) (l' := #[true, true, true, true, true, true]) g9_9_5 rfl ns9_9 (by kernel_rfl) (by kernel_rfl) rfl (wanted_free rfl) K293 Y fun a328 e => ?_; clear Y
      have g37 := R.at_ e (by decide); replace R := R.put e; replace h3 := slot_on e h3 (by decide); replace h4 := slot_on e h4 (by decide); replace h6 := slot_on e h6 (by decide); replace h7 := slot_on e h7 (by decide); replace h9 := slot_on e h9 (by decide); replace h26 := slot_on e h26 (by decide); replace h27 := slot_on e h27 (by decide); replace h28 := slot_on e h28 (by decide); replace h29 := slot_on e h29 (by decide); replace h30 := slot_on e h30 (by decide); replace h31 := slot_on e h31 (by decide); replace h32 := slot_on e h32 (by decide); replace h33 := slot_on e h33 (by decide); replace h34 := slot_on e h34 (by decide); replace h35 := slot_on e h35 (by decide); replace h36 := slot_on e h36 (by decide); have h37 := g37; clear g37; clear e
      refine dr_end (by kernel_rfl) ?_
      clear K293 EK1 EKR D295 D296 D297
      change (c9_37).wp _ _ _ _
      refine wp_cond_false (x := c9_38) (y := Code.skip) (eval_slot h37) ?_
      refine wp_skip ?_
      change (c9_40).wp _ _ _ _
      change (Code.region 11 O9_11 false).wp _ _ _ _
      refine reg_in (l := [0, 1]) rfl ?_
      have Y : (execOp a328.eval o9_11_0).run Try.prog w307 = .ok (.value (.int .i64 ((j : Int) + 1))) w307 := by unfold o9_11_0; go_simp
      refine st_val g9_11_0 rfl (wanted_free rfl) Y fun a330 e => ?_; clear Y
      have g42 := R.at_ e (by decide); replace R := R.put e; replace h3 := slot_on e h3 (by decide); replace h4 := slot_on e h4 (by decide); replace h6 := slot_on e h6 (by decide); replace h7 := slot_on e h7 (by decide); replace h9 := slot_on e h9 (by decide); replace h26 := slot_on e h26 (by decide); replace h27 := slot_on e h27 (by decide); replace h28 := slot_on e h28 (by decide); replace h29 := slot_on e h29 (by decide); replace h30 := slot_on e h30 (by decide); replace h31 := slot_on e h31 (by decide); replace h32 := slot_on e h32 (by decide); replace h33 := slot_on e h33 (by decide); replace h34 := slot_on e h34 (by decide); replace h35 := slot_on e h35 (by decide); replace h36 := slot_on e h36 (by decide); replace h37 := slot_on e h37 (by decide); have h42 := g42; clear g42; clear e
      have Y : (execOp a330.eval o9_11_1).run Try.prog w307 = .ok (.value (.int .i64 ((j : Int) + 1))) w307 := by unfold o9_11_1; go_simp
      refine st_val g9_11_1 rfl (wanted_free rfl) Y fun a332 e => ?_; clear Y
      have g28 := R.at_ e (by decide); replace R := R.put e; replace h3 := slot_on e h3 (by decide); replace h4 := slot_on e h4 (by decide); replace h6 := slot_on e h6 (by decide); replace h7 := slot_on e h7 (by decide); replace h9 := slot_on e h9 (by decide); replace h26 := slot_on e h26 (by decide); replace h27 := slot_on e h27 (by decide); replace h29 := slot_on e h29 (by decide); replace h30 := slot_on e h30 (by decide); replace h31 := slot_on e h31 (by decide); replace h32 := slot_on e h32 (by decide); replace h33 := slot_on e h33 (by decide); replace h34 := slot_on e h34 (by decide); replace h35 := slot_on e h35 (by decide); replace h36 := slot_on e h36 (by decide); replace h37 := slot_on e h37 (by decide); replace h42 := slot_on e h42 (by decide); clear h28; have h28 := g28; clear g28; clear e
      refine st_end ?_
      exact ⟨_, by omega, j + 1, wr, vm, rfl, R, h3, h4, h6, h7, h26, h27, h28, K1, KR, B70, B74, (by omega), (Lib.hid (by have h := HROW.out; rw [notIn_snoc (vaV t) hq, if_pos HBM.out, List.append_nil]; exact h)), hlq⟩


theorem grounds_walk {W : World} {bs : List BP} {sa : Option Addr} {sc : Nat} {t u : Tm} {ta ua : Option Addr} {tc uc : Nat} (hT : TmAt W.heap.size W t ta tc) (hU : TmAt W.heap.size W u ua uc) (hS : BSl W.heap.size W sa bs) (hlen : bs.length ≤ 2199023255551) :
    Calls Try.prog 9 #[tv t ta tc, tv u ua uc, .slice sa bs.length sc] W fun e w' => e = .returned (.bool true) ∧ Keep (fun g => g < W.heap.size) W w' := by
  refine enter_sx Try.func9 body9 rfl (by show (3 : Nat) ≤ 95; decide) fun f0 R hs => ?_
  have h0 := hs 0 _ rfl
  have h1 := hs 1 _ rfl
  have h2 := hs 2 _ rfl
  have K1 := Keep.refl (fun g => g < W.heap.size) W
  cases hr : t.right with
  | false => exact gw_a R h0 h1 h2 K1 (Lib.hid hT) (Lib.hid hU) (Lib.hid hr)
  | true =>
  cases hq : u.right with
  | false => exact gw_b R h0 h1 h2 K1 (Lib.hid hT) (Lib.hid hU) (Lib.hid hr) (Lib.hid hq)
  | true =>
  have hvl : (vaV t).length ≤ 2000 := by
    rw [vaV, if_pos hr]
    exact Nat.le_trans t.tree.vars_len (Tm.tree_right (right_of.1 hr)).2.1
  exact gw_t R h0 h1 h2 K1 (Lib.hid hT) (Lib.hid hU) (Lib.hid hr) (Lib.hid hq) (Lib.hid hS) (Lib.hid hlen) (Lib.hid hvl)
end Go.Proofs.Ytaaodgkbopficaa
