/-
  The law of new memory: walked with letter frames. No condition but where the terms lie.
-/
import Derived.Test.YthbofkffklejoaaSx11
namespace Go.Proofs.Ythbofkffklejoaa
open Go.RowKit Go.Maps
set_option linter.unusedVariables false
set_option linter.unusedSimpArgs false

def o12_0_0 : Oper := { dst := some 2, op := Op.box 24 (Operand.tmp 0), type := 0, pos := "law.go:362", after := #[], guard := none }
def o12_0_1 : Oper := { dst := some 4, op := Op.assign (Operand.const (Value.bool false)), type := 4, pos := "law.go:362", after := #[], guard := none }
def O12_0 : Array Oper := List.toArray (o12_0_0 :: o12_0_1 :: [])
theorem g12_0_0 : O12_0[0]? = some o12_0_0 := rfl
theorem g12_0_1 : O12_0[1]? = some o12_0_1 := rfl
def c12_1 : Code := Code.region 0 O12_0 false
def o12_1_0 : Oper := { dst := some 28, op := Op.call { callee := Callee.value (Operand.func 13), args := #[], argTypes := #[] }, type := 4, pos := "law.go:363", after := #[], guard := none }
def o12_1_1 : Oper := { dst := some 29, op := Op.unOp Go.UnOp.not 4 (Operand.tmp 28), type := 4, pos := "law.go:363", after := #[ed_ 0], guard := none }
def O12_1 : Array Oper := List.toArray (o12_1_0 :: o12_1_1 :: [])
theorem g12_1_0 : O12_1[0]? = some o12_1_0 := rfl
theorem g12_1_1 : O12_1[1]? = some o12_1_1 := rfl
def c12_4 : Code := Code.region 1 O12_1 false
def o12_2_0 : Oper := { dst := some 4, op := Op.assign (Operand.const (Value.bool false)), type := 4, pos := "law.go:364", after := #[], guard := none }
def O12_2 : Array Oper := List.toArray (o12_2_0 :: [])
theorem g12_2_0 : O12_2[0]? = some o12_2_0 := rfl
def c12_7 : Code := Code.region 2 O12_2 false
def c12_6 : Code := Code.seq c12_7 Code.ret
def c12_5 : Code := Code.cond (Operand.tmp 29) c12_6 Code.skip
def c12_3 : Code := Code.seq c12_4 c12_5
def o12_3_0 : Oper := { dst := some 30, op := Op.load 24 (Operand.tmp 2), type := 24, pos := "law.go:366", after := #[], guard := none }
def o12_3_1 : Oper := { dst := some 31, op := Op.buildSlice 22 1 #[(0, Operand.tmp 30)], type := 22, pos := "law.go:366", after := #[ed_ 0], guard := none }
def o12_3_2 : Oper := { dst := some 32, op := Op.call { callee := Callee.value (Operand.func 33), args := #[Operand.tmp 31], argTypes := #[22] }, type := 4, pos := "law.go:366", after := #[ed_ 1], guard := none }
def o12_3_3 : Oper := { dst := some 33, op := Op.unOp Go.UnOp.not 4 (Operand.tmp 32), type := 4, pos := "law.go:366", after := #[ed_ 2], guard := none }
def o12_3_4 : Oper := { dst := some 34, op := Op.move (Operand.tmp 33), type := 4, pos := "law.go:366", after := #[ed_ 3, ec_ 2], guard := none }
def o12_3_5 : Oper := { dst := some 35, op := Op.load 24 (Operand.tmp 2), type := 24, pos := "law.go:366", after := #[eg_ 4], guard := some (4, false) }
def o12_3_6 : Oper := { dst := some 36, op := Op.call { callee := Callee.value (Operand.func 14), args := #[Operand.tmp 35], argTypes := #[24] }, type := 4, pos := "law.go:366", after := #[ed_ 5, ec_ 4, eg_ 4], guard := some (4, false) }
def o12_3_7 : Oper := { dst := some 37, op := Op.unOp Go.UnOp.not 4 (Operand.tmp 36), type := 4, pos := "law.go:366", after := #[ed_ 6, eg_ 4], guard := some (4, false) }
def o12_3_8 : Oper := { dst := some 38, op := Op.pick (Operand.tmp 34) (Operand.const (Value.bool true)) (Operand.tmp 37), type := 4, pos := "law.go:366", after := #[ed_ 4, ed_ 7], guard := none }
def o12_3_9 : Oper := { dst := some 39, op := Op.move (Operand.tmp 38), type := 4, pos := "law.go:366", after := #[ed_ 8, ec_ 6], guard := none }
def o12_3_10 : Oper := { dst := some 40, op := Op.move (Operand.tmp 1), type := 36, pos := "law.go:366", after := #[eg_ 9], guard := some (9, false) }
def o12_3_11 : Oper := { dst := some 41, op := Op.call { callee := Callee.builtin Go.Builtin.len, args := #[Operand.tmp 40], argTypes := #[36] }, type := 3, pos := "law.go:366", after := #[ed_ 10, eg_ 9], guard := some (9, false) }
def o12_3_12 : Oper := { dst := some 42, op := Op.binOp Go.BinOp.gtr 3 (Operand.tmp 41) (Operand.const (Value.int IntKind.i64 20)) 3, type := 4, pos := "law.go:366", after := #[ed_ 11, eg_ 9], guard := some (9, false) }
def o12_3_13 : Oper := { dst := some 43, op := Op.pick (Operand.tmp 39) (Operand.const (Value.bool true)) (Operand.tmp 42), type := 4, pos := "law.go:366", after := #[ed_ 9, ed_ 12], guard := none }
def O12_3 : Array Oper := List.toArray (o12_3_0 :: o12_3_1 :: o12_3_2 :: o12_3_3 :: o12_3_4 :: o12_3_5 :: o12_3_6 :: o12_3_7 :: o12_3_8 :: o12_3_9 :: o12_3_10 :: o12_3_11 :: o12_3_12 :: o12_3_13 :: [])
theorem g12_3_0 : O12_3[0]? = some o12_3_0 := rfl
theorem g12_3_1 : O12_3[1]? = some o12_3_1 := rfl
theorem g12_3_2 : O12_3[2]? = some o12_3_2 := rfl
theorem g12_3_3 : O12_3[3]? = some o12_3_3 := rfl
theorem g12_3_4 : O12_3[4]? = some o12_3_4 := rfl
theorem g12_3_5 : O12_3[5]? = some o12_3_5 := rfl
theorem g12_3_6 : O12_3[6]? = some o12_3_6 := rfl
theorem g12_3_7 : O12_3[7]? = some o12_3_7 := rfl
theorem g12_3_8 : O12_3[8]? = some o12_3_8 := rfl
theorem g12_3_9 : O12_3[9]? = some o12_3_9 := rfl
theorem g12_3_10 : O12_3[10]? = some o12_3_10 := rfl
theorem g12_3_11 : O12_3[11]? = some o12_3_11 := rfl
theorem g12_3_12 : O12_3[12]? = some o12_3_12 := rfl
theorem g12_3_13 : O12_3[13]? = some o12_3_13 := rfl
def c12_12 : Code := Code.region 3 O12_3 false
def o12_4_0 : Oper := { dst := some 4, op := Op.assign (Operand.const (Value.bool true)), type := 4, pos := "law.go:367", after := #[], guard := none }
def O12_4 : Array Oper := List.toArray (o12_4_0 :: [])
theorem g12_4_0 : O12_4[0]? = some o12_4_0 := rfl
def c12_15 : Code := Code.region 4 O12_4 false
def c12_14 : Code := Code.seq c12_15 Code.ret
def c12_13 : Code := Code.cond (Operand.tmp 43) c12_14 Code.skip
def c12_11 : Code := Code.seq c12_12 c12_13
def o12_5_0 : Oper := { dst := some 44, op := Op.load 24 (Operand.tmp 2), type := 24, pos := "law.go:369", after := #[], guard := none }
def o12_5_1 : Oper := { dst := some 45, op := Op.call { callee := Callee.value (Operand.func 34), args := #[Operand.tmp 44], argTypes := #[24] }, type := 24, pos := "law.go:369", after := #[ed_ 0], guard := none }
def o12_5_2 : Oper := { dst := some 5, op := Op.alloc 24, type := 0, pos := "law.go:369", after := #[], guard := none }
def o12_5_3 : Oper := { dst := none, op := Op.store 24 (Operand.tmp 5) (Operand.tmp 45), type := 0, pos := "law.go:369", after := #[ed_ 2, ed_ 1, ec_ 1, ep_ 0, ep_ 1, ep_ 2], guard := none }
def O12_5 : Array Oper := List.toArray (o12_5_0 :: o12_5_1 :: o12_5_2 :: o12_5_3 :: [])
theorem g12_5_0 : O12_5[0]? = some o12_5_0 := rfl
theorem g12_5_1 : O12_5[1]? = some o12_5_1 := rfl
theorem g12_5_2 : O12_5[2]? = some o12_5_2 := rfl
theorem g12_5_3 : O12_5[3]? = some o12_5_3 := rfl
def c12_19 : Code := Code.region 5 O12_5 false
def o12_6_0 : Oper := { dst := some 47, op := Op.load 24 (Operand.tmp 2), type := 24, pos := "law.go:370", after := #[], guard := none }
def o12_6_1 : Oper := { dst := some 48, op := Op.call { callee := Callee.value (Operand.func 30), args := #[Operand.tmp 47, Operand.const (Value.slice none 0 0)], argTypes := #[24, 36] }, type := 42, pos := "law.go:370", after := #[ed_ 0], guard := none }
def o12_6_2 : Oper := { dst := some 46, op := Op.move (Operand.tmp 48), type := 42, pos := "law.go:370", after := #[ed_ 1], guard := none }
def o12_6_3 : Oper := { dst := some 49, op := Op.extract (Operand.tmp 46) 0, type := 24, pos := "law.go:370", after := #[ed_ 2], guard := none }
def o12_6_4 : Oper := { dst := some 50, op := Op.extract (Operand.tmp 46) 1, type := 27, pos := "law.go:370", after := #[ed_ 2, { on := 6, ground := Go.Ground.gcOnly Go.Departure.lateStores }], guard := none }
def o12_6_5 : Oper := { dst := some 6, op := Op.alloc 24, type := 0, pos := "law.go:370", after := #[], guard := none }
def o12_6_6 : Oper := { dst := none, op := Op.store 24 (Operand.tmp 6) (Operand.tmp 49), type := 0, pos := "law.go:370", after := #[ed_ 5, ed_ 3, ec_ 1, ep_ 0, ep_ 1, ep_ 2, ep_ 3, { on := 4, ground := Go.Ground.textOnly Go.Departure.lateStores }, ep_ 5], guard := none }
def o12_6_7 : Oper := { dst := some 7, op := Op.assign (Operand.tmp 50), type := 27, pos := "law.go:370", after := #[ed_ 4, ec_ 6, ep_ 0, ep_ 1, ep_ 2, ep_ 3, ep_ 4, ep_ 5, ep_ 6], guard := none }
def O12_6 : Array Oper := List.toArray (o12_6_0 :: o12_6_1 :: o12_6_2 :: o12_6_3 :: o12_6_4 :: o12_6_5 :: o12_6_6 :: o12_6_7 :: [])
theorem g12_6_0 : O12_6[0]? = some o12_6_0 := rfl
theorem g12_6_1 : O12_6[1]? = some o12_6_1 := rfl
theorem g12_6_2 : O12_6[2]? = some o12_6_2 := rfl
theorem g12_6_3 : O12_6[3]? = some o12_6_3 := rfl
theorem g12_6_4 : O12_6[4]? = some o12_6_4 := rfl
theorem g12_6_5 : O12_6[5]? = some o12_6_5 := rfl
theorem g12_6_6 : O12_6[6]? = some o12_6_6 := rfl
theorem g12_6_7 : O12_6[7]? = some o12_6_7 := rfl
def c12_21 : Code := Code.region 6 O12_6 false
def o12_7_0 : Oper := { dst := some 52, op := Op.load 24 (Operand.tmp 2), type := 24, pos := "law.go:371", after := #[], guard := none }
def o12_7_1 : Oper := { dst := some 53, op := Op.call { callee := Callee.value (Operand.func 32), args := #[Operand.tmp 52, Operand.const (Value.int IntKind.i64 1)], argTypes := #[24, 2] }, type := 45, pos := "law.go:371", after := #[ed_ 0], guard := none }
def o12_7_2 : Oper := { dst := some 51, op := Op.move (Operand.tmp 53), type := 45, pos := "law.go:371", after := #[ed_ 1], guard := none }
def o12_7_3 : Oper := { dst := some 54, op := Op.extract (Operand.tmp 51) 0, type := 24, pos := "law.go:371", after := #[ed_ 2], guard := none }
def o12_7_4 : Oper := { dst := some 55, op := Op.extract (Operand.tmp 51) 1, type := 2, pos := "law.go:371", after := #[ed_ 2, { on := 7, ground := Go.Ground.gcOnly Go.Departure.lateStores }], guard := none }
def o12_7_5 : Oper := { dst := some 56, op := Op.extract (Operand.tmp 51) 2, type := 27, pos := "law.go:371", after := #[ed_ 2, { on := 8, ground := Go.Ground.gcOnly Go.Departure.lateStores }], guard := none }
def o12_7_6 : Oper := { dst := some 8, op := Op.alloc 24, type := 0, pos := "law.go:371", after := #[], guard := none }
def o12_7_7 : Oper := { dst := none, op := Op.store 24 (Operand.tmp 8) (Operand.tmp 54), type := 0, pos := "law.go:371", after := #[ed_ 6, ed_ 3, ec_ 1, ep_ 0, ep_ 1, ep_ 2, ep_ 3, { on := 4, ground := Go.Ground.textOnly Go.Departure.lateStores }, { on := 5, ground := Go.Ground.textOnly Go.Departure.lateStores }, ep_ 6], guard := none }
def o12_7_8 : Oper := { dst := some 9, op := Op.assign (Operand.tmp 55), type := 2, pos := "law.go:371", after := #[ed_ 4, ec_ 7, ep_ 0, ep_ 1, ep_ 2, ep_ 3, ep_ 4, { on := 5, ground := Go.Ground.textOnly Go.Departure.lateStores }, ep_ 6, ep_ 7], guard := none }
def o12_7_9 : Oper := { dst := some 10, op := Op.assign (Operand.tmp 56), type := 27, pos := "law.go:371", after := #[ed_ 5, ec_ 8, ep_ 0, ep_ 1, ep_ 2, ep_ 3, ep_ 4, ep_ 5, ep_ 6, ep_ 7, ep_ 8], guard := none }
def O12_7 : Array Oper := List.toArray (o12_7_0 :: o12_7_1 :: o12_7_2 :: o12_7_3 :: o12_7_4 :: o12_7_5 :: o12_7_6 :: o12_7_7 :: o12_7_8 :: o12_7_9 :: [])
theorem g12_7_0 : O12_7[0]? = some o12_7_0 := rfl
theorem g12_7_1 : O12_7[1]? = some o12_7_1 := rfl
theorem g12_7_2 : O12_7[2]? = some o12_7_2 := rfl
theorem g12_7_3 : O12_7[3]? = some o12_7_3 := rfl
theorem g12_7_4 : O12_7[4]? = some o12_7_4 := rfl
theorem g12_7_5 : O12_7[5]? = some o12_7_5 := rfl
theorem g12_7_6 : O12_7[6]? = some o12_7_6 := rfl
theorem g12_7_7 : O12_7[7]? = some o12_7_7 := rfl
theorem g12_7_8 : O12_7[8]? = some o12_7_8 := rfl
theorem g12_7_9 : O12_7[9]? = some o12_7_9 := rfl
def c12_23 : Code := Code.region 7 O12_7 false
def o12_8_0 : Oper := { dst := some 58, op := Op.load 24 (Operand.tmp 2), type := 24, pos := "law.go:372", after := #[], guard := none }
def o12_8_1 : Oper := { dst := some 59, op := Op.load 24 (Operand.tmp 2), type := 24, pos := "law.go:372", after := #[], guard := none }
def o12_8_2 : Oper := { dst := some 60, op := Op.buildSlice 22 2 #[(0, Operand.tmp 58), (1, Operand.tmp 59)], type := 22, pos := "law.go:372", after := #[ed_ 0, ed_ 1], guard := none }
def o12_8_3 : Oper := { dst := some 61, op := Op.load 24 (Operand.tmp 2), type := 24, pos := "law.go:372", after := #[], guard := none }
def o12_8_4 : Oper := { dst := some 62, op := Op.call { callee := Callee.value (Operand.func 39), args := #[Operand.tmp 60, Operand.tmp 61], argTypes := #[22, 24] }, type := 42, pos := "law.go:372", after := #[ed_ 2, ed_ 3], guard := none }
def o12_8_5 : Oper := { dst := some 57, op := Op.move (Operand.tmp 62), type := 42, pos := "law.go:372", after := #[ed_ 4], guard := none }
def o12_8_6 : Oper := { dst := some 63, op := Op.extract (Operand.tmp 57) 0, type := 24, pos := "law.go:372", after := #[ed_ 5], guard := none }
def o12_8_7 : Oper := { dst := some 64, op := Op.extract (Operand.tmp 57) 1, type := 27, pos := "law.go:372", after := #[ed_ 5, { on := 9, ground := Go.Ground.gcOnly Go.Departure.lateStores }], guard := none }
def o12_8_8 : Oper := { dst := some 11, op := Op.alloc 24, type := 0, pos := "law.go:372", after := #[], guard := none }
def o12_8_9 : Oper := { dst := none, op := Op.store 24 (Operand.tmp 11) (Operand.tmp 63), type := 0, pos := "law.go:372", after := #[ed_ 8, ed_ 6, ec_ 4, ep_ 0, ep_ 1, ep_ 2, ep_ 3, ep_ 4, ep_ 5, ep_ 6, { on := 7, ground := Go.Ground.textOnly Go.Departure.lateStores }, ep_ 8], guard := none }
def o12_8_10 : Oper := { dst := some 12, op := Op.assign (Operand.tmp 64), type := 27, pos := "law.go:372", after := #[ed_ 7, ec_ 9, ep_ 0, ep_ 1, ep_ 2, ep_ 3, ep_ 4, ep_ 5, ep_ 6, ep_ 7, ep_ 8, ep_ 9], guard := none }
def O12_8 : Array Oper := List.toArray (o12_8_0 :: o12_8_1 :: o12_8_2 :: o12_8_3 :: o12_8_4 :: o12_8_5 :: o12_8_6 :: o12_8_7 :: o12_8_8 :: o12_8_9 :: o12_8_10 :: [])
theorem g12_8_0 : O12_8[0]? = some o12_8_0 := rfl
theorem g12_8_1 : O12_8[1]? = some o12_8_1 := rfl
theorem g12_8_2 : O12_8[2]? = some o12_8_2 := rfl
theorem g12_8_3 : O12_8[3]? = some o12_8_3 := rfl
theorem g12_8_4 : O12_8[4]? = some o12_8_4 := rfl
theorem g12_8_5 : O12_8[5]? = some o12_8_5 := rfl
theorem g12_8_6 : O12_8[6]? = some o12_8_6 := rfl
theorem g12_8_7 : O12_8[7]? = some o12_8_7 := rfl
theorem g12_8_8 : O12_8[8]? = some o12_8_8 := rfl
theorem g12_8_9 : O12_8[9]? = some o12_8_9 := rfl
theorem g12_8_10 : O12_8[10]? = some o12_8_10 := rfl
def c12_25 : Code := Code.region 8 O12_8 false
def o12_9_0 : Oper := { dst := some 66, op := Op.load 24 (Operand.tmp 11), type := 24, pos := "law.go:373", after := #[], guard := none }
def o12_9_1 : Oper := { dst := some 67, op := Op.call { callee := Callee.value (Operand.func 41), args := #[Operand.tmp 66], argTypes := #[24] }, type := 56, pos := "law.go:373", after := #[ed_ 0], guard := none }
def o12_9_2 : Oper := { dst := some 65, op := Op.move (Operand.tmp 67), type := 56, pos := "law.go:373", after := #[ed_ 1], guard := none }
def o12_9_3 : Oper := { dst := some 68, op := Op.extract (Operand.tmp 65) 0, type := 22, pos := "law.go:373", after := #[ed_ 2], guard := none }
def o12_9_4 : Oper := { dst := some 69, op := Op.extract (Operand.tmp 65) 1, type := 24, pos := "law.go:373", after := #[ed_ 2, { on := 6, ground := Go.Ground.gcOnly Go.Departure.lateStores }], guard := none }
def o12_9_5 : Oper := { dst := some 14, op := Op.alloc 24, type := 0, pos := "law.go:373", after := #[], guard := none }
def o12_9_6 : Oper := { dst := some 13, op := Op.assign (Operand.tmp 68), type := 22, pos := "law.go:373", after := #[ed_ 3, ec_ 1, ep_ 0, ep_ 1, ep_ 2, ep_ 3, { on := 4, ground := Go.Ground.textOnly Go.Departure.lateStores }, ep_ 5], guard := none }
def o12_9_7 : Oper := { dst := none, op := Op.store 24 (Operand.tmp 14) (Operand.tmp 69), type := 0, pos := "law.go:373", after := #[ed_ 5, ed_ 4, ec_ 6, ep_ 0, ep_ 1, ep_ 2, ep_ 3, ep_ 4, ep_ 5, ep_ 6], guard := none }
def O12_9 : Array Oper := List.toArray (o12_9_0 :: o12_9_1 :: o12_9_2 :: o12_9_3 :: o12_9_4 :: o12_9_5 :: o12_9_6 :: o12_9_7 :: [])
theorem g12_9_0 : O12_9[0]? = some o12_9_0 := rfl
theorem g12_9_1 : O12_9[1]? = some o12_9_1 := rfl
theorem g12_9_2 : O12_9[2]? = some o12_9_2 := rfl
theorem g12_9_3 : O12_9[3]? = some o12_9_3 := rfl
theorem g12_9_4 : O12_9[4]? = some o12_9_4 := rfl
theorem g12_9_5 : O12_9[5]? = some o12_9_5 := rfl
theorem g12_9_6 : O12_9[6]? = some o12_9_6 := rfl
theorem g12_9_7 : O12_9[7]? = some o12_9_7 := rfl
def c12_27 : Code := Code.region 9 O12_9 false
def o12_10_0 : Oper := { dst := some 71, op := Op.load 24 (Operand.tmp 2), type := 24, pos := "law.go:374", after := #[], guard := none }
def o12_10_1 : Oper := { dst := some 72, op := Op.call { callee := Callee.value (Operand.func 44), args := #[Operand.const (Value.int IntKind.i64 1099511627776)], argTypes := #[2] }, type := 24, pos := "law.go:374", after := #[], guard := none }
def o12_10_2 : Oper := { dst := some 73, op := Op.call { callee := Callee.value (Operand.func 28), args := #[Operand.tmp 71, Operand.tmp 72], argTypes := #[24, 24] }, type := 37, pos := "law.go:374", after := #[ed_ 0, ed_ 1, ec_ 1], guard := none }
def o12_10_3 : Oper := { dst := some 70, op := Op.move (Operand.tmp 73), type := 37, pos := "law.go:374", after := #[ed_ 2], guard := none }
def o12_10_4 : Oper := { dst := some 74, op := Op.extract (Operand.tmp 70) 0, type := 36, pos := "law.go:374", after := #[ed_ 3], guard := none }
def o12_10_5 : Oper := { dst := some 75, op := Op.extract (Operand.tmp 70) 1, type := 4, pos := "law.go:374", after := #[ed_ 3, { on := 7, ground := Go.Ground.gcOnly Go.Departure.lateStores }], guard := none }
def o12_10_6 : Oper := { dst := some 76, op := Op.extract (Operand.tmp 70) 2, type := 27, pos := "law.go:374", after := #[ed_ 3, { on := 8, ground := Go.Ground.gcOnly Go.Departure.lateStores }], guard := none }
def o12_10_7 : Oper := { dst := some 15, op := Op.assign (Operand.tmp 74), type := 36, pos := "law.go:374", after := #[ed_ 4, ec_ 2, ep_ 0, ep_ 1, ep_ 2, ep_ 3, ep_ 4, { on := 5, ground := Go.Ground.textOnly Go.Departure.lateStores }, { on := 6, ground := Go.Ground.textOnly Go.Departure.lateStores }], guard := none }
def o12_10_8 : Oper := { dst := some 16, op := Op.assign (Operand.tmp 75), type := 4, pos := "law.go:374", after := #[ed_ 5, ec_ 7, ep_ 0, ep_ 1, ep_ 2, ep_ 3, ep_ 4, ep_ 5, { on := 6, ground := Go.Ground.textOnly Go.Departure.lateStores }, ep_ 7], guard := none }
def o12_10_9 : Oper := { dst := some 17, op := Op.assign (Operand.tmp 76), type := 27, pos := "law.go:374", after := #[ed_ 6, ec_ 8, ep_ 0, ep_ 1, ep_ 2, ep_ 3, ep_ 4, ep_ 5, ep_ 6, ep_ 7, ep_ 8], guard := none }
def O12_10 : Array Oper := List.toArray (o12_10_0 :: o12_10_1 :: o12_10_2 :: o12_10_3 :: o12_10_4 :: o12_10_5 :: o12_10_6 :: o12_10_7 :: o12_10_8 :: o12_10_9 :: [])
theorem g12_10_0 : O12_10[0]? = some o12_10_0 := rfl
theorem g12_10_1 : O12_10[1]? = some o12_10_1 := rfl
theorem g12_10_2 : O12_10[2]? = some o12_10_2 := rfl
theorem g12_10_3 : O12_10[3]? = some o12_10_3 := rfl
theorem g12_10_4 : O12_10[4]? = some o12_10_4 := rfl
theorem g12_10_5 : O12_10[5]? = some o12_10_5 := rfl
theorem g12_10_6 : O12_10[6]? = some o12_10_6 := rfl
theorem g12_10_7 : O12_10[7]? = some o12_10_7 := rfl
theorem g12_10_8 : O12_10[8]? = some o12_10_8 := rfl
theorem g12_10_9 : O12_10[9]? = some o12_10_9 := rfl
theorem ns12_10 : Region.noSelect O12_10 = true := by kernel_rfl
def c12_29 : Code := Code.region 10 O12_10 true
def o12_11_0 : Oper := { dst := some 77, op := Op.move (Operand.tmp 12), type := 27, pos := "law.go:375", after := #[], guard := none }
def o12_11_1 : Oper := { dst := some 78, op := Op.binOp Go.BinOp.neq 27 (Operand.tmp 77) (Operand.const (Value.int IntKind.i64 0)) 27, type := 4, pos := "law.go:375", after := #[ed_ 0], guard := none }
def O12_11 : Array Oper := List.toArray (o12_11_0 :: o12_11_1 :: [])
theorem g12_11_0 : O12_11[0]? = some o12_11_0 := rfl
theorem g12_11_1 : O12_11[1]? = some o12_11_1 := rfl
def c12_32 : Code := Code.region 11 O12_11 false
def o12_12_0 : Oper := { dst := some 79, op := Op.move (Operand.tmp 12), type := 27, pos := "law.go:376", after := #[], guard := none }
def o12_12_1 : Oper := { dst := some 80, op := Op.binOp Go.BinOp.eql 27 (Operand.tmp 79) (Operand.const (Value.int IntKind.i64 70)) 27, type := 4, pos := "law.go:376", after := #[ed_ 0], guard := none }
def o12_12_2 : Oper := { dst := some 4, op := Op.assign (Operand.tmp 80), type := 4, pos := "law.go:376", after := #[ed_ 1, ep_ 0, ep_ 1], guard := none }
def O12_12 : Array Oper := List.toArray (o12_12_0 :: o12_12_1 :: o12_12_2 :: [])
theorem g12_12_0 : O12_12[0]? = some o12_12_0 := rfl
theorem g12_12_1 : O12_12[1]? = some o12_12_1 := rfl
theorem g12_12_2 : O12_12[2]? = some o12_12_2 := rfl
def c12_35 : Code := Code.region 12 O12_12 false
def c12_34 : Code := Code.seq c12_35 Code.ret
def c12_33 : Code := Code.cond (Operand.tmp 78) c12_34 Code.skip
def c12_31 : Code := Code.seq c12_32 c12_33
def o12_13_0 : Oper := { dst := some 82, op := Op.load 24 (Operand.tmp 2), type := 24, pos := "law.go:378", after := #[], guard := none }
def o12_13_1 : Oper := { dst := some 83, op := Op.call { callee := Callee.value (Operand.func 32), args := #[Operand.tmp 82, Operand.const (Value.int IntKind.i64 1)], argTypes := #[24, 2] }, type := 45, pos := "law.go:378", after := #[ed_ 0], guard := none }
def o12_13_2 : Oper := { dst := some 81, op := Op.move (Operand.tmp 83), type := 45, pos := "law.go:378", after := #[ed_ 1], guard := none }
def o12_13_3 : Oper := { dst := some 84, op := Op.extract (Operand.tmp 81) 0, type := 24, pos := "law.go:378", after := #[ed_ 2], guard := none }
def o12_13_4 : Oper := { dst := some 85, op := Op.extract (Operand.tmp 81) 1, type := 2, pos := "law.go:378", after := #[ed_ 2, { on := 7, ground := Go.Ground.gcOnly Go.Departure.lateStores }], guard := none }
def o12_13_5 : Oper := { dst := some 86, op := Op.extract (Operand.tmp 81) 2, type := 27, pos := "law.go:378", after := #[ed_ 2, { on := 8, ground := Go.Ground.gcOnly Go.Departure.lateStores }], guard := none }
def o12_13_6 : Oper := { dst := some 18, op := Op.alloc 24, type := 0, pos := "law.go:378", after := #[], guard := none }
def o12_13_7 : Oper := { dst := none, op := Op.store 24 (Operand.tmp 18) (Operand.tmp 84), type := 0, pos := "law.go:378", after := #[ed_ 6, ed_ 3, ec_ 1, ep_ 0, ep_ 1, ep_ 2, ep_ 3, { on := 4, ground := Go.Ground.textOnly Go.Departure.lateStores }, { on := 5, ground := Go.Ground.textOnly Go.Departure.lateStores }, ep_ 6], guard := none }
def o12_13_8 : Oper := { dst := some 19, op := Op.assign (Operand.tmp 85), type := 2, pos := "law.go:378", after := #[ed_ 4, ec_ 7, ep_ 0, ep_ 1, ep_ 2, ep_ 3, ep_ 4, { on := 5, ground := Go.Ground.textOnly Go.Departure.lateStores }, ep_ 6, ep_ 7], guard := none }
def o12_13_9 : Oper := { dst := some 20, op := Op.assign (Operand.tmp 86), type := 27, pos := "law.go:378", after := #[ed_ 5, ec_ 8, ep_ 0, ep_ 1, ep_ 2, ep_ 3, ep_ 4, ep_ 5, ep_ 6, ep_ 7, ep_ 8], guard := none }
def O12_13 : Array Oper := List.toArray (o12_13_0 :: o12_13_1 :: o12_13_2 :: o12_13_3 :: o12_13_4 :: o12_13_5 :: o12_13_6 :: o12_13_7 :: o12_13_8 :: o12_13_9 :: [])
theorem g12_13_0 : O12_13[0]? = some o12_13_0 := rfl
theorem g12_13_1 : O12_13[1]? = some o12_13_1 := rfl
theorem g12_13_2 : O12_13[2]? = some o12_13_2 := rfl
theorem g12_13_3 : O12_13[3]? = some o12_13_3 := rfl
theorem g12_13_4 : O12_13[4]? = some o12_13_4 := rfl
theorem g12_13_5 : O12_13[5]? = some o12_13_5 := rfl
theorem g12_13_6 : O12_13[6]? = some o12_13_6 := rfl
theorem g12_13_7 : O12_13[7]? = some o12_13_7 := rfl
theorem g12_13_8 : O12_13[8]? = some o12_13_8 := rfl
theorem g12_13_9 : O12_13[9]? = some o12_13_9 := rfl
def c12_39 : Code := Code.region 13 O12_13 false
def o12_14_0 : Oper := { dst := some 87, op := Op.load 24 (Operand.tmp 6), type := 24, pos := "law.go:379", after := #[], guard := none }
def o12_14_1 : Oper := { dst := some 88, op := Op.call { callee := Callee.value (Operand.func 45), args := #[Operand.tmp 87], argTypes := #[24] }, type := 0, pos := "law.go:379", after := #[ed_ 0], guard := none }
def O12_14 : Array Oper := List.toArray (o12_14_0 :: o12_14_1 :: [])
theorem g12_14_0 : O12_14[0]? = some o12_14_0 := rfl
theorem g12_14_1 : O12_14[1]? = some o12_14_1 := rfl
def c12_41 : Code := Code.region 14 O12_14 false
def o12_15_0 : Oper := { dst := some 89, op := Op.load 24 (Operand.tmp 8), type := 24, pos := "law.go:380", after := #[], guard := none }
def o12_15_1 : Oper := { dst := some 90, op := Op.call { callee := Callee.value (Operand.func 45), args := #[Operand.tmp 89], argTypes := #[24] }, type := 0, pos := "law.go:380", after := #[ed_ 0], guard := none }
def O12_15 : Array Oper := List.toArray (o12_15_0 :: o12_15_1 :: [])
theorem g12_15_0 : O12_15[0]? = some o12_15_0 := rfl
theorem g12_15_1 : O12_15[1]? = some o12_15_1 := rfl
def c12_43 : Code := Code.region 15 O12_15 false
def o12_16_0 : Oper := { dst := some 91, op := Op.load 24 (Operand.tmp 11), type := 24, pos := "law.go:381", after := #[], guard := none }
def o12_16_1 : Oper := { dst := some 92, op := Op.call { callee := Callee.value (Operand.func 45), args := #[Operand.tmp 91], argTypes := #[24] }, type := 0, pos := "law.go:381", after := #[ed_ 0], guard := none }
def O12_16 : Array Oper := List.toArray (o12_16_0 :: o12_16_1 :: [])
theorem g12_16_0 : O12_16[0]? = some o12_16_0 := rfl
theorem g12_16_1 : O12_16[1]? = some o12_16_1 := rfl
def c12_45 : Code := Code.region 16 O12_16 false
def o12_17_0 : Oper := { dst := some 93, op := Op.move (Operand.tmp 13), type := 22, pos := "law.go:382", after := #[], guard := none }
def o12_17_1 : Oper := { dst := some 94, op := Op.call { callee := Callee.builtin Go.Builtin.len, args := #[Operand.tmp 93], argTypes := #[22] }, type := 3, pos := "law.go:382", after := #[ed_ 0], guard := none }
def o12_17_2 : Oper := { dst := some 95, op := Op.move (Operand.const (Value.int IntKind.i64 0)), type := 3, pos := "law.go:382", after := #[], guard := none }
def O12_17 : Array Oper := List.toArray (o12_17_0 :: o12_17_1 :: o12_17_2 :: [])
theorem g12_17_0 : O12_17[0]? = some o12_17_0 := rfl
theorem g12_17_1 : O12_17[1]? = some o12_17_1 := rfl
theorem g12_17_2 : O12_17[2]? = some o12_17_2 := rfl
def c12_48 : Code := Code.region 17 O12_17 false
def o12_18_0 : Oper := { dst := some 96, op := Op.binOp Go.BinOp.lss 3 (Operand.tmp 95) (Operand.tmp 94) 3, type := 0, pos := "law.go:382", after := #[], guard := none }
def O12_18 : Array Oper := List.toArray (o12_18_0 :: [])
theorem g12_18_0 : O12_18[0]? = some o12_18_0 := rfl
def c12_52 : Code := Code.region 18 O12_18 false
def c12_56 : Code := Code.exit 0
def c12_54 : Code := Code.cond (Operand.tmp 96) Code.skip c12_56
def o12_19_0 : Oper := { dst := some 97, op := Op.indexAddr 22 (Operand.tmp 93) (Operand.tmp 95), type := 0, pos := "law.go:382", after := #[], guard := none }
def o12_19_1 : Oper := { dst := some 98, op := Op.load 24 (Operand.tmp 97), type := 24, pos := "law.go:382", after := #[ed_ 0], guard := none }
def o12_19_2 : Oper := { dst := some 22, op := Op.alloc 24, type := 0, pos := "law.go:382", after := #[], guard := none }
def o12_19_3 : Oper := { dst := none, op := Op.store 24 (Operand.tmp 22) (Operand.tmp 98), type := 0, pos := "law.go:382", after := #[ed_ 2, ed_ 1, ep_ 0, ep_ 1, ep_ 2], guard := none }
def O12_19 : Array Oper := List.toArray (o12_19_0 :: o12_19_1 :: o12_19_2 :: o12_19_3 :: [])
theorem g12_19_0 : O12_19[0]? = some o12_19_0 := rfl
theorem g12_19_1 : O12_19[1]? = some o12_19_1 := rfl
theorem g12_19_2 : O12_19[2]? = some o12_19_2 := rfl
theorem g12_19_3 : O12_19[3]? = some o12_19_3 := rfl
def c12_60 : Code := Code.region 19 O12_19 false
def o12_20_0 : Oper := { dst := some 99, op := Op.load 24 (Operand.tmp 22), type := 24, pos := "law.go:383", after := #[], guard := none }
def o12_20_1 : Oper := { dst := some 100, op := Op.call { callee := Callee.value (Operand.func 45), args := #[Operand.tmp 99], argTypes := #[24] }, type := 0, pos := "law.go:383", after := #[ed_ 0], guard := none }
def O12_20 : Array Oper := List.toArray (o12_20_0 :: o12_20_1 :: [])
theorem g12_20_0 : O12_20[0]? = some o12_20_0 := rfl
theorem g12_20_1 : O12_20[1]? = some o12_20_1 := rfl
def c12_61 : Code := Code.region 20 O12_20 false
def c12_59 : Code := Code.seq c12_60 c12_61
def c12_58 : Code := Code.block 1 c12_59
def o12_21_0 : Oper := { dst := some 101, op := Op.binOp Go.BinOp.add 3 (Operand.tmp 95) (Operand.const (Value.int IntKind.i64 1)) 3, type := 3, pos := "law.go:382", after := #[], guard := none }
def o12_21_1 : Oper := { dst := some 95, op := Op.move (Operand.tmp 101), type := 3, pos := "law.go:382", after := #[ed_ 0], guard := none }
def O12_21 : Array Oper := List.toArray (o12_21_0 :: o12_21_1 :: [])
theorem g12_21_0 : O12_21[0]? = some o12_21_0 := rfl
theorem g12_21_1 : O12_21[1]? = some o12_21_1 := rfl
def c12_62 : Code := Code.region 21 O12_21 false
def c12_57 : Code := Code.seq c12_58 c12_62
def c12_53 : Code := Code.seq c12_54 c12_57
def c12_51 : Code := Code.seq c12_52 c12_53
def c12_50 : Code := Code.loop c12_51
def c12_49 : Code := Code.block 0 c12_50
def c12_47 : Code := Code.seq c12_48 c12_49
def o12_22_0 : Oper := { dst := some 102, op := Op.load 24 (Operand.tmp 14), type := 24, pos := "law.go:385", after := #[], guard := none }
def o12_22_1 : Oper := { dst := some 103, op := Op.call { callee := Callee.value (Operand.func 45), args := #[Operand.tmp 102], argTypes := #[24] }, type := 0, pos := "law.go:385", after := #[ed_ 0], guard := none }
def O12_22 : Array Oper := List.toArray (o12_22_0 :: o12_22_1 :: [])
theorem g12_22_0 : O12_22[0]? = some o12_22_0 := rfl
theorem g12_22_1 : O12_22[1]? = some o12_22_1 := rfl
def c12_64 : Code := Code.region 22 O12_22 false
def o12_23_0 : Oper := { dst := some 104, op := Op.move (Operand.tmp 15), type := 36, pos := "law.go:386", after := #[], guard := none }
def o12_23_1 : Oper := { dst := some 105, op := Op.call { callee := Callee.builtin Go.Builtin.len, args := #[Operand.tmp 104], argTypes := #[36] }, type := 3, pos := "law.go:386", after := #[ed_ 0], guard := none }
def o12_23_2 : Oper := { dst := some 106, op := Op.move (Operand.const (Value.int IntKind.i64 0)), type := 3, pos := "law.go:386", after := #[], guard := none }
def O12_23 : Array Oper := List.toArray (o12_23_0 :: o12_23_1 :: o12_23_2 :: [])
theorem g12_23_0 : O12_23[0]? = some o12_23_0 := rfl
theorem g12_23_1 : O12_23[1]? = some o12_23_1 := rfl
theorem g12_23_2 : O12_23[2]? = some o12_23_2 := rfl
def c12_67 : Code := Code.region 23 O12_23 false
def o12_24_0 : Oper := { dst := some 107, op := Op.binOp Go.BinOp.lss 3 (Operand.tmp 106) (Operand.tmp 105) 3, type := 0, pos := "law.go:386", after := #[], guard := none }
def O12_24 : Array Oper := List.toArray (o12_24_0 :: [])
theorem g12_24_0 : O12_24[0]? = some o12_24_0 := rfl
def c12_71 : Code := Code.region 24 O12_24 false
def c12_75 : Code := Code.exit 2
def c12_73 : Code := Code.cond (Operand.tmp 107) Code.skip c12_75
def o12_25_0 : Oper := { dst := some 108, op := Op.indexAddr 36 (Operand.tmp 104) (Operand.tmp 106), type := 0, pos := "law.go:386", after := #[], guard := none }
def o12_25_1 : Oper := { dst := some 109, op := Op.load 41 (Operand.tmp 108), type := 41, pos := "law.go:386", after := #[ed_ 0], guard := none }
def o12_25_2 : Oper := { dst := some 24, op := Op.alloc 41, type := 0, pos := "law.go:386", after := #[], guard := none }
def o12_25_3 : Oper := { dst := none, op := Op.store 41 (Operand.tmp 24) (Operand.tmp 109), type := 0, pos := "law.go:386", after := #[ed_ 2, ed_ 1, ep_ 0, ep_ 1, ep_ 2], guard := none }
def O12_25 : Array Oper := List.toArray (o12_25_0 :: o12_25_1 :: o12_25_2 :: o12_25_3 :: [])
theorem g12_25_0 : O12_25[0]? = some o12_25_0 := rfl
theorem g12_25_1 : O12_25[1]? = some o12_25_1 := rfl
theorem g12_25_2 : O12_25[2]? = some o12_25_2 := rfl
theorem g12_25_3 : O12_25[3]? = some o12_25_3 := rfl
def c12_79 : Code := Code.region 25 O12_25 false
def o12_26_0 : Oper := { dst := some 110, op := Op.fieldAddr 41 (Operand.tmp 24) 1, type := 0, pos := "law.go:387", after := #[], guard := none }
def o12_26_1 : Oper := { dst := some 111, op := Op.load 24 (Operand.tmp 110), type := 24, pos := "law.go:387", after := #[ed_ 0], guard := none }
def o12_26_2 : Oper := { dst := some 112, op := Op.call { callee := Callee.value (Operand.func 45), args := #[Operand.tmp 111], argTypes := #[24] }, type := 0, pos := "law.go:387", after := #[ed_ 1], guard := none }
def O12_26 : Array Oper := List.toArray (o12_26_0 :: o12_26_1 :: o12_26_2 :: [])
theorem g12_26_0 : O12_26[0]? = some o12_26_0 := rfl
theorem g12_26_1 : O12_26[1]? = some o12_26_1 := rfl
theorem g12_26_2 : O12_26[2]? = some o12_26_2 := rfl
def c12_80 : Code := Code.region 26 O12_26 false
def c12_78 : Code := Code.seq c12_79 c12_80
def c12_77 : Code := Code.block 3 c12_78
def o12_27_0 : Oper := { dst := some 113, op := Op.binOp Go.BinOp.add 3 (Operand.tmp 106) (Operand.const (Value.int IntKind.i64 1)) 3, type := 3, pos := "law.go:386", after := #[], guard := none }
def o12_27_1 : Oper := { dst := some 106, op := Op.move (Operand.tmp 113), type := 3, pos := "law.go:386", after := #[ed_ 0], guard := none }
def O12_27 : Array Oper := List.toArray (o12_27_0 :: o12_27_1 :: [])
theorem g12_27_0 : O12_27[0]? = some o12_27_0 := rfl
theorem g12_27_1 : O12_27[1]? = some o12_27_1 := rfl
def c12_81 : Code := Code.region 27 O12_27 false
def c12_76 : Code := Code.seq c12_77 c12_81
def c12_72 : Code := Code.seq c12_73 c12_76
def c12_70 : Code := Code.seq c12_71 c12_72
def c12_69 : Code := Code.loop c12_70
def c12_68 : Code := Code.block 2 c12_69
def c12_66 : Code := Code.seq c12_67 c12_68
def o12_28_0 : Oper := { dst := some 115, op := Op.load 24 (Operand.tmp 2), type := 24, pos := "law.go:389", after := #[], guard := none }
def o12_28_1 : Oper := { dst := some 116, op := Op.call { callee := Callee.value (Operand.func 32), args := #[Operand.tmp 115, Operand.const (Value.int IntKind.i64 1)], argTypes := #[24, 2] }, type := 45, pos := "law.go:389", after := #[ed_ 0], guard := none }
def o12_28_2 : Oper := { dst := some 114, op := Op.move (Operand.tmp 116), type := 45, pos := "law.go:389", after := #[ed_ 1], guard := none }
def o12_28_3 : Oper := { dst := some 117, op := Op.extract (Operand.tmp 114) 0, type := 24, pos := "law.go:389", after := #[ed_ 2], guard := none }
def o12_28_4 : Oper := { dst := some 118, op := Op.extract (Operand.tmp 114) 1, type := 2, pos := "law.go:389", after := #[ed_ 2, { on := 7, ground := Go.Ground.gcOnly Go.Departure.lateStores }], guard := none }
def o12_28_5 : Oper := { dst := some 119, op := Op.extract (Operand.tmp 114) 2, type := 27, pos := "law.go:389", after := #[ed_ 2, { on := 8, ground := Go.Ground.gcOnly Go.Departure.lateStores }], guard := none }
def o12_28_6 : Oper := { dst := some 25, op := Op.alloc 24, type := 0, pos := "law.go:389", after := #[], guard := none }
def o12_28_7 : Oper := { dst := none, op := Op.store 24 (Operand.tmp 25) (Operand.tmp 117), type := 0, pos := "law.go:389", after := #[ed_ 6, ed_ 3, ec_ 1, ep_ 0, ep_ 1, ep_ 2, ep_ 3, { on := 4, ground := Go.Ground.textOnly Go.Departure.lateStores }, { on := 5, ground := Go.Ground.textOnly Go.Departure.lateStores }, ep_ 6], guard := none }
def o12_28_8 : Oper := { dst := some 26, op := Op.assign (Operand.tmp 118), type := 2, pos := "law.go:389", after := #[ed_ 4, ec_ 7, ep_ 0, ep_ 1, ep_ 2, ep_ 3, ep_ 4, { on := 5, ground := Go.Ground.textOnly Go.Departure.lateStores }, ep_ 6, ep_ 7], guard := none }
def o12_28_9 : Oper := { dst := some 27, op := Op.assign (Operand.tmp 119), type := 27, pos := "law.go:389", after := #[ed_ 5, ec_ 8, ep_ 0, ep_ 1, ep_ 2, ep_ 3, ep_ 4, ep_ 5, ep_ 6, ep_ 7, ep_ 8], guard := none }
def O12_28 : Array Oper := List.toArray (o12_28_0 :: o12_28_1 :: o12_28_2 :: o12_28_3 :: o12_28_4 :: o12_28_5 :: o12_28_6 :: o12_28_7 :: o12_28_8 :: o12_28_9 :: [])
theorem g12_28_0 : O12_28[0]? = some o12_28_0 := rfl
theorem g12_28_1 : O12_28[1]? = some o12_28_1 := rfl
theorem g12_28_2 : O12_28[2]? = some o12_28_2 := rfl
theorem g12_28_3 : O12_28[3]? = some o12_28_3 := rfl
theorem g12_28_4 : O12_28[4]? = some o12_28_4 := rfl
theorem g12_28_5 : O12_28[5]? = some o12_28_5 := rfl
theorem g12_28_6 : O12_28[6]? = some o12_28_6 := rfl
theorem g12_28_7 : O12_28[7]? = some o12_28_7 := rfl
theorem g12_28_8 : O12_28[8]? = some o12_28_8 := rfl
theorem g12_28_9 : O12_28[9]? = some o12_28_9 := rfl
def c12_83 : Code := Code.region 28 O12_28 false
def o12_29_0 : Oper := { dst := some 120, op := Op.load 24 (Operand.tmp 2), type := 24, pos := "law.go:390", after := #[], guard := none }
def o12_29_1 : Oper := { dst := some 121, op := Op.load 24 (Operand.tmp 5), type := 24, pos := "law.go:390", after := #[], guard := none }
def o12_29_2 : Oper := { dst := some 122, op := Op.call { callee := Callee.value (Operand.func 38), args := #[Operand.tmp 120, Operand.tmp 121], argTypes := #[24, 24] }, type := 4, pos := "law.go:390", after := #[ed_ 0, ed_ 1], guard := none }
def o12_29_3 : Oper := { dst := some 123, op := Op.move (Operand.tmp 122), type := 4, pos := "law.go:390", after := #[ed_ 2, ec_ 2], guard := none }
def o12_29_4 : Oper := { dst := some 124, op := Op.load 24 (Operand.tmp 25), type := 24, pos := "law.go:390", after := #[eg_ 3], guard := some (3, true) }
def o12_29_5 : Oper := { dst := some 125, op := Op.load 24 (Operand.tmp 18), type := 24, pos := "law.go:390", after := #[eg_ 3], guard := some (3, true) }
def o12_29_6 : Oper := { dst := some 126, op := Op.call { callee := Callee.value (Operand.func 38), args := #[Operand.tmp 124, Operand.tmp 125], argTypes := #[24, 24] }, type := 4, pos := "law.go:390", after := #[ed_ 4, ed_ 5, ec_ 3, eg_ 3], guard := some (3, true) }
def o12_29_7 : Oper := { dst := some 127, op := Op.pick (Operand.tmp 123) (Operand.tmp 126) (Operand.const (Value.bool false)), type := 4, pos := "law.go:390", after := #[ed_ 3, ed_ 6], guard := none }
def o12_29_8 : Oper := { dst := some 4, op := Op.assign (Operand.tmp 127), type := 4, pos := "law.go:390", after := #[ed_ 7, ec_ 6, ep_ 0, ep_ 1, ep_ 2, ep_ 3, ep_ 4, ep_ 5, ep_ 6, ep_ 7], guard := none }
def O12_29 : Array Oper := List.toArray (o12_29_0 :: o12_29_1 :: o12_29_2 :: o12_29_3 :: o12_29_4 :: o12_29_5 :: o12_29_6 :: o12_29_7 :: o12_29_8 :: [])
theorem g12_29_0 : O12_29[0]? = some o12_29_0 := rfl
theorem g12_29_1 : O12_29[1]? = some o12_29_1 := rfl
theorem g12_29_2 : O12_29[2]? = some o12_29_2 := rfl
theorem g12_29_3 : O12_29[3]? = some o12_29_3 := rfl
theorem g12_29_4 : O12_29[4]? = some o12_29_4 := rfl
theorem g12_29_5 : O12_29[5]? = some o12_29_5 := rfl
theorem g12_29_6 : O12_29[6]? = some o12_29_6 := rfl
theorem g12_29_7 : O12_29[7]? = some o12_29_7 := rfl
theorem g12_29_8 : O12_29[8]? = some o12_29_8 := rfl
def c12_85 : Code := Code.region 29 O12_29 false
def c12_84 : Code := Code.seq c12_85 Code.ret
def c12_82 : Code := Code.seq c12_83 c12_84
def c12_65 : Code := Code.seq c12_66 c12_82
def c12_63 : Code := Code.seq c12_64 c12_65
def c12_46 : Code := Code.seq c12_47 c12_63
def c12_44 : Code := Code.seq c12_45 c12_46
def c12_42 : Code := Code.seq c12_43 c12_44
def c12_40 : Code := Code.seq c12_41 c12_42
def c12_38 : Code := Code.seq c12_39 c12_40
def c12_30 : Code := Code.seq c12_31 c12_38
def c12_28 : Code := Code.seq c12_29 c12_30
def c12_26 : Code := Code.seq c12_27 c12_28
def c12_24 : Code := Code.seq c12_25 c12_26
def c12_22 : Code := Code.seq c12_23 c12_24
def c12_20 : Code := Code.seq c12_21 c12_22
def c12_18 : Code := Code.seq c12_19 c12_20
def c12_10 : Code := Code.seq c12_11 c12_18
def c12_2 : Code := Code.seq c12_3 c12_10
def c12_0 : Code := Code.seq c12_1 c12_2
theorem en12_13 : Enters Try.prog 13 := enters_of Try.func13 (by kernel_rfl) rfl
theorem en12_14 : Enters Try.prog 14 := enters_of Try.func14 (by kernel_rfl) rfl
theorem en12_28 : Enters Try.prog 28 := enters_of Try.func28 (by kernel_rfl) rfl
theorem en12_30 : Enters Try.prog 30 := enters_of Try.func30 (by kernel_rfl) rfl
theorem en12_32 : Enters Try.prog 32 := enters_of Try.func32 (by kernel_rfl) rfl
theorem en12_33 : Enters Try.prog 33 := enters_of Try.func33 (by kernel_rfl) rfl
theorem en12_34 : Enters Try.prog 34 := enters_of Try.func34 (by kernel_rfl) rfl
theorem en12_38 : Enters Try.prog 38 := enters_of Try.func38 (by kernel_rfl) rfl
theorem en12_39 : Enters Try.prog 39 := enters_of Try.func39 (by kernel_rfl) rfl
theorem en12_41 : Enters Try.prog 41 := enters_of Try.func41 (by kernel_rfl) rfl
theorem en12_44 : Enters Try.prog 44 := enters_of Try.func44 (by kernel_rfl) rfl
theorem en12_45 : Enters Try.prog 45 := enters_of Try.func45 (by kernel_rfl) rfl
theorem body12 : Try.f12.body = some c12_0 := by kernel_rfl

set_option maxRecDepth 100000 in
set_option maxHeartbeats 4000000 in
theorem keeps_w {W : World} {t : Tm} {ta sa : Option Addr} {tc bl sc : Nat} {f0 : Act} {w0 : World} (R : FrS 128 f0) (h0 : f0.tmps[0]? = some (.agg #[.int .i64 t.k, .string (str t.nm), .int .i64 t.i, .slice ta t.args.length tc])) (h1 : f0.tmps[1]? = some (.slice sa bl sc)) (K1 : Keep (fun g => g < W.heap.size) W w0)  (HT : Hid (TmAt W.heap.size W t ta tc)) : c12_0.wp Try.prog (bodyPost Try.prog Try.f12 (fun e w' => e = .returned (.bool true) ∧ Keep (fun g => g < W.heap.size) W w')) f0 w0 := by
  refine wp_seq (x := c12_1) (y := c12_2) ?_
  change (Code.region 0 O12_0 false).wp _ _ _ _
  refine reg_in (l := [0, 1]) rfl ?_
  have E := Ag_.refl f0
  have Y : (execOp f0.eval o12_0_0).run Try.prog w0 = .ok (.value (.pointer (some ⟨w0.heap.size, 0, none⟩))) (w0.alloc (.cells #[.int .i64 t.k, .string (str t.nm), .int .i64 t.i, .slice ta t.args.length tc] 24)) := by have r0 := E.of h0; unfold o12_0_0; go_simp
  have B1 := Blk.new w0 24 #[.int .i64 t.k, .string (str t.nm), .int .i64 t.i, .slice ta t.args.length tc]
  obtain ⟨w2, hw⟩ : ∃ x, x = w0.alloc (.cells #[.int .i64 t.k, .string (str t.nm), .int .i64 t.i, .slice ta t.args.length tc] 24) := ⟨_, rfl⟩; rw [← hw] at Y B1
  obtain ⟨b1, hb⟩ : ∃ x, x = w0.heap.size := ⟨_, rfl⟩; rw [← hb] at Y B1
  have LK1_b1 := lk_ hb K1; replace K1 := ka_ hw K1; clear hw hb
  refine st_val g12_0_0 rfl (wanted_free rfl) Y fun a3 e => ?_; clear Y
  have g2 := R.at_ e (by decide); replace R := R.put e; replace E := E.put e; have h2 := g2; clear g2; clear e
  have Y : (execOp a3.eval o12_0_1).run Try.prog w2 = .ok (.value (.bool false)) w2 := by unfold o12_0_1; go_simp
  refine st_val g12_0_1 rfl (wanted_free rfl) Y fun a4 e => ?_; clear Y
  have g4 := R.at_ e (by decide); replace R := R.put e; replace E := E.put e; replace h2 := so_ e h2; have h4 := g4; clear g4; clear e
  refine st_end ?_
  clear h0; replace h1 := E.of h1; clear E
  change (c12_2).wp _ _ _ _
  refine wp_seq (x := c12_3) (y := c12_10) ?_
  refine wp_seq (x := c12_4) (y := c12_5) ?_
  change (Code.region 1 O12_1 false).wp _ _ _ _
  refine reg_in (l := [0, 1]) rfl ?_
  have E := Ag_.refl a4
  have Y : (execOp a4.eval o12_1_0).run Try.prog w2 = .ok (.enter 13 #[]) w2 := by unfold o12_1_0; go_simp
  refine st_call g12_1_0 rfl (wanted_free rfl) Y ((alive_any (w := w2)).mono ?_); clear Y
  rintro e9 w5 ⟨rfl, kk⟩
  replace K1 := keep_onto K1 kk
  replace B1 := blk_on B1 kk
  clear kk
  refine ⟨_, rfl, fun a6 e => ?_⟩
  have g28 := R.at_ e (by decide); replace R := R.put e; replace E := E.put e; have h28 := g28; clear g28; clear e
  have Y : (execOp a6.eval o12_1_1).run Try.prog w5 = .ok (.value (.bool false)) w5 := by unfold o12_1_1; go_simp
  refine st_val g12_1_1 rfl (wanted_free rfl) Y fun a7 e => ?_; clear Y
  have g29 := R.at_ e (by decide); replace R := R.put e; replace E := E.put e; clear h28; have h29 := g29; clear g29; clear e
  refine st_end ?_
  replace h1 := E.of h1; replace h2 := E.of h2; replace h4 := E.of h4; clear E
  change (c12_5).wp _ _ _ _
  refine wp_cond_false (x := c12_6) (y := Code.skip) (eval_slot h29) ?_
  refine wp_skip ?_
  change (c12_10).wp _ _ _ _
  refine wp_seq (x := c12_11) (y := c12_18) ?_
  refine wp_seq (x := c12_12) (y := c12_13) ?_
  change (Code.region 3 O12_3 false).wp _ _ _ _
  refine reg_in (l := [0, 1, 2, 3, 4, 5, 6, 7, 8, 9, 10, 11, 12, 13]) rfl ?_
  have E := Ag_.refl a7
  refine st_val g12_3_0 rfl (wanted_free rfl) (yl4_ rfl (E.of h2) B1) fun a8 e => ?_
  have g30 := R.at_ e (by decide); replace R := R.put e; replace E := E.put e; have h30 := g30; clear g30; clear e
  have Y : (execOp a8.eval o12_3_1).run Try.prog w5 = .ok (.value (.slice (some ⟨w5.heap.size, 0, none⟩) 1 1)) (w5.alloc (.cells #[.int .i64 t.k, .string (str t.nm), .int .i64 t.i, .slice ta t.args.length tc] 24)) := by unfold o12_3_1; go_simp
  have B9 := Blk.new w5 24 #[.int .i64 t.k, .string (str t.nm), .int .i64 t.i, .slice ta t.args.length tc]
  obtain ⟨w10, hw⟩ : ∃ x, x = w5.alloc (.cells #[.int .i64 t.k, .string (str t.nm), .int .i64 t.i, .slice ta t.args.length tc] 24) := ⟨_, rfl⟩; rw [← hw] at Y B9
  obtain ⟨b9, hb⟩ : ∃ x, x = w5.heap.size := ⟨_, rfl⟩; rw [← hb] at Y B9
  have Nb1_b9 := nb_ hb B1; replace B1 := ba_ hw B1; have LK1_b9 := lk_ hb K1; replace K1 := ka_ hw K1; clear hw hb
  refine st_val g12_3_1 rfl (wanted_free rfl) Y fun a11 e => ?_; clear Y
  have g31 := R.at_ e (by decide); replace R := R.put e; replace E := E.put e; clear h30; have h31 := g31; clear g31; clear e
  obtain ⟨z, hz⟩ : ∃ q, decide (t.ns ≤ 100) = q := ⟨_, rfl⟩
  refine st_call g12_3_2 rfl (wanted_free rfl) (yc1_ en12_33 rfl h31) ((tame_one (HT.out.on K1) B9 hz).mono ?_)
  rintro e9 w12 ⟨rfl, kk⟩
  replace K1 := keep_onto K1 kk
  replace B1 := blk_on B1 kk
  replace B9 := blk_on B9 kk
  clear kk
  have HZ := Lib.hid hz; clear hz
  refine ⟨_, rfl, fun a13 e => ?_⟩
  have g32 := R.at_ e (by decide); replace R := R.put e; replace E := E.put e; clear h31; have h32 := g32; clear g32; clear e
  cases z with
  | false =>
    have Y : (execOp a13.eval o12_3_3).run Try.prog w12 = .ok (.value (.bool true)) w12 := by unfold o12_3_3; go_simp
    refine st_val g12_3_3 rfl (wanted_free rfl) Y fun a14 e => ?_; clear Y
    have g33 := R.at_ e (by decide); replace R := R.put e; replace E := E.put e; clear h32; have h33 := g33; clear g33; clear e
    refine st_val g12_3_4 rfl (wanted_free rfl) (ym_ rfl h33) fun a15 e => ?_
    have g34 := R.at_ e (by decide); replace R := R.put e; replace E := E.put e; clear h33; have h34 := g34; clear g34; clear e
    refine st_not g12_3_5 rfl (wanted_is (j := 4) (d := 34) rfl rfl h34 rfl) fun a16 e => ?_
    have g35 := R.at_ e (by decide); replace R := R.put e; replace E := E.put e; replace h34 := so_ e h34; have h35 := g35; clear g35; clear e
    refine st_not g12_3_6 rfl (wanted_is (j := 4) (d := 34) rfl rfl h34 rfl) fun a17 e => ?_
    have g36 := R.at_ e (by decide); replace R := R.put e; replace E := E.put e; replace h34 := so_ e h34; clear h35; have h36 := g36; clear g36; clear e
    refine st_not g12_3_7 rfl (wanted_is (j := 4) (d := 34) rfl rfl h34 rfl) fun a18 e => ?_
    have g37 := R.at_ e (by decide); replace R := R.put e; replace E := E.put e; replace h34 := so_ e h34; clear h36; have h37 := g37; clear g37; clear e
    have Y : (execOp a18.eval o12_3_8).run Try.prog w12 = .ok (.value (.bool true)) w12 := by unfold o12_3_8; go_simp
    refine st_val g12_3_8 rfl (wanted_free rfl) Y fun a19 e => ?_; clear Y
    have g38 := R.at_ e (by decide); replace R := R.put e; replace E := E.put e; clear h34 h37; have h38 := g38; clear g38; clear e
    refine st_val g12_3_9 rfl (wanted_free rfl) (ym_ rfl h38) fun a20 e => ?_
    have g39 := R.at_ e (by decide); replace R := R.put e; replace E := E.put e; clear h38; have h39 := g39; clear g39; clear e
    refine st_not g12_3_10 rfl (wanted_is (j := 9) (d := 39) rfl rfl h39 rfl) fun a21 e => ?_
    have g40 := R.at_ e (by decide); replace R := R.put e; replace E := E.put e; replace h39 := so_ e h39; have h40 := g40; clear g40; clear e
    refine st_not g12_3_11 rfl (wanted_is (j := 9) (d := 39) rfl rfl h39 rfl) fun a22 e => ?_
    have g41 := R.at_ e (by decide); replace R := R.put e; replace E := E.put e; replace h39 := so_ e h39; clear h40; have h41 := g41; clear g41; clear e
    refine st_not g12_3_12 rfl (wanted_is (j := 9) (d := 39) rfl rfl h39 rfl) fun a23 e => ?_
    have g42 := R.at_ e (by decide); replace R := R.put e; replace E := E.put e; replace h39 := so_ e h39; clear h41; have h42 := g42; clear g42; clear e
    have Y : (execOp a23.eval o12_3_13).run Try.prog w12 = .ok (.value (.bool true)) w12 := by unfold o12_3_13; go_simp
    refine st_val g12_3_13 rfl (wanted_free rfl) Y fun a24 e => ?_; clear Y
    have g43 := R.at_ e (by decide); replace R := R.put e; replace E := E.put e; clear h39 h42; have h43 := g43; clear g43; clear e
    refine st_end ?_
    clear h1; replace h2 := E.of h2; replace h4 := E.of h4; clear h29; clear E
    change (c12_13).wp _ _ _ _
    refine wp_cond_true (x := c12_14) (y := Code.skip) (eval_slot h43) ?_
    refine wp_seq (x := c12_15) (y := Code.ret) ?_
    change (Code.region 4 O12_4 false).wp _ _ _ _
    refine reg_in (l := [0]) rfl ?_
    have E := Ag_.refl a24
    have Y : (execOp a24.eval o12_4_0).run Try.prog w12 = .ok (.value (.bool true)) w12 := by unfold o12_4_0; go_simp
    refine st_val g12_4_0 rfl (wanted_free rfl) Y fun a25 e => ?_; clear Y
    have g4 := R.at_ e (by decide); replace R := R.put e; replace E := E.put e; clear h4; have h4 := g4; clear g4; clear e
    refine st_end ?_
    replace h2 := E.of h2; clear h43; clear E
    change (Code.ret).wp _ _ _ _
    refine wp_ret ?_
    change bodyPost Try.prog Try.f12 (fun e w' => e = .returned (.bool true) ∧ Keep (fun g => g < W.heap.size) W w') .ret a25 w12
    refine ret_one rfl R h4 ?_
    exact ⟨rfl, K1⟩
  | true =>
    have Y : (execOp a13.eval o12_3_3).run Try.prog w12 = .ok (.value (.bool false)) w12 := by unfold o12_3_3; go_simp
    refine st_val g12_3_3 rfl (wanted_free rfl) Y fun a26 e => ?_; clear Y
    have g33 := R.at_ e (by decide); replace R := R.put e; replace E := E.put e; clear h32; have h33 := g33; clear g33; clear e
    refine st_val g12_3_4 rfl (wanted_free rfl) (ym_ rfl h33) fun a27 e => ?_
    have g34 := R.at_ e (by decide); replace R := R.put e; replace E := E.put e; clear h33; have h34 := g34; clear g34; clear e
    refine st_val g12_3_5 rfl (wanted_is (j := 4) (d := 34) rfl rfl h34 rfl) (yl4_ rfl (E.of h2) B1) fun a28 e => ?_
    have g35 := R.at_ e (by decide); replace R := R.put e; replace E := E.put e; replace h34 := so_ e h34; have h35 := g35; clear g35; clear e
    have hcall := refRight_any (HT.out.on K1)
    obtain ⟨r, hr⟩ : ∃ q, t.right = q := ⟨_, rfl⟩
    rw [hr] at hcall; have HR := Lib.hid hr; clear hr
    refine st_call g12_3_6 rfl (wanted_is (j := 4) (d := 34) rfl rfl h34 rfl) (yc1_ en12_14 rfl h35) ((hcall).mono ?_)
    rintro e9 w29 ⟨rfl, kk⟩
    replace K1 := keep_onto K1 kk
    replace B1 := blk_on B1 kk
    replace B9 := blk_on B9 kk
    clear kk
    clear hcall
    refine ⟨_, rfl, fun a30 e => ?_⟩
    have g36 := R.at_ e (by decide); replace R := R.put e; replace E := E.put e; replace h34 := so_ e h34; clear h35; have h36 := g36; clear g36; clear e
    cases r with
    | false =>
      have Y : (execOp a30.eval o12_3_7).run Try.prog w29 = .ok (.value (.bool true)) w29 := by unfold o12_3_7; go_simp
      refine st_val g12_3_7 rfl (wanted_is (j := 4) (d := 34) rfl rfl h34 rfl) Y fun a31 e => ?_; clear Y
      have g37 := R.at_ e (by decide); replace R := R.put e; replace E := E.put e; replace h34 := so_ e h34; clear h36; have h37 := g37; clear g37; clear e
      have Y : (execOp a31.eval o12_3_8).run Try.prog w29 = .ok (.value (.bool true)) w29 := by unfold o12_3_8; go_simp
      refine st_val g12_3_8 rfl (wanted_free rfl) Y fun a32 e => ?_; clear Y
      have g38 := R.at_ e (by decide); replace R := R.put e; replace E := E.put e; clear h34 h37; have h38 := g38; clear g38; clear e
      refine st_val g12_3_9 rfl (wanted_free rfl) (ym_ rfl h38) fun a33 e => ?_
      have g39 := R.at_ e (by decide); replace R := R.put e; replace E := E.put e; clear h38; have h39 := g39; clear g39; clear e
      refine st_not g12_3_10 rfl (wanted_is (j := 9) (d := 39) rfl rfl h39 rfl) fun a34 e => ?_
      have g40 := R.at_ e (by decide); replace R := R.put e; replace E := E.put e; replace h39 := so_ e h39; have h40 := g40; clear g40; clear e
      refine st_not g12_3_11 rfl (wanted_is (j := 9) (d := 39) rfl rfl h39 rfl) fun a35 e => ?_
      have g41 := R.at_ e (by decide); replace R := R.put e; replace E := E.put e; replace h39 := so_ e h39; clear h40; have h41 := g41; clear g41; clear e
      refine st_not g12_3_12 rfl (wanted_is (j := 9) (d := 39) rfl rfl h39 rfl) fun a36 e => ?_
      have g42 := R.at_ e (by decide); replace R := R.put e; replace E := E.put e; replace h39 := so_ e h39; clear h41; have h42 := g42; clear g42; clear e
      have Y : (execOp a36.eval o12_3_13).run Try.prog w29 = .ok (.value (.bool true)) w29 := by unfold o12_3_13; go_simp
      refine st_val g12_3_13 rfl (wanted_free rfl) Y fun a37 e => ?_; clear Y
      have g43 := R.at_ e (by decide); replace R := R.put e; replace E := E.put e; clear h39 h42; have h43 := g43; clear g43; clear e
      refine st_end ?_
      clear h1; replace h2 := E.of h2; replace h4 := E.of h4; clear h29; clear E
      change (c12_13).wp _ _ _ _
      refine wp_cond_true (x := c12_14) (y := Code.skip) (eval_slot h43) ?_
      refine wp_seq (x := c12_15) (y := Code.ret) ?_
      change (Code.region 4 O12_4 false).wp _ _ _ _
      refine reg_in (l := [0]) rfl ?_
      have E := Ag_.refl a37
      have Y : (execOp a37.eval o12_4_0).run Try.prog w29 = .ok (.value (.bool true)) w29 := by unfold o12_4_0; go_simp
      refine st_val g12_4_0 rfl (wanted_free rfl) Y fun a38 e => ?_; clear Y
      have g4 := R.at_ e (by decide); replace R := R.put e; replace E := E.put e; clear h4; have h4 := g4; clear g4; clear e
      refine st_end ?_
      replace h2 := E.of h2; clear h43; clear E
      change (Code.ret).wp _ _ _ _
      refine wp_ret ?_
      change bodyPost Try.prog Try.f12 (fun e w' => e = .returned (.bool true) ∧ Keep (fun g => g < W.heap.size) W w') .ret a38 w29
      refine ret_one rfl R h4 ?_
      exact ⟨rfl, K1⟩
    | true =>
      have Y : (execOp a30.eval o12_3_7).run Try.prog w29 = .ok (.value (.bool false)) w29 := by unfold o12_3_7; go_simp
      refine st_val g12_3_7 rfl (wanted_is (j := 4) (d := 34) rfl rfl h34 rfl) Y fun a39 e => ?_; clear Y
      have g37 := R.at_ e (by decide); replace R := R.put e; replace E := E.put e; replace h34 := so_ e h34; clear h36; have h37 := g37; clear g37; clear e
      have Y : (execOp a39.eval o12_3_8).run Try.prog w29 = .ok (.value (.bool false)) w29 := by unfold o12_3_8; go_simp
      refine st_val g12_3_8 rfl (wanted_free rfl) Y fun a40 e => ?_; clear Y
      have g38 := R.at_ e (by decide); replace R := R.put e; replace E := E.put e; clear h34 h37; have h38 := g38; clear g38; clear e
      refine st_val g12_3_9 rfl (wanted_free rfl) (ym_ rfl h38) fun a41 e => ?_
      have g39 := R.at_ e (by decide); replace R := R.put e; replace E := E.put e; clear h38; have h39 := g39; clear g39; clear e
      refine st_val g12_3_10 rfl (wanted_is (j := 9) (d := 39) rfl rfl h39 rfl) (ym_ rfl (E.of h1)) fun a42 e => ?_
      have g40 := R.at_ e (by decide); replace R := R.put e; replace E := E.put e; replace h39 := so_ e h39; have h40 := g40; clear g40; clear e
      have Y : (execOp a42.eval o12_3_11).run Try.prog w29 = .ok (.value (.int .i64 bl)) w29 := by unfold o12_3_11; go_simp
      refine st_val g12_3_11 rfl (wanted_is (j := 9) (d := 39) rfl rfl h39 rfl) Y fun a43 e => ?_; clear Y
      have g41 := R.at_ e (by decide); replace R := R.put e; replace E := E.put e; replace h39 := so_ e h39; clear h40; have h41 := g41; clear g41; clear e
      obtain ⟨b44, hb44⟩ : ∃ x, (decide ((20 : Int) < (bl : Int))) = x := ⟨_, rfl⟩
      have Y : (execOp a43.eval o12_3_12).run Try.prog w29 = .ok (.value (.bool b44)) w29 := by rw [← hb44]; unfold o12_3_12; go_simp
      refine st_val g12_3_12 rfl (wanted_is (j := 9) (d := 39) rfl rfl h39 rfl) Y fun a45 e => ?_; clear Y
      have g42 := R.at_ e (by decide); replace R := R.put e; replace E := E.put e; replace h39 := so_ e h39; clear h41; have h42 := g42; clear g42; clear e
      have Y : (execOp a45.eval o12_3_13).run Try.prog w29 = .ok (.value (.bool b44)) w29 := by unfold o12_3_13; go_simp
      refine st_val g12_3_13 rfl (wanted_free rfl) Y fun a46 e => ?_; clear Y
      have g43 := R.at_ e (by decide); replace R := R.put e; replace E := E.put e; clear h39 h42; have h43 := g43; clear g43; clear e
      refine st_end ?_
      clear h1; replace h2 := E.of h2; replace h4 := E.of h4; clear h29; clear E
      change (c12_13).wp _ _ _ _
      cases b44 with
      | false =>
        have fb44 := hb44; clear hb44
        simp only [decide_eq_true_eq, decide_eq_false_iff_not, bne_iff_ne, bne_eq_false_iff_eq, beq_iff_eq, beq_eq_false_iff_ne, ne_eq, Bool.not_eq_true', Bool.not_eq_false', Bool.not_eq_eq_eq_not, Bool.not_true, Bool.not_false] at fb44
        refine wp_cond_false (x := c12_14) (y := Code.skip) (eval_slot h43) ?_
        refine wp_skip ?_
        change (c12_18).wp _ _ _ _
        refine wp_seq (x := c12_19) (y := c12_20) ?_
        change (Code.region 5 O12_5 false).wp _ _ _ _
        refine reg_in (l := [0, 1, 2, 3]) rfl ?_
        have E := Ag_.refl a46
        refine st_val g12_5_0 rfl (wanted_free rfl) (yl4_ rfl (E.of h2) B1) fun a47 e => ?_
        have g44 := R.at_ e (by decide); replace R := R.put e; replace E := E.put e; have h44 := g44; clear g44; clear e
        have OK1_5 : W.heap.size ≤ w29.heap.size := K1.size
        have E5_b1 : b1 < w29.heap.size := B1.lt
        have E5_b9 : b9 < w29.heap.size := B9.lt
        have hcall := refCopy_any (HT.out.on K1) (right_of.1 HR.out).2.1
        refine st_call g12_5_1 rfl (wanted_free rfl) (yc1_ en12_34 rfl h44) ((hcall).mono ?_)
        rintro e9 w48 ⟨a5, c5, rfl, hf, kk⟩
        replace K1 := keep_onto K1 kk
        replace B1 := blk_on B1 kk
        replace B9 := blk_on B9 kk
        clear kk
        clear hcall
        have H5 := Lib.hid (hf.at_ (Nat.zero_le _)); clear hf
        have KA5 := Keep.refl (fun g => g < w48.heap.size) w48
        refine ⟨_, rfl, fun a49 e => ?_⟩
        have g45 := R.at_ e (by decide); replace R := R.put e; replace E := E.put e; clear h44; have h45 := g45; clear g45; clear e
        have Y : (execOp a49.eval o12_5_2).run Try.prog w48 = .ok (.value (.pointer (some ⟨w48.heap.size, 0, none⟩))) (w48.alloc (.cells #[.int .i64 0, .string (⟨#[]⟩), .int .i64 0, .slice none 0 0] 24)) := by unfold o12_5_2; go_simp
        have B50 := Blk.new w48 24 #[.int .i64 0, .string (⟨#[]⟩), .int .i64 0, .slice none 0 0]
        obtain ⟨w51, hw⟩ : ∃ x, x = w48.alloc (.cells #[.int .i64 0, .string (⟨#[]⟩), .int .i64 0, .slice none 0 0] 24) := ⟨_, rfl⟩; rw [← hw] at Y B50
        obtain ⟨b50, hb⟩ : ∃ x, x = w48.heap.size := ⟨_, rfl⟩; rw [← hb] at Y B50
        have Nb1_b50 := nb_ hb B1; replace B1 := ba_ hw B1; have Nb9_b50 := nb_ hb B9; replace B9 := ba_ hw B9; have LK1_b50 := lk_ hb K1; replace K1 := ka_ hw K1; have LKA5_b50 := lk_ hb KA5; replace KA5 := ka_ hw KA5; clear hw hb
        refine st_val g12_5_2 rfl (wanted_free rfl) Y fun a52 e => ?_; clear Y
        have g5 := R.at_ e (by decide); replace R := R.put e; replace E := E.put e; replace h45 := so_ e h45; have h5 := g5; clear g5; clear e
        have Y : (execOp a52.eval o12_5_3).run Try.prog w51 = .ok .skip ((((w51.setCell ⟨b50, 0, none⟩ (.int .i64 ((mapT cpL t).k))).setCell ⟨b50, 1, none⟩ (.string (str (mapT cpL t).nm))).setCell ⟨b50, 2, none⟩ (.int .i64 ((mapT cpL t).i))).setCell ⟨b50, 3, none⟩ (.slice a5 (mapT cpL t).args.length c5)) := by have qq0 : w51.cell? ⟨b50, 0, none⟩ = some (.int .i64 0) := B50.cell 0; have qq1 : w51.cell? ⟨b50, 1, none⟩ = some (.string (⟨#[]⟩)) := B50.cell 1; have qq2 : w51.cell? ⟨b50, 2, none⟩ = some (.int .i64 0) := B50.cell 2; have qq3 : w51.cell? ⟨b50, 3, none⟩ = some (.slice none 0 0) := B50.cell 3; have z0 := B50.frozen 0; have z1 := B50.frozen 1; have z2 := B50.frozen 2; have z3 := B50.frozen 3; unfold o12_5_3; go_simp
        obtain ⟨w53, hw⟩ : ∃ x, x = ((((w51.setCell ⟨b50, 0, none⟩ (.int .i64 ((mapT cpL t).k))).setCell ⟨b50, 1, none⟩ (.string (str (mapT cpL t).nm))).setCell ⟨b50, 2, none⟩ (.int .i64 ((mapT cpL t).i))).setCell ⟨b50, 3, none⟩ (.slice a5 (mapT cpL t).args.length c5)) := ⟨_, rfl⟩; rw [← hw] at Y
        have hk : Keep (fun g => g ≠ b50) w51 w53 := by rw [hw]; exact ((((Keep.refl _ _).setCell (fun h => h rfl) _).setCell (fun h => h rfl) _).setCell (fun h => h rfl) _).setCell (fun h => h rfl) _
        replace K1 := kx_ hk K1 (Nat.not_lt.2 LK1_b50); replace KA5 := kx_ hk KA5 (Nat.not_lt.2 LKA5_b50); replace B1 := bx_ hk B1 Nb1_b50; replace B9 := bx_ hk B9 Nb9_b50; replace B50 : Blk w53 b50 24 #[.int .i64 ((mapT cpL t).k), .string (str (mapT cpL t).nm), .int .i64 ((mapT cpL t).i), .slice a5 (mapT cpL t).args.length c5] := (by rw [hw]; exact ((((B50.set_ 0 _).set_ 1 _).set_ 2 _).set_ 3 _)); clear hw hk
        refine st_skip g12_5_3 rfl (wanted_free rfl) Y ?_; clear Y
        refine st_end ?_
        replace h2 := E.of h2; replace h4 := E.of h4; clear h43; clear h45; clear E
        change (c12_20).wp _ _ _ _
        refine wp_seq (x := c12_21) (y := c12_22) ?_
        change (Code.region 6 O12_6 false).wp _ _ _ _
        refine reg_in (l := [0, 1, 2, 3, 4, 5, 6, 7]) rfl ?_
        have E := Ag_.refl a52
        refine st_val g12_6_0 rfl (wanted_free rfl) (yl4_ rfl (E.of h2) B1) fun a54 e => ?_
        have g47 := R.at_ e (by decide); replace R := R.put e; replace E := E.put e; have h47 := g47; clear g47; clear e
        have Y : (execOp a54.eval o12_6_1).run Try.prog w53 = .ok (.enter 30 #[.agg #[.int .i64 t.k, .string (str t.nm), .int .i64 t.i, .slice ta t.args.length tc], Value.slice none 0 0]) w53 := by unfold o12_6_1; go_simp
        have OK1_6 : W.heap.size ≤ w53.heap.size := K1.size
        have OKA5_6 : w48.heap.size ≤ w53.heap.size := KA5.size
        have E6_b1 : b1 < w53.heap.size := B1.lt
        have E6_b9 : b9 < w53.heap.size := B9.lt
        have E6_b50 : b50 < w53.heap.size := B50.lt
        obtain ⟨xr, e6, hap⟩ : ∃ q e, apV t [] = (q, e) := ⟨_, _, rfl⟩
        have hcall := apply_fr (bs := []) (a := none) (cap := 0) (fun j p h => by simp at h) (HT.out.on K1) (by simp) (fun g off h => by cases h) hap; clear hap
        refine st_call g12_6_1 rfl (wanted_free rfl) Y ((hcall).mono ?_); clear Y
        rintro e9 w55 ⟨a6, c6, rfl, hf, kk⟩
        replace K1 := keep_onto K1 kk
        replace KA5 := keep_onto KA5 kk
        replace B1 := blk_on B1 kk
        replace B9 := blk_on B9 kk
        replace B50 := blk_on B50 kk
        clear kk
        clear hcall
        have H6 := Lib.hid hf; clear hf
        have KA6 := Keep.refl (fun g => w53.heap.size ≤ g ∧ g < w55.heap.size) w55
        refine ⟨_, rfl, fun a56 e => ?_⟩
        have g48 := R.at_ e (by decide); replace R := R.put e; replace E := E.put e; clear h47; have h48 := g48; clear g48; clear e
        refine st_val g12_6_2 rfl (wanted_free rfl) (ym_ rfl h48) fun a57 e => ?_
        have g46 := R.at_ e (by decide); replace R := R.put e; replace E := E.put e; clear h48; have h46 := g46; clear g46; clear e
        refine st_val g12_6_3 rfl (wanted_free rfl) (ye20_ rfl h46) fun a58 e => ?_
        have g49 := R.at_ e (by decide); replace R := R.put e; replace E := E.put e; replace h46 := so_ e h46; have h49 := g49; clear g49; clear e
        refine st_val g12_6_4 rfl (wanted_free rfl) (ye21_ rfl h46) fun a59 e => ?_
        have g50 := R.at_ e (by decide); replace R := R.put e; replace E := E.put e; replace h49 := so_ e h49; clear h46; have h50 := g50; clear g50; clear e
        have Y : (execOp a59.eval o12_6_5).run Try.prog w55 = .ok (.value (.pointer (some ⟨w55.heap.size, 0, none⟩))) (w55.alloc (.cells #[.int .i64 0, .string (⟨#[]⟩), .int .i64 0, .slice none 0 0] 24)) := by unfold o12_6_5; go_simp
        have B60 := Blk.new w55 24 #[.int .i64 0, .string (⟨#[]⟩), .int .i64 0, .slice none 0 0]
        obtain ⟨w61, hw⟩ : ∃ x, x = w55.alloc (.cells #[.int .i64 0, .string (⟨#[]⟩), .int .i64 0, .slice none 0 0] 24) := ⟨_, rfl⟩; rw [← hw] at Y B60
        obtain ⟨b60, hb⟩ : ∃ x, x = w55.heap.size := ⟨_, rfl⟩; rw [← hb] at Y B60
        have Nb1_b60 := nb_ hb B1; replace B1 := ba_ hw B1; have Nb9_b60 := nb_ hb B9; replace B9 := ba_ hw B9; have Nb50_b60 := nb_ hb B50; replace B50 := ba_ hw B50; have LK1_b60 := lk_ hb K1; replace K1 := ka_ hw K1; have LKA5_b60 := lk_ hb KA5; replace KA5 := ka_ hw KA5; have LKA6_b60 := lk_ hb KA6; replace KA6 := ka_ hw KA6; clear hw hb
        refine st_val g12_6_5 rfl (wanted_free rfl) Y fun a62 e => ?_; clear Y
        have g6 := R.at_ e (by decide); replace R := R.put e; replace E := E.put e; replace h49 := so_ e h49; replace h50 := so_ e h50; have h6 := g6; clear g6; clear e
        have Y : (execOp a62.eval o12_6_6).run Try.prog w61 = .ok .skip ((((w61.setCell ⟨b60, 0, none⟩ (.int .i64 xr.k)).setCell ⟨b60, 1, none⟩ (.string (str xr.nm))).setCell ⟨b60, 2, none⟩ (.int .i64 xr.i)).setCell ⟨b60, 3, none⟩ (.slice a6 xr.args.length c6)) := by have qq0 : w61.cell? ⟨b60, 0, none⟩ = some (.int .i64 0) := B60.cell 0; have qq1 : w61.cell? ⟨b60, 1, none⟩ = some (.string (⟨#[]⟩)) := B60.cell 1; have qq2 : w61.cell? ⟨b60, 2, none⟩ = some (.int .i64 0) := B60.cell 2; have qq3 : w61.cell? ⟨b60, 3, none⟩ = some (.slice none 0 0) := B60.cell 3; have z0 := B60.frozen 0; have z1 := B60.frozen 1; have z2 := B60.frozen 2; have z3 := B60.frozen 3; unfold o12_6_6; go_simp
        obtain ⟨w63, hw⟩ : ∃ x, x = ((((w61.setCell ⟨b60, 0, none⟩ (.int .i64 xr.k)).setCell ⟨b60, 1, none⟩ (.string (str xr.nm))).setCell ⟨b60, 2, none⟩ (.int .i64 xr.i)).setCell ⟨b60, 3, none⟩ (.slice a6 xr.args.length c6)) := ⟨_, rfl⟩; rw [← hw] at Y
        have hk : Keep (fun g => g ≠ b60) w61 w63 := by rw [hw]; exact ((((Keep.refl _ _).setCell (fun h => h rfl) _).setCell (fun h => h rfl) _).setCell (fun h => h rfl) _).setCell (fun h => h rfl) _
        replace K1 := kx_ hk K1 (Nat.not_lt.2 LK1_b60); replace KA5 := kx_ hk KA5 (Nat.not_lt.2 LKA5_b60); replace KA6 := kx_ hk KA6 (fun hx => absurd hx.2 (Nat.not_lt.2 LKA6_b60)); replace B1 := bx_ hk B1 Nb1_b60; replace B9 := bx_ hk B9 Nb9_b60; replace B50 := bx_ hk B50 Nb50_b60; replace B60 : Blk w63 b60 24 #[.int .i64 xr.k, .string (str xr.nm), .int .i64 xr.i, .slice a6 xr.args.length c6] := (by rw [hw]; exact ((((B60.set_ 0 _).set_ 1 _).set_ 2 _).set_ 3 _)); clear hw hk
        refine st_skip g12_6_6 rfl (wanted_free rfl) Y ?_; clear Y
        refine st_val g12_6_7 rfl (wanted_free rfl) (ya_ rfl h50) fun a64 e => ?_
        replace R := R.put e; replace E := E.put e; replace h6 := so_ e h6; clear h49 h50; clear e
        refine st_end ?_
        replace h2 := E.of h2; replace h4 := E.of h4; replace h5 := E.of h5; clear E
        change (c12_22).wp _ _ _ _
        refine wp_seq (x := c12_23) (y := c12_24) ?_
        change (Code.region 7 O12_7 false).wp _ _ _ _
        refine reg_in (l := [0, 1, 2, 3, 4, 5, 6, 7, 8, 9]) rfl ?_
        have E := Ag_.refl a64
        refine st_val g12_7_0 rfl (wanted_free rfl) (yl4_ rfl (E.of h2) B1) fun a65 e => ?_
        have g52 := R.at_ e (by decide); replace R := R.put e; replace E := E.put e; have h52 := g52; clear g52; clear e
        have Y : (execOp a65.eval o12_7_1).run Try.prog w63 = .ok (.enter 32 #[.agg #[.int .i64 t.k, .string (str t.nm), .int .i64 t.i, .slice ta t.args.length tc], .int .i64 1]) w63 := by unfold o12_7_1; go_simp
        have OK1_7 : W.heap.size ≤ w63.heap.size := K1.size
        have OKA5_7 : w48.heap.size ≤ w63.heap.size := KA5.size
        have OKA6_7 : w55.heap.size ≤ w63.heap.size := KA6.size
        have E7_b1 : b1 < w63.heap.size := B1.lt
        have E7_b9 : b9 < w63.heap.size := B9.lt
        have E7_b50 : b50 < w63.heap.size := B50.lt
        have E7_b60 : b60 < w63.heap.size := B60.lt
        have hcall := rename_fr (HT.out.on K1) (m := 1) (by decide) (rnV_eq HR.out (by decide) (by decide))
        refine st_call g12_7_1 rfl (wanted_free rfl) Y ((hcall).mono ?_); clear Y
        rintro e9 w66 ⟨a7, c7, rfl, hf, kk⟩
        replace K1 := keep_onto K1 kk
        replace KA5 := keep_onto KA5 kk
        replace KA6 := KA6.trans kk.all
        replace B1 := blk_on B1 kk
        replace B9 := blk_on B9 kk
        replace B50 := blk_on B50 kk
        replace B60 := blk_on B60 kk
        clear kk
        clear hcall
        have H7 := Lib.hid hf; clear hf
        have KA7 := Keep.refl (fun g => w63.heap.size ≤ g ∧ g < w66.heap.size) w66
        refine ⟨_, rfl, fun a67 e => ?_⟩
        have g53 := R.at_ e (by decide); replace R := R.put e; replace E := E.put e; clear h52; have h53 := g53; clear g53; clear e
        refine st_val g12_7_2 rfl (wanted_free rfl) (ym_ rfl h53) fun a68 e => ?_
        have g51 := R.at_ e (by decide); replace R := R.put e; replace E := E.put e; clear h53; have h51 := g51; clear g51; clear e
        refine st_val g12_7_3 rfl (wanted_free rfl) (ye30_ rfl h51) fun a69 e => ?_
        have g54 := R.at_ e (by decide); replace R := R.put e; replace E := E.put e; replace h51 := so_ e h51; have h54 := g54; clear g54; clear e
        refine st_val g12_7_4 rfl (wanted_free rfl) (ye31_ rfl h51) fun a70 e => ?_
        have g55 := R.at_ e (by decide); replace R := R.put e; replace E := E.put e; replace h51 := so_ e h51; replace h54 := so_ e h54; have h55 := g55; clear g55; clear e
        refine st_val g12_7_5 rfl (wanted_free rfl) (ye32_ rfl h51) fun a71 e => ?_
        have g56 := R.at_ e (by decide); replace R := R.put e; replace E := E.put e; replace h54 := so_ e h54; replace h55 := so_ e h55; clear h51; have h56 := g56; clear g56; clear e
        have Y : (execOp a71.eval o12_7_6).run Try.prog w66 = .ok (.value (.pointer (some ⟨w66.heap.size, 0, none⟩))) (w66.alloc (.cells #[.int .i64 0, .string (⟨#[]⟩), .int .i64 0, .slice none 0 0] 24)) := by unfold o12_7_6; go_simp
        have B72 := Blk.new w66 24 #[.int .i64 0, .string (⟨#[]⟩), .int .i64 0, .slice none 0 0]
        obtain ⟨w73, hw⟩ : ∃ x, x = w66.alloc (.cells #[.int .i64 0, .string (⟨#[]⟩), .int .i64 0, .slice none 0 0] 24) := ⟨_, rfl⟩; rw [← hw] at Y B72
        obtain ⟨b72, hb⟩ : ∃ x, x = w66.heap.size := ⟨_, rfl⟩; rw [← hb] at Y B72
        have Nb1_b72 := nb_ hb B1; replace B1 := ba_ hw B1; have Nb9_b72 := nb_ hb B9; replace B9 := ba_ hw B9; have Nb50_b72 := nb_ hb B50; replace B50 := ba_ hw B50; have Nb60_b72 := nb_ hb B60; replace B60 := ba_ hw B60; have LK1_b72 := lk_ hb K1; replace K1 := ka_ hw K1; have LKA5_b72 := lk_ hb KA5; replace KA5 := ka_ hw KA5; have LKA6_b72 := lk_ hb KA6; replace KA6 := ka_ hw KA6; have LKA7_b72 := lk_ hb KA7; replace KA7 := ka_ hw KA7; clear hw hb
        refine st_val g12_7_6 rfl (wanted_free rfl) Y fun a74 e => ?_; clear Y
        have g8 := R.at_ e (by decide); replace R := R.put e; replace E := E.put e; replace h54 := so_ e h54; replace h55 := so_ e h55; replace h56 := so_ e h56; have h8 := g8; clear g8; clear e
        have Y : (execOp a74.eval o12_7_7).run Try.prog w73 = .ok .skip ((((w73.setCell ⟨b72, 0, none⟩ (.int .i64 ((t.tree.ren 1).tm.k))).setCell ⟨b72, 1, none⟩ (.string (str (t.tree.ren 1).tm.nm))).setCell ⟨b72, 2, none⟩ (.int .i64 ((t.tree.ren 1).tm.i))).setCell ⟨b72, 3, none⟩ (.slice a7 (t.tree.ren 1).tm.args.length c7)) := by have qq0 : w73.cell? ⟨b72, 0, none⟩ = some (.int .i64 0) := B72.cell 0; have qq1 : w73.cell? ⟨b72, 1, none⟩ = some (.string (⟨#[]⟩)) := B72.cell 1; have qq2 : w73.cell? ⟨b72, 2, none⟩ = some (.int .i64 0) := B72.cell 2; have qq3 : w73.cell? ⟨b72, 3, none⟩ = some (.slice none 0 0) := B72.cell 3; have z0 := B72.frozen 0; have z1 := B72.frozen 1; have z2 := B72.frozen 2; have z3 := B72.frozen 3; unfold o12_7_7; go_simp
        obtain ⟨w75, hw⟩ : ∃ x, x = ((((w73.setCell ⟨b72, 0, none⟩ (.int .i64 ((t.tree.ren 1).tm.k))).setCell ⟨b72, 1, none⟩ (.string (str (t.tree.ren 1).tm.nm))).setCell ⟨b72, 2, none⟩ (.int .i64 ((t.tree.ren 1).tm.i))).setCell ⟨b72, 3, none⟩ (.slice a7 (t.tree.ren 1).tm.args.length c7)) := ⟨_, rfl⟩; rw [← hw] at Y
        have hk : Keep (fun g => g ≠ b72) w73 w75 := by rw [hw]; exact ((((Keep.refl _ _).setCell (fun h => h rfl) _).setCell (fun h => h rfl) _).setCell (fun h => h rfl) _).setCell (fun h => h rfl) _
        replace K1 := kx_ hk K1 (Nat.not_lt.2 LK1_b72); replace KA5 := kx_ hk KA5 (Nat.not_lt.2 LKA5_b72); replace KA6 := kx_ hk KA6 (fun hx => absurd hx.2 (Nat.not_lt.2 LKA6_b72)); replace KA7 := kx_ hk KA7 (fun hx => absurd hx.2 (Nat.not_lt.2 LKA7_b72)); replace B1 := bx_ hk B1 Nb1_b72; replace B9 := bx_ hk B9 Nb9_b72; replace B50 := bx_ hk B50 Nb50_b72; replace B60 := bx_ hk B60 Nb60_b72; replace B72 : Blk w75 b72 24 #[.int .i64 ((t.tree.ren 1).tm.k), .string (str (t.tree.ren 1).tm.nm), .int .i64 ((t.tree.ren 1).tm.i), .slice a7 (t.tree.ren 1).tm.args.length c7] := (by rw [hw]; exact ((((B72.set_ 0 _).set_ 1 _).set_ 2 _).set_ 3 _)); clear hw hk
        refine st_skip g12_7_7 rfl (wanted_free rfl) Y ?_; clear Y
        refine st_val g12_7_8 rfl (wanted_free rfl) (ya_ rfl h55) fun a76 e => ?_
        replace R := R.put e; replace E := E.put e; replace h8 := so_ e h8; replace h56 := so_ e h56; clear h54 h55; clear e
        refine st_val g12_7_9 rfl (wanted_free rfl) (ya_ rfl h56) fun a77 e => ?_
        replace R := R.put e; replace E := E.put e; replace h8 := so_ e h8; clear h56; clear e
        refine st_end ?_
        replace h2 := E.of h2; replace h4 := E.of h4; replace h5 := E.of h5; replace h6 := E.of h6; clear E
        change (c12_24).wp _ _ _ _
        refine wp_seq (x := c12_25) (y := c12_26) ?_
        change (Code.region 8 O12_8 false).wp _ _ _ _
        refine reg_in (l := [0, 1, 2, 3, 4, 5, 6, 7, 8, 9, 10]) rfl ?_
        have E := Ag_.refl a77
        refine st_val g12_8_0 rfl (wanted_free rfl) (yl4_ rfl (E.of h2) B1) fun a78 e => ?_
        have g58 := R.at_ e (by decide); replace R := R.put e; replace E := E.put e; have h58 := g58; clear g58; clear e
        refine st_val g12_8_1 rfl (wanted_free rfl) (yl4_ rfl (E.of h2) B1) fun a79 e => ?_
        have g59 := R.at_ e (by decide); replace R := R.put e; replace E := E.put e; replace h58 := so_ e h58; have h59 := g59; clear g59; clear e
        have Y : (execOp a79.eval o12_8_2).run Try.prog w75 = .ok (.value (.slice (some ⟨w75.heap.size, 0, none⟩) 2 2)) (w75.alloc (.cells #[.int .i64 t.k, .string (str t.nm), .int .i64 t.i, .slice ta t.args.length tc, .int .i64 t.k, .string (str t.nm), .int .i64 t.i, .slice ta t.args.length tc] 24)) := by unfold o12_8_2; go_simp
        have B80 := Blk.new w75 24 #[.int .i64 t.k, .string (str t.nm), .int .i64 t.i, .slice ta t.args.length tc, .int .i64 t.k, .string (str t.nm), .int .i64 t.i, .slice ta t.args.length tc]
        obtain ⟨w81, hw⟩ : ∃ x, x = w75.alloc (.cells #[.int .i64 t.k, .string (str t.nm), .int .i64 t.i, .slice ta t.args.length tc, .int .i64 t.k, .string (str t.nm), .int .i64 t.i, .slice ta t.args.length tc] 24) := ⟨_, rfl⟩; rw [← hw] at Y B80
        obtain ⟨b80, hb⟩ : ∃ x, x = w75.heap.size := ⟨_, rfl⟩; rw [← hb] at Y B80
        have Nb1_b80 := nb_ hb B1; replace B1 := ba_ hw B1; have Nb9_b80 := nb_ hb B9; replace B9 := ba_ hw B9; have Nb50_b80 := nb_ hb B50; replace B50 := ba_ hw B50; have Nb60_b80 := nb_ hb B60; replace B60 := ba_ hw B60; have Nb72_b80 := nb_ hb B72; replace B72 := ba_ hw B72; have LK1_b80 := lk_ hb K1; replace K1 := ka_ hw K1; have LKA5_b80 := lk_ hb KA5; replace KA5 := ka_ hw KA5; have LKA6_b80 := lk_ hb KA6; replace KA6 := ka_ hw KA6; have LKA7_b80 := lk_ hb KA7; replace KA7 := ka_ hw KA7; clear hw hb
        refine st_val g12_8_2 rfl (wanted_free rfl) Y fun a82 e => ?_; clear Y
        have g60 := R.at_ e (by decide); replace R := R.put e; replace E := E.put e; clear h58 h59; have h60 := g60; clear g60; clear e
        refine st_val g12_8_3 rfl (wanted_free rfl) (yl4_ rfl (E.of h2) B1) fun a83 e => ?_
        have g61 := R.at_ e (by decide); replace R := R.put e; replace E := E.put e; replace h60 := so_ e h60; have h61 := g61; clear g61; clear e
        have OK1_8 : W.heap.size ≤ w81.heap.size := K1.size
        have OKA5_8 : w48.heap.size ≤ w81.heap.size := KA5.size
        have OKA6_8 : w55.heap.size ≤ w81.heap.size := KA6.size
        have OKA7_8 : w66.heap.size ≤ w81.heap.size := KA7.size
        have E8_b1 : b1 < w81.heap.size := B1.lt
        have E8_b9 : b9 < w81.heap.size := B9.lt
        have E8_b50 : b50 < w81.heap.size := B50.lt
        have E8_b60 : b60 < w81.heap.size := B60.lt
        have E8_b72 : b72 < w81.heap.size := B72.lt
        have E8_b80 : b80 < w81.heap.size := B80.lt
        obtain ⟨lr, le, hap⟩ : ∃ q e, lsV [t, t] t = (q, e) := ⟨_, _, rfl⟩
        have HLE : Hid (le = 0 ∨ le = 70) := Lib.hid (by have h := congrArg Prod.snd hap; unfold lsV at h; split at h <;> (try split at h) <;> first | exact .inl h.symm | exact .inr h.symm)
        have hcall := list_fr (cap := 2) (ps := [(t, ta, tc), (t, ta, tc)]) (tmsl_two (HT.out.on K1) B80) (HT.out.on K1) (by show 2 ≤ 2305843009213693951; omega) (fun g off h => by cases h; exact B80.lt) hap; clear hap
        refine st_call g12_8_4 rfl (wanted_free rfl) (yc2_ en12_39 rfl h60 h61) ((hcall).mono ?_)
        rintro e9 w84 ⟨a8, c8, rfl, hf, kk⟩
        replace K1 := keep_onto K1 kk
        replace KA5 := keep_onto KA5 kk
        replace KA6 := KA6.trans kk.all
        replace KA7 := KA7.trans kk.all
        replace B1 := blk_on B1 kk
        replace B9 := blk_on B9 kk
        replace B50 := blk_on B50 kk
        replace B60 := blk_on B60 kk
        replace B72 := blk_on B72 kk
        replace B80 := blk_on B80 kk
        clear kk
        clear hcall
        have H8 := Lib.hid hf; clear hf
        have KA8 := Keep.refl (fun g => w81.heap.size ≤ g ∧ g < w84.heap.size) w84
        refine ⟨_, rfl, fun a85 e => ?_⟩
        have g62 := R.at_ e (by decide); replace R := R.put e; replace E := E.put e; clear h60 h61; have h62 := g62; clear g62; clear e
        refine st_val g12_8_5 rfl (wanted_free rfl) (ym_ rfl h62) fun a86 e => ?_
        have g57 := R.at_ e (by decide); replace R := R.put e; replace E := E.put e; clear h62; have h57 := g57; clear g57; clear e
        refine st_val g12_8_6 rfl (wanted_free rfl) (ye20_ rfl h57) fun a87 e => ?_
        have g63 := R.at_ e (by decide); replace R := R.put e; replace E := E.put e; replace h57 := so_ e h57; have h63 := g63; clear g63; clear e
        refine st_val g12_8_7 rfl (wanted_free rfl) (ye21_ rfl h57) fun a88 e => ?_
        have g64 := R.at_ e (by decide); replace R := R.put e; replace E := E.put e; replace h63 := so_ e h63; clear h57; have h64 := g64; clear g64; clear e
        have Y : (execOp a88.eval o12_8_8).run Try.prog w84 = .ok (.value (.pointer (some ⟨w84.heap.size, 0, none⟩))) (w84.alloc (.cells #[.int .i64 0, .string (⟨#[]⟩), .int .i64 0, .slice none 0 0] 24)) := by unfold o12_8_8; go_simp
        have B89 := Blk.new w84 24 #[.int .i64 0, .string (⟨#[]⟩), .int .i64 0, .slice none 0 0]
        obtain ⟨w90, hw⟩ : ∃ x, x = w84.alloc (.cells #[.int .i64 0, .string (⟨#[]⟩), .int .i64 0, .slice none 0 0] 24) := ⟨_, rfl⟩; rw [← hw] at Y B89
        obtain ⟨b89, hb⟩ : ∃ x, x = w84.heap.size := ⟨_, rfl⟩; rw [← hb] at Y B89
        have Nb1_b89 := nb_ hb B1; replace B1 := ba_ hw B1; have Nb9_b89 := nb_ hb B9; replace B9 := ba_ hw B9; have Nb50_b89 := nb_ hb B50; replace B50 := ba_ hw B50; have Nb60_b89 := nb_ hb B60; replace B60 := ba_ hw B60; have Nb72_b89 := nb_ hb B72; replace B72 := ba_ hw B72; have Nb80_b89 := nb_ hb B80; replace B80 := ba_ hw B80; have LK1_b89 := lk_ hb K1; replace K1 := ka_ hw K1; have LKA5_b89 := lk_ hb KA5; replace KA5 := ka_ hw KA5; have LKA6_b89 := lk_ hb KA6; replace KA6 := ka_ hw KA6; have LKA7_b89 := lk_ hb KA7; replace KA7 := ka_ hw KA7; have LKA8_b89 := lk_ hb KA8; replace KA8 := ka_ hw KA8; clear hw hb
        refine st_val g12_8_8 rfl (wanted_free rfl) Y fun a91 e => ?_; clear Y
        have g11 := R.at_ e (by decide); replace R := R.put e; replace E := E.put e; replace h63 := so_ e h63; replace h64 := so_ e h64; have h11 := g11; clear g11; clear e
        have Y : (execOp a91.eval o12_8_9).run Try.prog w90 = .ok .skip ((((w90.setCell ⟨b89, 0, none⟩ (.int .i64 lr.k)).setCell ⟨b89, 1, none⟩ (.string (str lr.nm))).setCell ⟨b89, 2, none⟩ (.int .i64 lr.i)).setCell ⟨b89, 3, none⟩ (.slice a8 lr.args.length c8)) := by have qq0 : w90.cell? ⟨b89, 0, none⟩ = some (.int .i64 0) := B89.cell 0; have qq1 : w90.cell? ⟨b89, 1, none⟩ = some (.string (⟨#[]⟩)) := B89.cell 1; have qq2 : w90.cell? ⟨b89, 2, none⟩ = some (.int .i64 0) := B89.cell 2; have qq3 : w90.cell? ⟨b89, 3, none⟩ = some (.slice none 0 0) := B89.cell 3; have z0 := B89.frozen 0; have z1 := B89.frozen 1; have z2 := B89.frozen 2; have z3 := B89.frozen 3; unfold o12_8_9; go_simp
        obtain ⟨w92, hw⟩ : ∃ x, x = ((((w90.setCell ⟨b89, 0, none⟩ (.int .i64 lr.k)).setCell ⟨b89, 1, none⟩ (.string (str lr.nm))).setCell ⟨b89, 2, none⟩ (.int .i64 lr.i)).setCell ⟨b89, 3, none⟩ (.slice a8 lr.args.length c8)) := ⟨_, rfl⟩; rw [← hw] at Y
        have hk : Keep (fun g => g ≠ b89) w90 w92 := by rw [hw]; exact ((((Keep.refl _ _).setCell (fun h => h rfl) _).setCell (fun h => h rfl) _).setCell (fun h => h rfl) _).setCell (fun h => h rfl) _
        replace K1 := kx_ hk K1 (Nat.not_lt.2 LK1_b89); replace KA5 := kx_ hk KA5 (Nat.not_lt.2 LKA5_b89); replace KA6 := kx_ hk KA6 (fun hx => absurd hx.2 (Nat.not_lt.2 LKA6_b89)); replace KA7 := kx_ hk KA7 (fun hx => absurd hx.2 (Nat.not_lt.2 LKA7_b89)); replace KA8 := kx_ hk KA8 (fun hx => absurd hx.2 (Nat.not_lt.2 LKA8_b89)); replace B1 := bx_ hk B1 Nb1_b89; replace B9 := bx_ hk B9 Nb9_b89; replace B50 := bx_ hk B50 Nb50_b89; replace B60 := bx_ hk B60 Nb60_b89; replace B72 := bx_ hk B72 Nb72_b89; replace B80 := bx_ hk B80 Nb80_b89; replace B89 : Blk w92 b89 24 #[.int .i64 lr.k, .string (str lr.nm), .int .i64 lr.i, .slice a8 lr.args.length c8] := (by rw [hw]; exact ((((B89.set_ 0 _).set_ 1 _).set_ 2 _).set_ 3 _)); clear hw hk
        refine st_skip g12_8_9 rfl (wanted_free rfl) Y ?_; clear Y
        refine st_val g12_8_10 rfl (wanted_free rfl) (ya_ rfl h64) fun a93 e => ?_
        have g12 := R.at_ e (by decide); replace R := R.put e; replace E := E.put e; replace h11 := so_ e h11; clear h63 h64; have h12 := g12; clear g12; clear e
        refine st_end ?_
        replace h2 := E.of h2; replace h4 := E.of h4; replace h5 := E.of h5; replace h6 := E.of h6; replace h8 := E.of h8; clear E
        change (c12_26).wp _ _ _ _
        refine wp_seq (x := c12_27) (y := c12_28) ?_
        change (Code.region 9 O12_9 false).wp _ _ _ _
        refine reg_in (l := [0, 1, 2, 3, 4, 5, 6, 7]) rfl ?_
        have E := Ag_.refl a93
        refine st_val g12_9_0 rfl (wanted_free rfl) (yl4_ rfl (E.of h11) B89) fun a94 e => ?_
        have g66 := R.at_ e (by decide); replace R := R.put e; replace E := E.put e; have h66 := g66; clear g66; clear e
        have OK1_9 : W.heap.size ≤ w92.heap.size := K1.size
        have OKA5_9 : w48.heap.size ≤ w92.heap.size := KA5.size
        have OKA6_9 : w55.heap.size ≤ w92.heap.size := KA6.size
        have OKA7_9 : w66.heap.size ≤ w92.heap.size := KA7.size
        have OKA8_9 : w84.heap.size ≤ w92.heap.size := KA8.size
        have E9_b1 : b1 < w92.heap.size := B1.lt
        have E9_b9 : b9 < w92.heap.size := B9.lt
        have E9_b50 : b50 < w92.heap.size := B50.lt
        have E9_b60 : b60 < w92.heap.size := B60.lt
        have E9_b72 : b72 < w92.heap.size := B72.lt
        have E9_b80 : b80 < w92.heap.size := B80.lt
        have E9_b89 : b89 < w92.heap.size := B89.lt
        have hcall := items_fr (fr_at H8.out KA8)
        obtain ⟨te, hte⟩ : ∃ q, q = (itV lr).2 := ⟨_, rfl⟩
        rw [← hte] at hcall; clear hte
        refine st_call g12_9_1 rfl (wanted_free rfl) (yc1_ en12_41 rfl h66) ((hcall).mono ?_)
        rintro e9 w95 ⟨g9, ua, uc, ps, a9, c9, rfl, hf, kk⟩
        replace K1 := keep_onto K1 kk
        replace KA5 := keep_onto KA5 kk
        replace KA6 := KA6.trans kk.all
        replace KA7 := KA7.trans kk.all
        replace KA8 := KA8.trans kk.all
        replace B1 := blk_on B1 kk
        replace B9 := blk_on B9 kk
        replace B50 := blk_on B50 kk
        replace B60 := blk_on B60 kk
        replace B72 := blk_on B72 kk
        replace B80 := blk_on B80 kk
        replace B89 := blk_on B89 kk
        clear kk
        clear hcall
        have H9 := Lib.hid hf; clear hf
        have KA9 := Keep.refl (fun g => w92.heap.size ≤ g ∧ g < w95.heap.size) w95
        refine ⟨_, rfl, fun a96 e => ?_⟩
        have g67 := R.at_ e (by decide); replace R := R.put e; replace E := E.put e; clear h66; have h67 := g67; clear g67; clear e
        refine st_val g12_9_2 rfl (wanted_free rfl) (ym_ rfl h67) fun a97 e => ?_
        have g65 := R.at_ e (by decide); replace R := R.put e; replace E := E.put e; clear h67; have h65 := g65; clear g65; clear e
        refine st_val g12_9_3 rfl (wanted_free rfl) (ye20_ rfl h65) fun a98 e => ?_
        have g68 := R.at_ e (by decide); replace R := R.put e; replace E := E.put e; replace h65 := so_ e h65; have h68 := g68; clear g68; clear e
        refine st_val g12_9_4 rfl (wanted_free rfl) (ye21_ rfl h65) fun a99 e => ?_
        have g69 := R.at_ e (by decide); replace R := R.put e; replace E := E.put e; replace h68 := so_ e h68; clear h65; have h69 := g69; clear g69; clear e
        have Y : (execOp a99.eval o12_9_5).run Try.prog w95 = .ok (.value (.pointer (some ⟨w95.heap.size, 0, none⟩))) (w95.alloc (.cells #[.int .i64 0, .string (⟨#[]⟩), .int .i64 0, .slice none 0 0] 24)) := by unfold o12_9_5; go_simp
        have B100 := Blk.new w95 24 #[.int .i64 0, .string (⟨#[]⟩), .int .i64 0, .slice none 0 0]
        obtain ⟨w101, hw⟩ : ∃ x, x = w95.alloc (.cells #[.int .i64 0, .string (⟨#[]⟩), .int .i64 0, .slice none 0 0] 24) := ⟨_, rfl⟩; rw [← hw] at Y B100
        obtain ⟨b100, hb⟩ : ∃ x, x = w95.heap.size := ⟨_, rfl⟩; rw [← hb] at Y B100
        have Nb1_b100 := nb_ hb B1; replace B1 := ba_ hw B1; have Nb9_b100 := nb_ hb B9; replace B9 := ba_ hw B9; have Nb50_b100 := nb_ hb B50; replace B50 := ba_ hw B50; have Nb60_b100 := nb_ hb B60; replace B60 := ba_ hw B60; have Nb72_b100 := nb_ hb B72; replace B72 := ba_ hw B72; have Nb80_b100 := nb_ hb B80; replace B80 := ba_ hw B80; have Nb89_b100 := nb_ hb B89; replace B89 := ba_ hw B89; have LK1_b100 := lk_ hb K1; replace K1 := ka_ hw K1; have LKA5_b100 := lk_ hb KA5; replace KA5 := ka_ hw KA5; have LKA6_b100 := lk_ hb KA6; replace KA6 := ka_ hw KA6; have LKA7_b100 := lk_ hb KA7; replace KA7 := ka_ hw KA7; have LKA8_b100 := lk_ hb KA8; replace KA8 := ka_ hw KA8; have LKA9_b100 := lk_ hb KA9; replace KA9 := ka_ hw KA9; clear hw hb
        refine st_val g12_9_5 rfl (wanted_free rfl) Y fun a102 e => ?_; clear Y
        have g14 := R.at_ e (by decide); replace R := R.put e; replace E := E.put e; replace h68 := so_ e h68; replace h69 := so_ e h69; have h14 := g14; clear g14; clear e
        refine st_val g12_9_6 rfl (wanted_free rfl) (ya_ rfl h68) fun a103 e => ?_
        have g13 := R.at_ e (by decide); replace R := R.put e; replace E := E.put e; replace h14 := so_ e h14; replace h69 := so_ e h69; clear h68; have h13 := g13; clear g13; clear e
        have Y : (execOp a103.eval o12_9_7).run Try.prog w101 = .ok .skip ((((w101.setCell ⟨b100, 0, none⟩ (.int .i64 te.k)).setCell ⟨b100, 1, none⟩ (.string (str te.nm))).setCell ⟨b100, 2, none⟩ (.int .i64 te.i)).setCell ⟨b100, 3, none⟩ (.slice a9 te.args.length c9)) := by have qq0 : w101.cell? ⟨b100, 0, none⟩ = some (.int .i64 0) := B100.cell 0; have qq1 : w101.cell? ⟨b100, 1, none⟩ = some (.string (⟨#[]⟩)) := B100.cell 1; have qq2 : w101.cell? ⟨b100, 2, none⟩ = some (.int .i64 0) := B100.cell 2; have qq3 : w101.cell? ⟨b100, 3, none⟩ = some (.slice none 0 0) := B100.cell 3; have z0 := B100.frozen 0; have z1 := B100.frozen 1; have z2 := B100.frozen 2; have z3 := B100.frozen 3; unfold o12_9_7; go_simp
        obtain ⟨w104, hw⟩ : ∃ x, x = ((((w101.setCell ⟨b100, 0, none⟩ (.int .i64 te.k)).setCell ⟨b100, 1, none⟩ (.string (str te.nm))).setCell ⟨b100, 2, none⟩ (.int .i64 te.i)).setCell ⟨b100, 3, none⟩ (.slice a9 te.args.length c9)) := ⟨_, rfl⟩; rw [← hw] at Y
        have hk : Keep (fun g => g ≠ b100) w101 w104 := by rw [hw]; exact ((((Keep.refl _ _).setCell (fun h => h rfl) _).setCell (fun h => h rfl) _).setCell (fun h => h rfl) _).setCell (fun h => h rfl) _
        replace K1 := kx_ hk K1 (Nat.not_lt.2 LK1_b100); replace KA5 := kx_ hk KA5 (Nat.not_lt.2 LKA5_b100); replace KA6 := kx_ hk KA6 (fun hx => absurd hx.2 (Nat.not_lt.2 LKA6_b100)); replace KA7 := kx_ hk KA7 (fun hx => absurd hx.2 (Nat.not_lt.2 LKA7_b100)); replace KA8 := kx_ hk KA8 (fun hx => absurd hx.2 (Nat.not_lt.2 LKA8_b100)); replace KA9 := kx_ hk KA9 (fun hx => absurd hx.2 (Nat.not_lt.2 LKA9_b100)); replace B1 := bx_ hk B1 Nb1_b100; replace B9 := bx_ hk B9 Nb9_b100; replace B50 := bx_ hk B50 Nb50_b100; replace B60 := bx_ hk B60 Nb60_b100; replace B72 := bx_ hk B72 Nb72_b100; replace B80 := bx_ hk B80 Nb80_b100; replace B89 := bx_ hk B89 Nb89_b100; replace B100 : Blk w104 b100 24 #[.int .i64 te.k, .string (str te.nm), .int .i64 te.i, .slice a9 te.args.length c9] := (by rw [hw]; exact ((((B100.set_ 0 _).set_ 1 _).set_ 2 _).set_ 3 _)); clear hw hk
        refine st_skip g12_9_7 rfl (wanted_free rfl) Y ?_; clear Y
        refine st_end ?_
        replace h2 := E.of h2; replace h4 := E.of h4; replace h5 := E.of h5; replace h6 := E.of h6; replace h8 := E.of h8; replace h11 := E.of h11; replace h12 := E.of h12; clear h69; clear E
        change (c12_28).wp _ _ _ _
        refine wp_seq (x := c12_29) (y := c12_30) ?_
        change (Code.region 10 O12_10 true).wp _ _ _ _
        have D107 := B1
        have D108 := B9
        have D109 := B50
        have D110 := B60
        have D111 := B72
        have D112 := B80
        have D113 := B89
        have D114 := B100
        have K105 := (Keep.refl (fun g => g < w104.heap.size) w104).drew
        have EK1 := K1
        have EKA5 := KA5
        have EKA6 := KA6
        have EKA7 := KA7
        have EKA8 := KA8
        have EKA9 := KA9
        refine dr_in (S := (fun W => Keep (fun g => g < w104.heap.size) w104 W)) (n := 10) (l := #[false, false, false, false, false, false, false, false, false, false]) (by kernel_rfl) K105 rfl rfl ?_
        replace K1 := K1.drew
        replace KA5 := KA5.drew
        replace KA6 := KA6.drew
        replace KA7 := KA7.drew
        replace KA8 := KA8.drew
        replace KA9 := KA9.drew
        replace B1 := B1.drew
        replace B9 := B9.drew
        replace B50 := B50.drew
        replace B60 := B60.drew
        replace B72 := B72.drew
        replace B80 := B80.drew
        replace B89 := B89.drew
        replace B100 := B100.drew
        generalize w104.drew = w106 at K105 K1 KA5 KA6 KA7 KA8 KA9 B1 B9 B50 B60 B72 B80 B89 B100 ⊢
        have E := Ag_.refl a103
        refine dr_take (i := 0) (fuel := 9) (l' := #[true, false, false, false, false, false, false, false, false, false]) g12_10_0 rfl ns12_10 (by kernel_rfl) (by kernel_rfl) rfl (wanted_free rfl) K105 (fun W7 hS => (yl4_ rfl (E.of h2) (D107.keep hS D107.lt))) fun a115 e => ?_
        have g71 := R.at_ e (by decide); replace R := R.put e; replace E := E.put e; have h71 := g71; clear g71; clear e
        refine dr_only (i := 1) (fuel := 8) (by kernel_rfl) ?_
        have Y : (execOp a115.eval o12_10_1).run Try.prog w106 = .ok (.enter 44 #[.int .i64 1099511627776]) w106 := by unfold o12_10_1; go_simp
        have hv : Calls Try.prog 44 #[.int .i64 1099511627776] w106 (fun e w' => e = .returned (.agg #[.int .i64 1, .string (str []), .int .i64 1099511627776, .slice none 0 0]) ∧ Keep (fun g => g < w106.heap.size) w106 w') := refV_any w106 1099511627776
        refine dr_call (l' := #[true, true, false, false, false, false, false, false, false, false]) g12_10_1 rfl rfl (wanted_free rfl) Y ((hv).mono ?_); clear Y
        rintro e9 w116 ⟨rfl, kk⟩
        replace K1 := keep_onto K1 kk
        replace KA5 := keep_onto KA5 kk
        replace KA6 := KA6.trans kk.all
        replace KA7 := KA7.trans kk.all
        replace KA8 := KA8.trans kk.all
        replace KA9 := KA9.trans kk.all
        replace K105 := keep_onto K105 kk
        replace B1 := blk_on B1 kk
        replace B9 := blk_on B9 kk
        replace B50 := blk_on B50 kk
        replace B60 := blk_on B60 kk
        replace B72 := blk_on B72 kk
        replace B80 := blk_on B80 kk
        replace B89 := blk_on B89 kk
        replace B100 := blk_on B100 kk
        clear kk
        clear hv
        refine ⟨_, rfl, K105, fun a117 e => ?_⟩
        have g72 := R.at_ e (by decide); replace R := R.put e; replace E := E.put e; replace h71 := so_ e h71; have h72 := g72; clear g72; clear e
        refine dr_only (i := 2) (fuel := 7) (by kernel_rfl) ?_
        have OK1_10 : W.heap.size ≤ w116.heap.size := K1.size
        have OKA5_10 : w48.heap.size ≤ w116.heap.size := KA5.size
        have OKA6_10 : w55.heap.size ≤ w116.heap.size := KA6.size
        have OKA7_10 : w66.heap.size ≤ w116.heap.size := KA7.size
        have OKA8_10 : w84.heap.size ≤ w116.heap.size := KA8.size
        have OKA9_10 : w95.heap.size ≤ w116.heap.size := KA9.size
        have OK105_10 : w104.heap.size ≤ w116.heap.size := K105.size
        have E10_b1 : b1 < w116.heap.size := B1.lt
        have E10_b9 : b9 < w116.heap.size := B9.lt
        have E10_b50 : b50 < w116.heap.size := B50.lt
        have E10_b60 : b60 < w116.heap.size := B60.lt
        have E10_b72 : b72 < w116.heap.size := B72.lt
        have E10_b80 : b80 < w116.heap.size := B80.lt
        have E10_b89 : b89 < w116.heap.size := B89.lt
        have E10_b100 : b100 < w116.heap.size := B100.lt
        have hcall := solve_fr (u := .node 1 [] 1099511627776 []) (b := none) (d := 0) (HT.out.on K1) (tm_leaf (by decide) (by decide) (by simp))
        refine dr_call (l' := #[true, true, true, false, false, false, false, false, false, false]) g12_10_2 rfl rfl (wanted_free rfl) (yc2_ en12_28 rfl h71 h72) ((hcall).mono ?_)
        rintro e9 w118 ⟨va, vc, bs, ok, er, rfl, hf, kk⟩
        replace K1 := keep_onto K1 kk
        replace KA5 := keep_onto KA5 kk
        replace KA6 := KA6.trans kk.all
        replace KA7 := KA7.trans kk.all
        replace KA8 := KA8.trans kk.all
        replace KA9 := KA9.trans kk.all
        replace K105 := keep_onto K105 kk
        replace B1 := blk_on B1 kk
        replace B9 := blk_on B9 kk
        replace B50 := blk_on B50 kk
        replace B60 := blk_on B60 kk
        replace B72 := blk_on B72 kk
        replace B80 := blk_on B80 kk
        replace B89 := blk_on B89 kk
        replace B100 := blk_on B100 kk
        clear kk
        clear hcall
        have HBLN := Lib.hid (solr_len hf.1)
        have H10 := Lib.hid hf.2; clear hf
        have KA10 := Keep.refl (fun g => w116.heap.size ≤ g ∧ g < w118.heap.size) w118
        refine ⟨_, rfl, K105, fun a119 e => ?_⟩
        have g73 := R.at_ e (by decide); replace R := R.put e; replace E := E.put e; clear h71 h72; have h73 := g73; clear g73; clear e
        refine dr_take (i := 3) (fuel := 6) (l' := #[true, true, true, true, false, false, false, false, false, false]) g12_10_3 rfl ns12_10 (by kernel_rfl) (by kernel_rfl) rfl (wanted_free rfl) K105 (fun _ _ => (ym_ rfl h73)) fun a120 e => ?_
        have g70 := R.at_ e (by decide); replace R := R.put e; replace E := E.put e; clear h73; have h70 := g70; clear g70; clear e
        refine dr_take (i := 4) (fuel := 5) (l' := #[true, true, true, true, true, false, false, false, false, false]) g12_10_4 rfl ns12_10 (by kernel_rfl) (by kernel_rfl) rfl (wanted_free rfl) K105 (fun _ _ => (ye30_ rfl h70)) fun a121 e => ?_
        have g74 := R.at_ e (by decide); replace R := R.put e; replace E := E.put e; replace h70 := so_ e h70; have h74 := g74; clear g74; clear e
        refine dr_take (i := 5) (fuel := 4) (l' := #[true, true, true, true, true, true, false, false, false, false]) g12_10_5 rfl ns12_10 (by kernel_rfl) (by kernel_rfl) rfl (wanted_free rfl) K105 (fun _ _ => (ye31_ rfl h70)) fun a122 e => ?_
        have g75 := R.at_ e (by decide); replace R := R.put e; replace E := E.put e; replace h70 := so_ e h70; replace h74 := so_ e h74; have h75 := g75; clear g75; clear e
        refine dr_take (i := 6) (fuel := 3) (l' := #[true, true, true, true, true, true, true, false, false, false]) g12_10_6 rfl ns12_10 (by kernel_rfl) (by kernel_rfl) rfl (wanted_free rfl) K105 (fun _ _ => (ye32_ rfl h70)) fun a123 e => ?_
        have g76 := R.at_ e (by decide); replace R := R.put e; replace E := E.put e; replace h74 := so_ e h74; replace h75 := so_ e h75; clear h70; have h76 := g76; clear g76; clear e
        refine dr_take (i := 7) (fuel := 2) (l' := #[true, true, true, true, true, true, true, true, false, false]) g12_10_7 rfl ns12_10 (by kernel_rfl) (by kernel_rfl) rfl (wanted_free rfl) K105 (fun _ _ => (ya_ rfl h74)) fun a124 e => ?_
        have g15 := R.at_ e (by decide); replace R := R.put e; replace E := E.put e; replace h75 := so_ e h75; replace h76 := so_ e h76; clear h74; have h15 := g15; clear g15; clear e
        refine dr_take (i := 8) (fuel := 1) (l' := #[true, true, true, true, true, true, true, true, true, false]) g12_10_8 rfl ns12_10 (by kernel_rfl) (by kernel_rfl) rfl (wanted_free rfl) K105 (fun _ _ => (ya_ rfl h75)) fun a125 e => ?_
        replace R := R.put e; replace E := E.put e; replace h15 := so_ e h15; replace h76 := so_ e h76; clear h75; clear e
        refine dr_take (i := 9) (fuel := 0) (l' := #[true, true, true, true, true, true, true, true, true, true]) g12_10_9 rfl ns12_10 (by kernel_rfl) (by kernel_rfl) rfl (wanted_free rfl) K105 (fun _ _ => (ya_ rfl h76)) fun a126 e => ?_
        replace R := R.put e; replace E := E.put e; replace h15 := so_ e h15; clear h76; clear e
        refine dr_end (by kernel_rfl) ?_
        replace h2 := E.of h2; replace h4 := E.of h4; replace h5 := E.of h5; replace h6 := E.of h6; replace h8 := E.of h8; replace h11 := E.of h11; replace h12 := E.of h12; replace h13 := E.of h13; replace h14 := E.of h14; clear E
        clear K105 EK1 EKA5 EKA6 EKA7 EKA8 EKA9 D107 D108 D109 D110 D111 D112 D113 D114
        change (c12_30).wp _ _ _ _
        refine wp_seq (x := c12_31) (y := c12_38) ?_
        refine wp_seq (x := c12_32) (y := c12_33) ?_
        change (Code.region 11 O12_11 false).wp _ _ _ _
        refine reg_in (l := [0, 1]) rfl ?_
        have E := Ag_.refl a126
        refine st_val g12_11_0 rfl (wanted_free rfl) (ym_ rfl (E.of h12)) fun a127 e => ?_
        have g77 := R.at_ e (by decide); replace R := R.put e; replace E := E.put e; have h77 := g77; clear g77; clear e
        obtain ⟨b128, hb128⟩ : ∃ x, (((le : Int) != (0 : Int))) = x := ⟨_, rfl⟩
        have Y : (execOp a127.eval o12_11_1).run Try.prog w118 = .ok (.value (.bool b128)) w118 := by rw [← hb128]; unfold o12_11_1; go_simp
        refine st_val g12_11_1 rfl (wanted_free rfl) Y fun a129 e => ?_; clear Y
        have g78 := R.at_ e (by decide); replace R := R.put e; replace E := E.put e; clear h77; have h78 := g78; clear g78; clear e
        refine st_end ?_
        replace h2 := E.of h2; replace h4 := E.of h4; replace h5 := E.of h5; replace h6 := E.of h6; replace h8 := E.of h8; replace h11 := E.of h11; replace h12 := E.of h12; replace h13 := E.of h13; replace h14 := E.of h14; replace h15 := E.of h15; clear E
        change (c12_33).wp _ _ _ _
        cases b128 with
        | false =>
          have fb128 := hb128; clear hb128
          simp only [decide_eq_true_eq, decide_eq_false_iff_not, bne_iff_ne, bne_eq_false_iff_eq, beq_iff_eq, beq_eq_false_iff_ne, ne_eq, Bool.not_eq_true', Bool.not_eq_false', Bool.not_eq_eq_eq_not, Bool.not_true, Bool.not_false] at fb128
          refine wp_cond_false (x := c12_34) (y := Code.skip) (eval_slot h78) ?_
          refine wp_skip ?_
          change (c12_38).wp _ _ _ _
          refine wp_seq (x := c12_39) (y := c12_40) ?_
          change (Code.region 13 O12_13 false).wp _ _ _ _
          refine reg_in (l := [0, 1, 2, 3, 4, 5, 6, 7, 8, 9]) rfl ?_
          have E := Ag_.refl a129
          refine st_val g12_13_0 rfl (wanted_free rfl) (yl4_ rfl (E.of h2) B1) fun a130 e => ?_
          have g82 := R.at_ e (by decide); replace R := R.put e; replace E := E.put e; have h82 := g82; clear g82; clear e
          have Y : (execOp a130.eval o12_13_1).run Try.prog w118 = .ok (.enter 32 #[.agg #[.int .i64 t.k, .string (str t.nm), .int .i64 t.i, .slice ta t.args.length tc], .int .i64 1]) w118 := by unfold o12_13_1; go_simp
          have OK1_13 : W.heap.size ≤ w118.heap.size := K1.size
          have OKA5_13 : w48.heap.size ≤ w118.heap.size := KA5.size
          have OKA6_13 : w55.heap.size ≤ w118.heap.size := KA6.size
          have OKA7_13 : w66.heap.size ≤ w118.heap.size := KA7.size
          have OKA8_13 : w84.heap.size ≤ w118.heap.size := KA8.size
          have OKA9_13 : w95.heap.size ≤ w118.heap.size := KA9.size
          have OKA10_13 : w118.heap.size ≤ w118.heap.size := KA10.size
          have E13_b1 : b1 < w118.heap.size := B1.lt
          have E13_b9 : b9 < w118.heap.size := B9.lt
          have E13_b50 : b50 < w118.heap.size := B50.lt
          have E13_b60 : b60 < w118.heap.size := B60.lt
          have E13_b72 : b72 < w118.heap.size := B72.lt
          have E13_b80 : b80 < w118.heap.size := B80.lt
          have E13_b89 : b89 < w118.heap.size := B89.lt
          have E13_b100 : b100 < w118.heap.size := B100.lt
          have hcall := rename_fr (HT.out.on K1) (m := 1) (by decide) (rnV_eq HR.out (by decide) (by decide))
          refine st_call g12_13_1 rfl (wanted_free rfl) Y ((hcall).mono ?_); clear Y
          rintro e9 w131 ⟨a13, c13, rfl, hf, kk⟩
          replace K1 := keep_onto K1 kk
          replace KA5 := keep_onto KA5 kk
          replace KA6 := KA6.trans kk.all
          replace KA7 := KA7.trans kk.all
          replace KA8 := KA8.trans kk.all
          replace KA9 := KA9.trans kk.all
          replace KA10 := KA10.trans kk.all
          replace B1 := blk_on B1 kk
          replace B9 := blk_on B9 kk
          replace B50 := blk_on B50 kk
          replace B60 := blk_on B60 kk
          replace B72 := blk_on B72 kk
          replace B80 := blk_on B80 kk
          replace B89 := blk_on B89 kk
          replace B100 := blk_on B100 kk
          clear kk
          clear hcall
          have H13 := Lib.hid hf; clear hf
          have KA13 := Keep.refl (fun g => w118.heap.size ≤ g ∧ g < w131.heap.size) w131
          refine ⟨_, rfl, fun a132 e => ?_⟩
          have g83 := R.at_ e (by decide); replace R := R.put e; replace E := E.put e; clear h82; have h83 := g83; clear g83; clear e
          refine st_val g12_13_2 rfl (wanted_free rfl) (ym_ rfl h83) fun a133 e => ?_
          have g81 := R.at_ e (by decide); replace R := R.put e; replace E := E.put e; clear h83; have h81 := g81; clear g81; clear e
          refine st_val g12_13_3 rfl (wanted_free rfl) (ye30_ rfl h81) fun a134 e => ?_
          have g84 := R.at_ e (by decide); replace R := R.put e; replace E := E.put e; replace h81 := so_ e h81; have h84 := g84; clear g84; clear e
          refine st_val g12_13_4 rfl (wanted_free rfl) (ye31_ rfl h81) fun a135 e => ?_
          have g85 := R.at_ e (by decide); replace R := R.put e; replace E := E.put e; replace h81 := so_ e h81; replace h84 := so_ e h84; have h85 := g85; clear g85; clear e
          refine st_val g12_13_5 rfl (wanted_free rfl) (ye32_ rfl h81) fun a136 e => ?_
          have g86 := R.at_ e (by decide); replace R := R.put e; replace E := E.put e; replace h84 := so_ e h84; replace h85 := so_ e h85; clear h81; have h86 := g86; clear g86; clear e
          have Y : (execOp a136.eval o12_13_6).run Try.prog w131 = .ok (.value (.pointer (some ⟨w131.heap.size, 0, none⟩))) (w131.alloc (.cells #[.int .i64 0, .string (⟨#[]⟩), .int .i64 0, .slice none 0 0] 24)) := by unfold o12_13_6; go_simp
          have B137 := Blk.new w131 24 #[.int .i64 0, .string (⟨#[]⟩), .int .i64 0, .slice none 0 0]
          obtain ⟨w138, hw⟩ : ∃ x, x = w131.alloc (.cells #[.int .i64 0, .string (⟨#[]⟩), .int .i64 0, .slice none 0 0] 24) := ⟨_, rfl⟩; rw [← hw] at Y B137
          obtain ⟨b137, hb⟩ : ∃ x, x = w131.heap.size := ⟨_, rfl⟩; rw [← hb] at Y B137
          have Nb1_b137 := nb_ hb B1; replace B1 := ba_ hw B1; have Nb9_b137 := nb_ hb B9; replace B9 := ba_ hw B9; have Nb50_b137 := nb_ hb B50; replace B50 := ba_ hw B50; have Nb60_b137 := nb_ hb B60; replace B60 := ba_ hw B60; have Nb72_b137 := nb_ hb B72; replace B72 := ba_ hw B72; have Nb80_b137 := nb_ hb B80; replace B80 := ba_ hw B80; have Nb89_b137 := nb_ hb B89; replace B89 := ba_ hw B89; have Nb100_b137 := nb_ hb B100; replace B100 := ba_ hw B100; have LK1_b137 := lk_ hb K1; replace K1 := ka_ hw K1; have LKA5_b137 := lk_ hb KA5; replace KA5 := ka_ hw KA5; have LKA6_b137 := lk_ hb KA6; replace KA6 := ka_ hw KA6; have LKA7_b137 := lk_ hb KA7; replace KA7 := ka_ hw KA7; have LKA8_b137 := lk_ hb KA8; replace KA8 := ka_ hw KA8; have LKA9_b137 := lk_ hb KA9; replace KA9 := ka_ hw KA9; have LKA10_b137 := lk_ hb KA10; replace KA10 := ka_ hw KA10; have LKA13_b137 := lk_ hb KA13; replace KA13 := ka_ hw KA13; clear hw hb
          refine st_val g12_13_6 rfl (wanted_free rfl) Y fun a139 e => ?_; clear Y
          have g18 := R.at_ e (by decide); replace R := R.put e; replace E := E.put e; replace h84 := so_ e h84; replace h85 := so_ e h85; replace h86 := so_ e h86; have h18 := g18; clear g18; clear e
          have Y : (execOp a139.eval o12_13_7).run Try.prog w138 = .ok .skip ((((w138.setCell ⟨b137, 0, none⟩ (.int .i64 ((t.tree.ren 1).tm.k))).setCell ⟨b137, 1, none⟩ (.string (str (t.tree.ren 1).tm.nm))).setCell ⟨b137, 2, none⟩ (.int .i64 ((t.tree.ren 1).tm.i))).setCell ⟨b137, 3, none⟩ (.slice a13 (t.tree.ren 1).tm.args.length c13)) := by have qq0 : w138.cell? ⟨b137, 0, none⟩ = some (.int .i64 0) := B137.cell 0; have qq1 : w138.cell? ⟨b137, 1, none⟩ = some (.string (⟨#[]⟩)) := B137.cell 1; have qq2 : w138.cell? ⟨b137, 2, none⟩ = some (.int .i64 0) := B137.cell 2; have qq3 : w138.cell? ⟨b137, 3, none⟩ = some (.slice none 0 0) := B137.cell 3; have z0 := B137.frozen 0; have z1 := B137.frozen 1; have z2 := B137.frozen 2; have z3 := B137.frozen 3; unfold o12_13_7; go_simp
          obtain ⟨w140, hw⟩ : ∃ x, x = ((((w138.setCell ⟨b137, 0, none⟩ (.int .i64 ((t.tree.ren 1).tm.k))).setCell ⟨b137, 1, none⟩ (.string (str (t.tree.ren 1).tm.nm))).setCell ⟨b137, 2, none⟩ (.int .i64 ((t.tree.ren 1).tm.i))).setCell ⟨b137, 3, none⟩ (.slice a13 (t.tree.ren 1).tm.args.length c13)) := ⟨_, rfl⟩; rw [← hw] at Y
          have hk : Keep (fun g => g ≠ b137) w138 w140 := by rw [hw]; exact ((((Keep.refl _ _).setCell (fun h => h rfl) _).setCell (fun h => h rfl) _).setCell (fun h => h rfl) _).setCell (fun h => h rfl) _
          replace K1 := kx_ hk K1 (Nat.not_lt.2 LK1_b137); replace KA5 := kx_ hk KA5 (Nat.not_lt.2 LKA5_b137); replace KA6 := kx_ hk KA6 (fun hx => absurd hx.2 (Nat.not_lt.2 LKA6_b137)); replace KA7 := kx_ hk KA7 (fun hx => absurd hx.2 (Nat.not_lt.2 LKA7_b137)); replace KA8 := kx_ hk KA8 (fun hx => absurd hx.2 (Nat.not_lt.2 LKA8_b137)); replace KA9 := kx_ hk KA9 (fun hx => absurd hx.2 (Nat.not_lt.2 LKA9_b137)); replace KA10 := kx_ hk KA10 (fun hx => absurd hx.2 (Nat.not_lt.2 LKA10_b137)); replace KA13 := kx_ hk KA13 (fun hx => absurd hx.2 (Nat.not_lt.2 LKA13_b137)); replace B1 := bx_ hk B1 Nb1_b137; replace B9 := bx_ hk B9 Nb9_b137; replace B50 := bx_ hk B50 Nb50_b137; replace B60 := bx_ hk B60 Nb60_b137; replace B72 := bx_ hk B72 Nb72_b137; replace B80 := bx_ hk B80 Nb80_b137; replace B89 := bx_ hk B89 Nb89_b137; replace B100 := bx_ hk B100 Nb100_b137; replace B137 : Blk w140 b137 24 #[.int .i64 ((t.tree.ren 1).tm.k), .string (str (t.tree.ren 1).tm.nm), .int .i64 ((t.tree.ren 1).tm.i), .slice a13 (t.tree.ren 1).tm.args.length c13] := (by rw [hw]; exact ((((B137.set_ 0 _).set_ 1 _).set_ 2 _).set_ 3 _)); clear hw hk
          refine st_skip g12_13_7 rfl (wanted_free rfl) Y ?_; clear Y
          refine st_val g12_13_8 rfl (wanted_free rfl) (ya_ rfl h85) fun a141 e => ?_
          replace R := R.put e; replace E := E.put e; replace h18 := so_ e h18; replace h86 := so_ e h86; clear h84 h85; clear e
          refine st_val g12_13_9 rfl (wanted_free rfl) (ya_ rfl h86) fun a142 e => ?_
          replace R := R.put e; replace E := E.put e; replace h18 := so_ e h18; clear h86; clear e
          refine st_end ?_
          replace h2 := E.of h2; replace h4 := E.of h4; replace h5 := E.of h5; replace h6 := E.of h6; replace h8 := E.of h8; replace h11 := E.of h11; clear h12; replace h13 := E.of h13; replace h14 := E.of h14; replace h15 := E.of h15; clear h78; clear E
          change (c12_40).wp _ _ _ _
          refine wp_seq (x := c12_41) (y := c12_42) ?_
          change (Code.region 14 O12_14 false).wp _ _ _ _
          refine reg_in (l := [0, 1]) rfl ?_
          have E := Ag_.refl a142
          refine st_val g12_14_0 rfl (wanted_free rfl) (yl4_ rfl (E.of h6) B60) fun a143 e => ?_
          have g87 := R.at_ e (by decide); replace R := R.put e; replace E := E.put e; have h87 := g87; clear g87; clear e
          obtain ⟨d9, hsl⟩ := (fr_up H6.out KA6).sl4 (R := (fun g => w53.heap.size ≤ g ∧ g < w55.heap.size)) (fun g cs h1 h2 _ _ => ⟨h1, h2⟩)
          have Y : (execOp a143.eval o12_14_1).run Try.prog w140 = .ok (.enter 45 #[.agg #[.int .i64 xr.k, .string (str xr.nm), .int .i64 xr.i, .slice a6 xr.args.length c6]]) w140 := by unfold o12_14_1; go_simp
          have hrw : ∀ g, (fun g => w53.heap.size ≤ g ∧ g < w55.heap.size) g → g < w140.heap.size := fun g h => Nat.lt_of_lt_of_le h.2 KA6.size
          refine st_call g12_14_1 rfl (wanted_free rfl) Y ((spoil_any (RR := (fun g => w53.heap.size ≤ g ∧ g < w55.heap.size)) _ w140 hrw _ _ _ _ _ _ hsl).mono ?_); clear Y
          rintro e9 w144 ⟨rfl, ks⟩
          clear hrw hsl
          replace K1 := K1.trans (ks.kp.less fun g hg h => absurd hg (Nat.not_lt.2 (Nat.le_trans OK1_6 h.1)))
          replace KA5 := KA5.trans (ks.kp.less fun g hg h => absurd hg (Nat.not_lt.2 (Nat.le_trans OKA5_6 h.1)))
          have ZA6 : Keep (fun _ => False) w55 w144 := (KA6.less fun g h => h.elim).trans (ks.kp.less fun g h => h.elim)
          clear KA6
          replace KA7 := KA7.trans (ks.kp.less fun g hg h => absurd h.2 (Nat.not_lt.2 (Nat.le_trans OKA6_7 hg.1)))
          replace KA8 := KA8.trans (ks.kp.less fun g hg h => absurd h.2 (Nat.not_lt.2 (Nat.le_trans OKA6_8 hg.1)))
          replace KA9 := KA9.trans (ks.kp.less fun g hg h => absurd h.2 (Nat.not_lt.2 (Nat.le_trans OKA6_9 hg.1)))
          replace KA10 := KA10.trans (ks.kp.less fun g hg h => absurd h.2 (Nat.not_lt.2 (Nat.le_trans OKA6_10 hg.1)))
          replace KA13 := KA13.trans (ks.kp.less fun g hg h => absurd h.2 (Nat.not_lt.2 (Nat.le_trans OKA6_13 hg.1)))
          replace B1 := B1.keep ks.kp (fun h => absurd h.1 (Nat.not_le.2 E6_b1))
          replace B9 := B9.keep ks.kp (fun h => absurd h.1 (Nat.not_le.2 E6_b9))
          replace B50 := B50.keep ks.kp (fun h => absurd h.1 (Nat.not_le.2 E6_b50))
          replace B60 := B60.keep ks.kp (fun h => absurd h.2 (Nat.not_lt.2 LKA6_b60))
          replace B72 := B72.keep ks.kp (fun h => absurd h.2 (Nat.not_lt.2 LKA6_b72))
          replace B80 := B80.keep ks.kp (fun h => absurd h.2 (Nat.not_lt.2 LKA6_b80))
          replace B89 := B89.keep ks.kp (fun h => absurd h.2 (Nat.not_lt.2 LKA6_b89))
          replace B100 := B100.keep ks.kp (fun h => absurd h.2 (Nat.not_lt.2 LKA6_b100))
          replace B137 := B137.keep ks.kp (fun h => absurd h.2 (Nat.not_lt.2 LKA6_b137))
          clear ks
          refine ⟨_, rfl, fun a145 e => ?_⟩
          replace R := R.put e; replace E := E.put e; clear h87; clear e
          refine st_end ?_
          replace h2 := E.of h2; replace h4 := E.of h4; replace h5 := E.of h5; clear h6; replace h8 := E.of h8; replace h11 := E.of h11; replace h13 := E.of h13; replace h14 := E.of h14; replace h15 := E.of h15; replace h18 := E.of h18; clear E
          change (c12_42).wp _ _ _ _
          refine wp_seq (x := c12_43) (y := c12_44) ?_
          change (Code.region 15 O12_15 false).wp _ _ _ _
          refine reg_in (l := [0, 1]) rfl ?_
          have E := Ag_.refl a145
          refine st_val g12_15_0 rfl (wanted_free rfl) (yl4_ rfl (E.of h8) B72) fun a146 e => ?_
          have g89 := R.at_ e (by decide); replace R := R.put e; replace E := E.put e; have h89 := g89; clear g89; clear e
          obtain ⟨d9, hsl⟩ := (fr_up H7.out KA7).sl4 (R := (fun g => w63.heap.size ≤ g ∧ g < w66.heap.size)) (fun g cs h1 h2 _ _ => ⟨h1, h2⟩)
          have Y : (execOp a146.eval o12_15_1).run Try.prog w144 = .ok (.enter 45 #[.agg #[.int .i64 ((t.tree.ren 1).tm.k), .string (str (t.tree.ren 1).tm.nm), .int .i64 ((t.tree.ren 1).tm.i), .slice a7 (t.tree.ren 1).tm.args.length c7]]) w144 := by unfold o12_15_1; go_simp
          have hrw : ∀ g, (fun g => w63.heap.size ≤ g ∧ g < w66.heap.size) g → g < w144.heap.size := fun g h => Nat.lt_of_lt_of_le h.2 KA7.size
          refine st_call g12_15_1 rfl (wanted_free rfl) Y ((spoil_any (RR := (fun g => w63.heap.size ≤ g ∧ g < w66.heap.size)) _ w144 hrw _ _ _ _ _ _ hsl).mono ?_); clear Y
          rintro e9 w147 ⟨rfl, ks⟩
          clear hrw hsl
          replace K1 := K1.trans (ks.kp.less fun g hg h => absurd hg (Nat.not_lt.2 (Nat.le_trans OK1_7 h.1)))
          replace KA5 := KA5.trans (ks.kp.less fun g hg h => absurd hg (Nat.not_lt.2 (Nat.le_trans OKA5_7 h.1)))
          have ZA7 : Keep (fun _ => False) w66 w147 := (KA7.less fun g h => h.elim).trans (ks.kp.less fun g h => h.elim)
          clear KA7
          replace KA8 := KA8.trans (ks.kp.less fun g hg h => absurd h.2 (Nat.not_lt.2 (Nat.le_trans OKA7_8 hg.1)))
          replace KA9 := KA9.trans (ks.kp.less fun g hg h => absurd h.2 (Nat.not_lt.2 (Nat.le_trans OKA7_9 hg.1)))
          replace KA10 := KA10.trans (ks.kp.less fun g hg h => absurd h.2 (Nat.not_lt.2 (Nat.le_trans OKA7_10 hg.1)))
          replace KA13 := KA13.trans (ks.kp.less fun g hg h => absurd h.2 (Nat.not_lt.2 (Nat.le_trans OKA7_13 hg.1)))
          replace ZA6 := ZA6.trans (ks.kp.less fun g h => h.elim)
          replace B1 := B1.keep ks.kp (fun h => absurd h.1 (Nat.not_le.2 E7_b1))
          replace B9 := B9.keep ks.kp (fun h => absurd h.1 (Nat.not_le.2 E7_b9))
          replace B50 := B50.keep ks.kp (fun h => absurd h.1 (Nat.not_le.2 E7_b50))
          replace B60 := B60.keep ks.kp (fun h => absurd h.1 (Nat.not_le.2 E7_b60))
          replace B72 := B72.keep ks.kp (fun h => absurd h.2 (Nat.not_lt.2 LKA7_b72))
          replace B80 := B80.keep ks.kp (fun h => absurd h.2 (Nat.not_lt.2 LKA7_b80))
          replace B89 := B89.keep ks.kp (fun h => absurd h.2 (Nat.not_lt.2 LKA7_b89))
          replace B100 := B100.keep ks.kp (fun h => absurd h.2 (Nat.not_lt.2 LKA7_b100))
          replace B137 := B137.keep ks.kp (fun h => absurd h.2 (Nat.not_lt.2 LKA7_b137))
          clear ks
          refine ⟨_, rfl, fun a148 e => ?_⟩
          replace R := R.put e; replace E := E.put e; clear h89; clear e
          refine st_end ?_
          replace h2 := E.of h2; replace h4 := E.of h4; replace h5 := E.of h5; clear h8; replace h11 := E.of h11; replace h13 := E.of h13; replace h14 := E.of h14; replace h15 := E.of h15; replace h18 := E.of h18; clear E
          change (c12_44).wp _ _ _ _
          refine wp_seq (x := c12_45) (y := c12_46) ?_
          change (Code.region 16 O12_16 false).wp _ _ _ _
          refine reg_in (l := [0, 1]) rfl ?_
          have E := Ag_.refl a148
          refine st_val g12_16_0 rfl (wanted_free rfl) (yl4_ rfl (E.of h11) B89) fun a149 e => ?_
          have g91 := R.at_ e (by decide); replace R := R.put e; replace E := E.put e; have h91 := g91; clear g91; clear e
          obtain ⟨d9, hsl⟩ := (fr_up H8.out KA8).sl4 (R := (fun g => w81.heap.size ≤ g ∧ g < w84.heap.size)) (fun g cs h1 h2 _ _ => ⟨h1, h2⟩)
          have Y : (execOp a149.eval o12_16_1).run Try.prog w147 = .ok (.enter 45 #[.agg #[.int .i64 lr.k, .string (str lr.nm), .int .i64 lr.i, .slice a8 lr.args.length c8]]) w147 := by unfold o12_16_1; go_simp
          have hrw : ∀ g, (fun g => w81.heap.size ≤ g ∧ g < w84.heap.size) g → g < w147.heap.size := fun g h => Nat.lt_of_lt_of_le h.2 KA8.size
          refine st_call g12_16_1 rfl (wanted_free rfl) Y ((spoil_any (RR := (fun g => w81.heap.size ≤ g ∧ g < w84.heap.size)) _ w147 hrw _ _ _ _ _ _ hsl).mono ?_); clear Y
          rintro e9 w150 ⟨rfl, ks⟩
          clear hrw hsl
          replace K1 := K1.trans (ks.kp.less fun g hg h => absurd hg (Nat.not_lt.2 (Nat.le_trans OK1_8 h.1)))
          replace KA5 := KA5.trans (ks.kp.less fun g hg h => absurd hg (Nat.not_lt.2 (Nat.le_trans OKA5_8 h.1)))
          have ZA8 : Keep (fun _ => False) w84 w150 := (KA8.less fun g h => h.elim).trans (ks.kp.less fun g h => h.elim)
          clear KA8
          replace KA9 := KA9.trans (ks.kp.less fun g hg h => absurd h.2 (Nat.not_lt.2 (Nat.le_trans OKA8_9 hg.1)))
          replace KA10 := KA10.trans (ks.kp.less fun g hg h => absurd h.2 (Nat.not_lt.2 (Nat.le_trans OKA8_10 hg.1)))
          replace KA13 := KA13.trans (ks.kp.less fun g hg h => absurd h.2 (Nat.not_lt.2 (Nat.le_trans OKA8_13 hg.1)))
          replace ZA6 := ZA6.trans (ks.kp.less fun g h => h.elim)
          replace ZA7 := ZA7.trans (ks.kp.less fun g h => h.elim)
          replace B1 := B1.keep ks.kp (fun h => absurd h.1 (Nat.not_le.2 E8_b1))
          replace B9 := B9.keep ks.kp (fun h => absurd h.1 (Nat.not_le.2 E8_b9))
          replace B50 := B50.keep ks.kp (fun h => absurd h.1 (Nat.not_le.2 E8_b50))
          replace B60 := B60.keep ks.kp (fun h => absurd h.1 (Nat.not_le.2 E8_b60))
          replace B72 := B72.keep ks.kp (fun h => absurd h.1 (Nat.not_le.2 E8_b72))
          replace B80 := B80.keep ks.kp (fun h => absurd h.1 (Nat.not_le.2 E8_b80))
          replace B89 := B89.keep ks.kp (fun h => absurd h.2 (Nat.not_lt.2 LKA8_b89))
          replace B100 := B100.keep ks.kp (fun h => absurd h.2 (Nat.not_lt.2 LKA8_b100))
          replace B137 := B137.keep ks.kp (fun h => absurd h.2 (Nat.not_lt.2 LKA8_b137))
          clear ks
          refine ⟨_, rfl, fun a151 e => ?_⟩
          replace R := R.put e; replace E := E.put e; clear h91; clear e
          refine st_end ?_
          replace h2 := E.of h2; replace h4 := E.of h4; replace h5 := E.of h5; clear h11; replace h13 := E.of h13; replace h14 := E.of h14; replace h15 := E.of h15; replace h18 := E.of h18; clear E
          change (c12_46).wp _ _ _ _
          refine wp_seq (x := c12_47) (y := c12_63) ?_
          refine wp_seq (x := c12_48) (y := c12_49) ?_
          change (Code.region 17 O12_17 false).wp _ _ _ _
          refine reg_in (l := [0, 1, 2]) rfl ?_
          have E := Ag_.refl a151
          refine st_val g12_17_0 rfl (wanted_free rfl) (ym_ rfl (E.of h13)) fun a152 e => ?_
          have g93 := R.at_ e (by decide); replace R := R.put e; replace E := E.put e; have h93 := g93; clear g93; clear e
          have Y : (execOp a152.eval o12_17_1).run Try.prog w150 = .ok (.value (.int .i64 ps.length)) w150 := by unfold o12_17_1; go_simp
          refine st_val g12_17_1 rfl (wanted_free rfl) Y fun a153 e => ?_; clear Y
          have g94 := R.at_ e (by decide); replace R := R.put e; replace E := E.put e; replace h93 := so_ e h93; have h94 := g94; clear g94; clear e
          have Y : (execOp a153.eval o12_17_2).run Try.prog w150 = .ok (.value (.int .i64 0)) w150 := by unfold o12_17_2; go_simp
          refine st_val g12_17_2 rfl (wanted_free rfl) Y fun a154 e => ?_; clear Y
          have g95 := R.at_ e (by decide); replace R := R.put e; replace E := E.put e; replace h93 := so_ e h93; replace h94 := so_ e h94; have h95 := g95; clear g95; clear e
          refine st_end ?_
          replace h2 := E.of h2; replace h4 := E.of h4; replace h5 := E.of h5; clear h13; replace h14 := E.of h14; replace h15 := E.of h15; replace h18 := E.of h18; clear E
          change (c12_49).wp _ _ _ _
          refine wp_block (id := 0) (c := c12_50) ?_
          obtain ⟨hrc, hgb, -, hfp, hfe⟩ := H9.out
          obtain ⟨d9, hs9⟩ := Sl4.ofAll (R := (fun g => (w92.heap.size ≤ g ∧ g < w95.heap.size) ∧ ¬ (0 < ps.length ∧ g = g9))) (w := w150) ps (fun p hp => (fr_up (hfp p hp) KA9).sl4 (fun g cs h1 h2 h3 _ => ⟨⟨h1, h2⟩, h3⟩))
          obtain ⟨de, hse⟩ := (fr_up hfe KA9).sl4 (R := (fun g => (w92.heap.size ≤ g ∧ g < w95.heap.size) ∧ ¬ (0 < ps.length ∧ g = g9))) (fun g cs h1 h2 h3 _ => ⟨⟨h1, h2⟩, h3⟩)
          have HS9 := Lib.hid hs9; clear hs9; have HSE := Lib.hid hse; clear hse
          have HRC := Lib.hid (hrc.on KA9 (fun h => hgb h)); clear hrc hgb hfp hfe
          have SP9 : Spo (fun g => (w92.heap.size ≤ g ∧ g < w95.heap.size) ∧ ¬ (0 < ps.length ∧ g = g9)) w150 w150 := Spo.refl _ _
          have HPL : Hid (ps.length ≤ 1000000) := Lib.hid (by have h := H9.out.2.2.1; have h2 := congrArg List.length h; rw [List.length_map] at h2; rw [h2]; exact Nat.le_trans (itV_len lr) (by decide))
          have ZA9 : Keep (fun _ => False) w95 w150 := KA9.less fun g h => h.elim
          clear KA9
          refine wp_loop_ghost (c := c12_51) (fun n f9 w9 => ∃ j : Nat, n = ps.length - j ∧ FrS 128 f9 ∧ f9.tmps[2]? = some (.pointer (some ⟨b1, 0, none⟩)) ∧ f9.tmps[4]? = some (.bool false) ∧ f9.tmps[5]? = some (.pointer (some ⟨b50, 0, none⟩)) ∧ f9.tmps[14]? = some (.pointer (some ⟨b100, 0, none⟩)) ∧ f9.tmps[15]? = some (.slice va bs.length vc) ∧ f9.tmps[18]? = some (.pointer (some ⟨b137, 0, none⟩)) ∧ f9.tmps[93]? = some (.slice ua ps.length uc) ∧ f9.tmps[94]? = some (.int .i64 ps.length) ∧ f9.tmps[95]? = some (.int .i64 (j : Int)) ∧ Keep (fun g => g < W.heap.size) W w9 ∧ Keep (fun g => g < w48.heap.size) w48 w9 ∧ Keep (fun g => w116.heap.size ≤ g ∧ g < w118.heap.size) w118 w9 ∧ Keep (fun g => w118.heap.size ≤ g ∧ g < w131.heap.size) w131 w9 ∧ Keep (fun g => False) w55 w9 ∧ Keep (fun g => False) w66 w9 ∧ Keep (fun g => False) w84 w9 ∧ Keep (fun g => False) w95 w9 ∧ Blk w9 b1 24 #[.int .i64 t.k, .string (str t.nm), .int .i64 t.i, .slice ta t.args.length tc] ∧ Blk w9 b9 24 #[.int .i64 t.k, .string (str t.nm), .int .i64 t.i, .slice ta t.args.length tc] ∧ Blk w9 b50 24 #[.int .i64 ((mapT cpL t).k), .string (str (mapT cpL t).nm), .int .i64 ((mapT cpL t).i), .slice a5 (mapT cpL t).args.length c5] ∧ Blk w9 b60 24 #[.int .i64 xr.k, .string (str xr.nm), .int .i64 xr.i, .slice a6 xr.args.length c6] ∧ Blk w9 b72 24 #[.int .i64 ((t.tree.ren 1).tm.k), .string (str (t.tree.ren 1).tm.nm), .int .i64 ((t.tree.ren 1).tm.i), .slice a7 (t.tree.ren 1).tm.args.length c7] ∧ Blk w9 b80 24 #[.int .i64 t.k, .string (str t.nm), .int .i64 t.i, .slice ta t.args.length tc, .int .i64 t.k, .string (str t.nm), .int .i64 t.i, .slice ta t.args.length tc] ∧ Blk w9 b89 24 #[.int .i64 lr.k, .string (str lr.nm), .int .i64 lr.i, .slice a8 lr.args.length c8] ∧ Blk w9 b100 24 #[.int .i64 te.k, .string (str te.nm), .int .i64 te.i, .slice a9 te.args.length c9] ∧ Blk w9 b137 24 #[.int .i64 ((t.tree.ren 1).tm.k), .string (str (t.tree.ren 1).tm.nm), .int .i64 ((t.tree.ren 1).tm.i), .slice a13 (t.tree.ren 1).tm.args.length c13] ∧ j ≤ ps.length ∧ Spo (fun g => (w92.heap.size ≤ g ∧ g < w95.heap.size) ∧ ¬ (0 < ps.length ∧ g = g9)) w150 w9) (ps.length - 0) ⟨0, rfl, R, h2, h4, h5, h14, h15, h18, h93, h94, h95, K1, KA5, KA10, KA13, ZA6, ZA7, ZA8, ZA9, B1, B9, B50, B60, B72, B80, B89, B100, B137, Nat.zero_le _, SP9⟩ ?_
          clear R h2 h4 h5 h14 h15 h18 h93 h94 h95 K1 KA5 KA10 KA13 ZA6 ZA7 ZA8 ZA9 B1 B9 B50 B60 B72 B80 B89 B100 B137
          rintro n157 a155 w156 ⟨j, rfl, R, h2, h4, h5, h14, h15, h18, h93, h94, h95, K1, KA5, KA10, KA13, ZA6, ZA7, ZA8, ZA9, B1, B9, B50, B60, B72, B80, B89, B100, B137, hj, SP9⟩
          have hpl := HPL.out
          have KP9 := Keep.refl (fun g => g < w156.heap.size) w156
          refine wp_seq (x := c12_52) (y := c12_53) ?_
          change (Code.region 18 O12_18 false).wp _ _ _ _
          refine reg_in (l := [0]) rfl ?_
          have E := Ag_.refl a155
          obtain ⟨b158, hb158⟩ : ∃ x, (decide ((j : Int) < (ps.length : Int))) = x := ⟨_, rfl⟩
          have Y : (execOp a155.eval o12_18_0).run Try.prog w156 = .ok (.value (.bool b158)) w156 := by have r94 := E.of h94; have r95 := E.of h95; rw [← hb158]; unfold o12_18_0; go_simp
          refine st_val g12_18_0 rfl (wanted_free rfl) Y fun a159 e => ?_; clear Y
          have g96 := R.at_ e (by decide); replace R := R.put e; replace E := E.put e; have h96 := g96; clear g96; clear e
          refine st_end ?_
          replace h2 := E.of h2; replace h4 := E.of h4; replace h5 := E.of h5; replace h14 := E.of h14; replace h15 := E.of h15; replace h18 := E.of h18; replace h93 := E.of h93; replace h94 := E.of h94; replace h95 := E.of h95; clear E
          change (c12_53).wp _ _ _ _
          refine wp_seq (x := c12_54) (y := c12_57) ?_
          cases b158 with
          | false =>
            have fb158 := hb158; clear hb158
            simp only [decide_eq_true_eq, decide_eq_false_iff_not, bne_iff_ne, bne_eq_false_iff_eq, beq_iff_eq, beq_eq_false_iff_ne, ne_eq, Bool.not_eq_true', Bool.not_eq_false', Bool.not_eq_eq_eq_not, Bool.not_true, Bool.not_false] at fb158
            refine wp_cond_false (x := Code.skip) (y := c12_56) (eval_slot h96) ?_
            refine wp_exit ?_
            change (c12_63).wp _ _ _ _
            refine wp_seq (x := c12_64) (y := c12_65) ?_
            change (Code.region 22 O12_22 false).wp _ _ _ _
            refine reg_in (l := [0, 1]) rfl ?_
            have E := Ag_.refl a159
            refine st_val g12_22_0 rfl (wanted_free rfl) (yl4_ rfl (E.of h14) B100) fun a160 e => ?_
            have g102 := R.at_ e (by decide); replace R := R.put e; replace E := E.put e; have h102 := g102; clear g102; clear e
            have SPX := SP9.trans (Spo.ofKeep KP9)
            have hsl := Sl4.on _ HSE.out SPX; clear SPX
            have Y : (execOp a160.eval o12_22_1).run Try.prog w156 = .ok (.enter 45 #[.agg #[.int .i64 te.k, .string (str te.nm), .int .i64 te.i, .slice a9 te.args.length c9]]) w156 := by unfold o12_22_1; go_simp
            have hrw : ∀ g, (fun g => (w92.heap.size ≤ g ∧ g < w95.heap.size) ∧ ¬ (0 < ps.length ∧ g = g9)) g → g < w156.heap.size := fun g h => Nat.lt_of_lt_of_le h.1.2 ZA9.size
            refine st_call g12_22_1 rfl (wanted_free rfl) Y ((spoil_any (RR := (fun g => (w92.heap.size ≤ g ∧ g < w95.heap.size) ∧ ¬ (0 < ps.length ∧ g = g9))) _ w156 hrw _ _ _ _ _ _ hsl).mono ?_); clear Y
            rintro e9 w161 ⟨rfl, ks⟩
            clear hrw hsl
            replace K1 := K1.trans (ks.kp.less fun g hg h => absurd hg (Nat.not_lt.2 (Nat.le_trans OK1_9 h.1.1)))
            replace KA5 := KA5.trans (ks.kp.less fun g hg h => absurd hg (Nat.not_lt.2 (Nat.le_trans OKA5_9 h.1.1)))
            replace KA10 := KA10.trans (ks.kp.less fun g hg h => absurd h.1.2 (Nat.not_lt.2 (Nat.le_trans OKA9_10 hg.1)))
            replace KA13 := KA13.trans (ks.kp.less fun g hg h => absurd h.1.2 (Nat.not_lt.2 (Nat.le_trans OKA9_13 hg.1)))
            replace ZA6 := ZA6.trans (ks.kp.less fun g h => h.elim)
            replace ZA7 := ZA7.trans (ks.kp.less fun g h => h.elim)
            replace ZA8 := ZA8.trans (ks.kp.less fun g h => h.elim)
            replace ZA9 := ZA9.trans (ks.kp.less fun g h => h.elim)
            clear KP9
            replace B1 := B1.keep ks.kp (fun h => absurd h.1.1 (Nat.not_le.2 E9_b1))
            replace B9 := B9.keep ks.kp (fun h => absurd h.1.1 (Nat.not_le.2 E9_b9))
            replace B50 := B50.keep ks.kp (fun h => absurd h.1.1 (Nat.not_le.2 E9_b50))
            replace B60 := B60.keep ks.kp (fun h => absurd h.1.1 (Nat.not_le.2 E9_b60))
            replace B72 := B72.keep ks.kp (fun h => absurd h.1.1 (Nat.not_le.2 E9_b72))
            replace B80 := B80.keep ks.kp (fun h => absurd h.1.1 (Nat.not_le.2 E9_b80))
            replace B89 := B89.keep ks.kp (fun h => absurd h.1.1 (Nat.not_le.2 E9_b89))
            replace B100 := B100.keep ks.kp (fun h => absurd h.1.2 (Nat.not_lt.2 LKA9_b100))
            replace B137 := B137.keep ks.kp (fun h => absurd h.1.2 (Nat.not_lt.2 LKA9_b137))
            clear ks
            refine ⟨_, rfl, fun a162 e => ?_⟩
            replace R := R.put e; replace E := E.put e; clear h102; clear e
            refine st_end ?_
            replace h2 := E.of h2; replace h4 := E.of h4; replace h5 := E.of h5; clear h14; replace h15 := E.of h15; replace h18 := E.of h18; replace h93 := E.of h93; replace h94 := E.of h94; replace h95 := E.of h95; replace h96 := E.of h96; clear E
            change (c12_65).wp _ _ _ _
            refine wp_seq (x := c12_66) (y := c12_82) ?_
            refine wp_seq (x := c12_67) (y := c12_68) ?_
            change (Code.region 23 O12_23 false).wp _ _ _ _
            refine reg_in (l := [0, 1, 2]) rfl ?_
            have E := Ag_.refl a162
            refine st_val g12_23_0 rfl (wanted_free rfl) (ym_ rfl (E.of h15)) fun a163 e => ?_
            have g104 := R.at_ e (by decide); replace R := R.put e; replace E := E.put e; have h104 := g104; clear g104; clear e
            have Y : (execOp a163.eval o12_23_1).run Try.prog w161 = .ok (.value (.int .i64 bs.length)) w161 := by unfold o12_23_1; go_simp
            refine st_val g12_23_1 rfl (wanted_free rfl) Y fun a164 e => ?_; clear Y
            have g105 := R.at_ e (by decide); replace R := R.put e; replace E := E.put e; replace h104 := so_ e h104; have h105 := g105; clear g105; clear e
            have Y : (execOp a164.eval o12_23_2).run Try.prog w161 = .ok (.value (.int .i64 0)) w161 := by unfold o12_23_2; go_simp
            refine st_val g12_23_2 rfl (wanted_free rfl) Y fun a165 e => ?_; clear Y
            have g106 := R.at_ e (by decide); replace R := R.put e; replace E := E.put e; replace h104 := so_ e h104; replace h105 := so_ e h105; have h106 := g106; clear g106; clear e
            refine st_end ?_
            replace h2 := E.of h2; replace h4 := E.of h4; replace h5 := E.of h5; clear h15; replace h18 := E.of h18; replace h93 := E.of h93; replace h94 := E.of h94; replace h95 := E.of h95; replace h96 := E.of h96; clear E
            change (c12_68).wp _ _ _ _
            refine wp_block (id := 2) (c := c12_69) ?_
            obtain ⟨hbo, hfp⟩ := H10.out
            obtain ⟨g10, hrb, hg10⟩ := bo_row hbo
            obtain ⟨d9, hs9⟩ := Sl4.ofAll (R := (fun g => (w116.heap.size ≤ g ∧ g < w118.heap.size) ∧ ∃ cs, Blk w161 g 24 cs)) (w := w161) (bs.map (·.2)) (fun p hp => by obtain ⟨q, hq, rfl⟩ := List.mem_map.1 hp; exact (fr_up (hfp q hq) KA10).sl4 (fun g cs h1 h2 _ h4 => ⟨⟨h1, h2⟩, cs, h4⟩))
            have HS10 := Lib.hid hs9; clear hs9
            have HG10 : Hid (0 < bs.length → ∃ cs, Blk w161 g10 41 cs) := Lib.hid fun h => by obtain ⟨h1, cs, h2⟩ := hg10 h; exact ⟨cs, h2.keep KA10 ⟨h1, h2.lt⟩⟩
            have HRB := Lib.hid (hrb.on KA10 (fun h => by obtain ⟨h1, cs, h2⟩ := hg10 h; exact ⟨h1, h2.lt⟩)); clear hrb hg10 hbo hfp
            have HNR : Hid (0 < bs.length → ¬ (fun g => (w116.heap.size ≤ g ∧ g < w118.heap.size) ∧ ∃ cs, Blk w161 g 24 cs) g10) := Lib.hid fun h hr => by obtain ⟨c1, h1⟩ := HG10.out h; obtain ⟨c2, h2⟩ := hr.2; exact absurd rfl (h1.ne_ h2 (by decide))
            have SP10 : Spo (fun g => (w116.heap.size ≤ g ∧ g < w118.heap.size) ∧ ∃ cs, Blk w161 g 24 cs) w161 w161 := Spo.refl _ _
            have HBL : Hid (bs.length ≤ 1000000) := Lib.hid (Nat.le_trans HBLN.out (by decide))
            have ZA10 : Keep (fun _ => False) w118 w161 := KA10.less fun g h => h.elim
            clear KA10
            refine wp_loop_ghost (c := c12_70) (fun n f9 w9 => ∃ i : Nat, n = bs.length - i ∧ FrS 128 f9 ∧ f9.tmps[2]? = some (.pointer (some ⟨b1, 0, none⟩)) ∧ f9.tmps[4]? = some (.bool false) ∧ f9.tmps[5]? = some (.pointer (some ⟨b50, 0, none⟩)) ∧ f9.tmps[18]? = some (.pointer (some ⟨b137, 0, none⟩)) ∧ f9.tmps[93]? = some (.slice ua ps.length uc) ∧ f9.tmps[94]? = some (.int .i64 ps.length) ∧ f9.tmps[95]? = some (.int .i64 (j : Int)) ∧ f9.tmps[96]? = some (.bool false) ∧ f9.tmps[104]? = some (.slice va bs.length vc) ∧ f9.tmps[105]? = some (.int .i64 bs.length) ∧ f9.tmps[106]? = some (.int .i64 (i : Int)) ∧ Keep (fun g => g < W.heap.size) W w9 ∧ Keep (fun g => g < w48.heap.size) w48 w9 ∧ Keep (fun g => w118.heap.size ≤ g ∧ g < w131.heap.size) w131 w9 ∧ Keep (fun g => False) w55 w9 ∧ Keep (fun g => False) w66 w9 ∧ Keep (fun g => False) w84 w9 ∧ Keep (fun g => False) w95 w9 ∧ Keep (fun g => False) w118 w9 ∧ Blk w9 b1 24 #[.int .i64 t.k, .string (str t.nm), .int .i64 t.i, .slice ta t.args.length tc] ∧ Blk w9 b9 24 #[.int .i64 t.k, .string (str t.nm), .int .i64 t.i, .slice ta t.args.length tc] ∧ Blk w9 b50 24 #[.int .i64 ((mapT cpL t).k), .string (str (mapT cpL t).nm), .int .i64 ((mapT cpL t).i), .slice a5 (mapT cpL t).args.length c5] ∧ Blk w9 b60 24 #[.int .i64 xr.k, .string (str xr.nm), .int .i64 xr.i, .slice a6 xr.args.length c6] ∧ Blk w9 b72 24 #[.int .i64 ((t.tree.ren 1).tm.k), .string (str (t.tree.ren 1).tm.nm), .int .i64 ((t.tree.ren 1).tm.i), .slice a7 (t.tree.ren 1).tm.args.length c7] ∧ Blk w9 b80 24 #[.int .i64 t.k, .string (str t.nm), .int .i64 t.i, .slice ta t.args.length tc, .int .i64 t.k, .string (str t.nm), .int .i64 t.i, .slice ta t.args.length tc] ∧ Blk w9 b89 24 #[.int .i64 lr.k, .string (str lr.nm), .int .i64 lr.i, .slice a8 lr.args.length c8] ∧ Blk w9 b100 24 #[.int .i64 te.k, .string (str te.nm), .int .i64 te.i, .slice a9 te.args.length c9] ∧ Blk w9 b137 24 #[.int .i64 ((t.tree.ren 1).tm.k), .string (str (t.tree.ren 1).tm.nm), .int .i64 ((t.tree.ren 1).tm.i), .slice a13 (t.tree.ren 1).tm.args.length c13] ∧ i ≤ bs.length ∧ Spo (fun g => (w116.heap.size ≤ g ∧ g < w118.heap.size) ∧ ∃ cs, Blk w161 g 24 cs) w161 w9) (bs.length - 0) ⟨0, rfl, R, h2, h4, h5, h18, h93, h94, h95, h96, h104, h105, h106, K1, KA5, KA13, ZA6, ZA7, ZA8, ZA9, ZA10, B1, B9, B50, B60, B72, B80, B89, B100, B137, Nat.zero_le _, SP10⟩ ?_
            clear R h2 h4 h5 h18 h93 h94 h95 h96 h104 h105 h106 K1 KA5 KA13 ZA6 ZA7 ZA8 ZA9 ZA10 B1 B9 B50 B60 B72 B80 B89 B100 B137
            rintro n168 a166 w167 ⟨i, rfl, R, h2, h4, h5, h18, h93, h94, h95, h96, h104, h105, h106, K1, KA5, KA13, ZA6, ZA7, ZA8, ZA9, ZA10, B1, B9, B50, B60, B72, B80, B89, B100, B137, hi, SP10⟩
            have hpl := HBL.out
            have KP10 := Keep.refl (fun g => g < w167.heap.size) w167
            refine wp_seq (x := c12_71) (y := c12_72) ?_
            change (Code.region 24 O12_24 false).wp _ _ _ _
            refine reg_in (l := [0]) rfl ?_
            have E := Ag_.refl a166
            obtain ⟨b169, hb169⟩ : ∃ x, (decide ((i : Int) < (bs.length : Int))) = x := ⟨_, rfl⟩
            have Y : (execOp a166.eval o12_24_0).run Try.prog w167 = .ok (.value (.bool b169)) w167 := by have r105 := E.of h105; have r106 := E.of h106; rw [← hb169]; unfold o12_24_0; go_simp
            refine st_val g12_24_0 rfl (wanted_free rfl) Y fun a170 e => ?_; clear Y
            have g107 := R.at_ e (by decide); replace R := R.put e; replace E := E.put e; have h107 := g107; clear g107; clear e
            refine st_end ?_
            replace h2 := E.of h2; replace h4 := E.of h4; replace h5 := E.of h5; replace h18 := E.of h18; replace h93 := E.of h93; replace h94 := E.of h94; replace h95 := E.of h95; replace h96 := E.of h96; replace h104 := E.of h104; replace h105 := E.of h105; replace h106 := E.of h106; clear E
            change (c12_72).wp _ _ _ _
            refine wp_seq (x := c12_73) (y := c12_76) ?_
            cases b169 with
            | false =>
              have fb169 := hb169; clear hb169
              simp only [decide_eq_true_eq, decide_eq_false_iff_not, bne_iff_ne, bne_eq_false_iff_eq, beq_iff_eq, beq_eq_false_iff_ne, ne_eq, Bool.not_eq_true', Bool.not_eq_false', Bool.not_eq_eq_eq_not, Bool.not_true, Bool.not_false] at fb169
              refine wp_cond_false (x := Code.skip) (y := c12_75) (eval_slot h107) ?_
              refine wp_exit ?_
              change (c12_82).wp _ _ _ _
              refine wp_seq (x := c12_83) (y := c12_84) ?_
              change (Code.region 28 O12_28 false).wp _ _ _ _
              refine reg_in (l := [0, 1, 2, 3, 4, 5, 6, 7, 8, 9]) rfl ?_
              have E := Ag_.refl a170
              refine st_val g12_28_0 rfl (wanted_free rfl) (yl4_ rfl (E.of h2) B1) fun a171 e => ?_
              have g115 := R.at_ e (by decide); replace R := R.put e; replace E := E.put e; have h115 := g115; clear g115; clear e
              have Y : (execOp a171.eval o12_28_1).run Try.prog w167 = .ok (.enter 32 #[.agg #[.int .i64 t.k, .string (str t.nm), .int .i64 t.i, .slice ta t.args.length tc], .int .i64 1]) w167 := by unfold o12_28_1; go_simp
              have OK1_28 : W.heap.size ≤ w167.heap.size := K1.size
              have OKA5_28 : w48.heap.size ≤ w167.heap.size := KA5.size
              have OKA13_28 : w131.heap.size ≤ w167.heap.size := KA13.size
              have OZA6_28 : w55.heap.size ≤ w167.heap.size := ZA6.size
              have OZA7_28 : w66.heap.size ≤ w167.heap.size := ZA7.size
              have OZA8_28 : w84.heap.size ≤ w167.heap.size := ZA8.size
              have OZA9_28 : w95.heap.size ≤ w167.heap.size := ZA9.size
              have OZA10_28 : w118.heap.size ≤ w167.heap.size := ZA10.size
              have OKP10_28 : w167.heap.size ≤ w167.heap.size := KP10.size
              have E28_b1 : b1 < w167.heap.size := B1.lt
              have E28_b9 : b9 < w167.heap.size := B9.lt
              have E28_b50 : b50 < w167.heap.size := B50.lt
              have E28_b60 : b60 < w167.heap.size := B60.lt
              have E28_b72 : b72 < w167.heap.size := B72.lt
              have E28_b80 : b80 < w167.heap.size := B80.lt
              have E28_b89 : b89 < w167.heap.size := B89.lt
              have E28_b100 : b100 < w167.heap.size := B100.lt
              have E28_b137 : b137 < w167.heap.size := B137.lt
              have hcall := rename_fr (HT.out.on K1) (m := 1) (by decide) (rnV_eq HR.out (by decide) (by decide))
              refine st_call g12_28_1 rfl (wanted_free rfl) Y ((hcall).mono ?_); clear Y
              rintro e9 w172 ⟨a28, c28, rfl, hf, kk⟩
              replace K1 := keep_onto K1 kk
              replace KA5 := keep_onto KA5 kk
              replace KA13 := KA13.trans kk.all
              replace ZA6 := ZA6.trans kk.all
              replace ZA7 := ZA7.trans kk.all
              replace ZA8 := ZA8.trans kk.all
              replace ZA9 := ZA9.trans kk.all
              replace ZA10 := ZA10.trans kk.all
              replace KP10 := keep_onto KP10 kk
              replace B1 := blk_on B1 kk
              replace B9 := blk_on B9 kk
              replace B50 := blk_on B50 kk
              replace B60 := blk_on B60 kk
              replace B72 := blk_on B72 kk
              replace B80 := blk_on B80 kk
              replace B89 := blk_on B89 kk
              replace B100 := blk_on B100 kk
              replace B137 := blk_on B137 kk
              clear kk
              clear hcall
              have H28 := Lib.hid (hf.at_ (Nat.zero_le _)); clear hf
              have KA28 := Keep.refl (fun g => g < w172.heap.size) w172
              refine ⟨_, rfl, fun a173 e => ?_⟩
              have g116 := R.at_ e (by decide); replace R := R.put e; replace E := E.put e; clear h115; have h116 := g116; clear g116; clear e
              refine st_val g12_28_2 rfl (wanted_free rfl) (ym_ rfl h116) fun a174 e => ?_
              have g114 := R.at_ e (by decide); replace R := R.put e; replace E := E.put e; clear h116; have h114 := g114; clear g114; clear e
              refine st_val g12_28_3 rfl (wanted_free rfl) (ye30_ rfl h114) fun a175 e => ?_
              have g117 := R.at_ e (by decide); replace R := R.put e; replace E := E.put e; replace h114 := so_ e h114; have h117 := g117; clear g117; clear e
              refine st_val g12_28_4 rfl (wanted_free rfl) (ye31_ rfl h114) fun a176 e => ?_
              have g118 := R.at_ e (by decide); replace R := R.put e; replace E := E.put e; replace h114 := so_ e h114; replace h117 := so_ e h117; have h118 := g118; clear g118; clear e
              refine st_val g12_28_5 rfl (wanted_free rfl) (ye32_ rfl h114) fun a177 e => ?_
              have g119 := R.at_ e (by decide); replace R := R.put e; replace E := E.put e; replace h117 := so_ e h117; replace h118 := so_ e h118; clear h114; have h119 := g119; clear g119; clear e
              have Y : (execOp a177.eval o12_28_6).run Try.prog w172 = .ok (.value (.pointer (some ⟨w172.heap.size, 0, none⟩))) (w172.alloc (.cells #[.int .i64 0, .string (⟨#[]⟩), .int .i64 0, .slice none 0 0] 24)) := by unfold o12_28_6; go_simp
              have B178 := Blk.new w172 24 #[.int .i64 0, .string (⟨#[]⟩), .int .i64 0, .slice none 0 0]
              obtain ⟨w179, hw⟩ : ∃ x, x = w172.alloc (.cells #[.int .i64 0, .string (⟨#[]⟩), .int .i64 0, .slice none 0 0] 24) := ⟨_, rfl⟩; rw [← hw] at Y B178
              obtain ⟨b178, hb⟩ : ∃ x, x = w172.heap.size := ⟨_, rfl⟩; rw [← hb] at Y B178
              have Nb1_b178 := nb_ hb B1; replace B1 := ba_ hw B1; have Nb9_b178 := nb_ hb B9; replace B9 := ba_ hw B9; have Nb50_b178 := nb_ hb B50; replace B50 := ba_ hw B50; have Nb60_b178 := nb_ hb B60; replace B60 := ba_ hw B60; have Nb72_b178 := nb_ hb B72; replace B72 := ba_ hw B72; have Nb80_b178 := nb_ hb B80; replace B80 := ba_ hw B80; have Nb89_b178 := nb_ hb B89; replace B89 := ba_ hw B89; have Nb100_b178 := nb_ hb B100; replace B100 := ba_ hw B100; have Nb137_b178 := nb_ hb B137; replace B137 := ba_ hw B137; have LK1_b178 := lk_ hb K1; replace K1 := ka_ hw K1; have LKA5_b178 := lk_ hb KA5; replace KA5 := ka_ hw KA5; have LKA13_b178 := lk_ hb KA13; replace KA13 := ka_ hw KA13; have LZA6_b178 := lk_ hb ZA6; replace ZA6 := ka_ hw ZA6; have LZA7_b178 := lk_ hb ZA7; replace ZA7 := ka_ hw ZA7; have LZA8_b178 := lk_ hb ZA8; replace ZA8 := ka_ hw ZA8; have LZA9_b178 := lk_ hb ZA9; replace ZA9 := ka_ hw ZA9; have LZA10_b178 := lk_ hb ZA10; replace ZA10 := ka_ hw ZA10; have LKP10_b178 := lk_ hb KP10; replace KP10 := ka_ hw KP10; have LKA28_b178 := lk_ hb KA28; replace KA28 := ka_ hw KA28; clear hw hb
              refine st_val g12_28_6 rfl (wanted_free rfl) Y fun a180 e => ?_; clear Y
              have g25 := R.at_ e (by decide); replace R := R.put e; replace E := E.put e; replace h117 := so_ e h117; replace h118 := so_ e h118; replace h119 := so_ e h119; have h25 := g25; clear g25; clear e
              have Y : (execOp a180.eval o12_28_7).run Try.prog w179 = .ok .skip ((((w179.setCell ⟨b178, 0, none⟩ (.int .i64 ((t.tree.ren 1).tm.k))).setCell ⟨b178, 1, none⟩ (.string (str (t.tree.ren 1).tm.nm))).setCell ⟨b178, 2, none⟩ (.int .i64 ((t.tree.ren 1).tm.i))).setCell ⟨b178, 3, none⟩ (.slice a28 (t.tree.ren 1).tm.args.length c28)) := by have qq0 : w179.cell? ⟨b178, 0, none⟩ = some (.int .i64 0) := B178.cell 0; have qq1 : w179.cell? ⟨b178, 1, none⟩ = some (.string (⟨#[]⟩)) := B178.cell 1; have qq2 : w179.cell? ⟨b178, 2, none⟩ = some (.int .i64 0) := B178.cell 2; have qq3 : w179.cell? ⟨b178, 3, none⟩ = some (.slice none 0 0) := B178.cell 3; have z0 := B178.frozen 0; have z1 := B178.frozen 1; have z2 := B178.frozen 2; have z3 := B178.frozen 3; unfold o12_28_7; go_simp
              obtain ⟨w181, hw⟩ : ∃ x, x = ((((w179.setCell ⟨b178, 0, none⟩ (.int .i64 ((t.tree.ren 1).tm.k))).setCell ⟨b178, 1, none⟩ (.string (str (t.tree.ren 1).tm.nm))).setCell ⟨b178, 2, none⟩ (.int .i64 ((t.tree.ren 1).tm.i))).setCell ⟨b178, 3, none⟩ (.slice a28 (t.tree.ren 1).tm.args.length c28)) := ⟨_, rfl⟩; rw [← hw] at Y
              have hk : Keep (fun g => g ≠ b178) w179 w181 := by rw [hw]; exact ((((Keep.refl _ _).setCell (fun h => h rfl) _).setCell (fun h => h rfl) _).setCell (fun h => h rfl) _).setCell (fun h => h rfl) _
              replace K1 := kx_ hk K1 (Nat.not_lt.2 LK1_b178); replace KA5 := kx_ hk KA5 (Nat.not_lt.2 LKA5_b178); replace KA13 := kx_ hk KA13 (fun hx => absurd hx.2 (Nat.not_lt.2 LKA13_b178)); replace ZA6 := kx_ hk ZA6 (fun hx => hx); replace ZA7 := kx_ hk ZA7 (fun hx => hx); replace ZA8 := kx_ hk ZA8 (fun hx => hx); replace ZA9 := kx_ hk ZA9 (fun hx => hx); replace ZA10 := kx_ hk ZA10 (fun hx => hx); replace KP10 := kx_ hk KP10 (Nat.not_lt.2 LKP10_b178); replace KA28 := kx_ hk KA28 (Nat.not_lt.2 LKA28_b178); replace B1 := bx_ hk B1 Nb1_b178; replace B9 := bx_ hk B9 Nb9_b178; replace B50 := bx_ hk B50 Nb50_b178; replace B60 := bx_ hk B60 Nb60_b178; replace B72 := bx_ hk B72 Nb72_b178; replace B80 := bx_ hk B80 Nb80_b178; replace B89 := bx_ hk B89 Nb89_b178; replace B100 := bx_ hk B100 Nb100_b178; replace B137 := bx_ hk B137 Nb137_b178; replace B178 : Blk w181 b178 24 #[.int .i64 ((t.tree.ren 1).tm.k), .string (str (t.tree.ren 1).tm.nm), .int .i64 ((t.tree.ren 1).tm.i), .slice a28 (t.tree.ren 1).tm.args.length c28] := (by rw [hw]; exact ((((B178.set_ 0 _).set_ 1 _).set_ 2 _).set_ 3 _)); clear hw hk
              refine st_skip g12_28_7 rfl (wanted_free rfl) Y ?_; clear Y
              refine st_val g12_28_8 rfl (wanted_free rfl) (ya_ rfl h118) fun a182 e => ?_
              replace R := R.put e; replace E := E.put e; replace h25 := so_ e h25; replace h119 := so_ e h119; clear h117 h118; clear e
              refine st_val g12_28_9 rfl (wanted_free rfl) (ya_ rfl h119) fun a183 e => ?_
              replace R := R.put e; replace E := E.put e; replace h25 := so_ e h25; clear h119; clear e
              refine st_end ?_
              replace h2 := E.of h2; replace h4 := E.of h4; replace h5 := E.of h5; replace h18 := E.of h18; replace h93 := E.of h93; replace h94 := E.of h94; replace h95 := E.of h95; replace h96 := E.of h96; replace h104 := E.of h104; replace h105 := E.of h105; replace h106 := E.of h106; replace h107 := E.of h107; clear E
              change (c12_84).wp _ _ _ _
              refine wp_seq (x := c12_85) (y := Code.ret) ?_
              change (Code.region 29 O12_29 false).wp _ _ _ _
              refine reg_in (l := [0, 1, 2, 3, 4, 5, 6, 7, 8]) rfl ?_
              have E := Ag_.refl a183
              refine st_val g12_29_0 rfl (wanted_free rfl) (yl4_ rfl (E.of h2) B1) fun a184 e => ?_
              have g120 := R.at_ e (by decide); replace R := R.put e; replace E := E.put e; have h120 := g120; clear g120; clear e
              refine st_val g12_29_1 rfl (wanted_free rfl) (yl4_ rfl (E.of h5) B50) fun a185 e => ?_
              have g121 := R.at_ e (by decide); replace R := R.put e; replace E := E.put e; replace h120 := so_ e h120; have h121 := g121; clear g121; clear e
              refine st_call g12_29_2 rfl (wanted_free rfl) (yc2_ en12_38 rfl h120 h121) ((refsame_sx (HT.out.on K1) (H5.out.on KA5) HR.out (cp_right HR.out).1 (cp_right HR.out).2.symm).mono ?_)
              rintro e9 w186 ⟨rfl, kk⟩
              replace K1 := keep_onto K1 kk
              replace KA5 := keep_onto KA5 kk
              replace KA13 := KA13.trans kk.all
              replace ZA6 := ZA6.trans kk.all
              replace ZA7 := ZA7.trans kk.all
              replace ZA8 := ZA8.trans kk.all
              replace ZA9 := ZA9.trans kk.all
              replace ZA10 := ZA10.trans kk.all
              replace KP10 := keep_onto KP10 kk
              replace KA28 := keep_onto KA28 kk
              replace B1 := blk_on B1 kk
              replace B9 := blk_on B9 kk
              replace B50 := blk_on B50 kk
              replace B60 := blk_on B60 kk
              replace B72 := blk_on B72 kk
              replace B80 := blk_on B80 kk
              replace B89 := blk_on B89 kk
              replace B100 := blk_on B100 kk
              replace B137 := blk_on B137 kk
              replace B178 := blk_on B178 kk
              clear kk
              refine ⟨_, rfl, fun a187 e => ?_⟩
              have g122 := R.at_ e (by decide); replace R := R.put e; replace E := E.put e; clear h120 h121; have h122 := g122; clear g122; clear e
              refine st_val g12_29_3 rfl (wanted_free rfl) (ym_ rfl h122) fun a188 e => ?_
              have g123 := R.at_ e (by decide); replace R := R.put e; replace E := E.put e; clear h122; have h123 := g123; clear g123; clear e
              refine st_val g12_29_4 rfl (wanted_is (j := 3) (d := 123) rfl rfl h123 rfl) (yl4_ rfl (E.of h25) B178) fun a189 e => ?_
              have g124 := R.at_ e (by decide); replace R := R.put e; replace E := E.put e; replace h123 := so_ e h123; have h124 := g124; clear g124; clear e
              refine st_val g12_29_5 rfl (wanted_is (j := 3) (d := 123) rfl rfl h123 rfl) (yl4_ rfl (E.of h18) B137) fun a190 e => ?_
              have g125 := R.at_ e (by decide); replace R := R.put e; replace E := E.put e; replace h123 := so_ e h123; replace h124 := so_ e h124; have h125 := g125; clear g125; clear e
              refine st_call g12_29_6 rfl (wanted_is (j := 3) (d := 123) rfl rfl h123 rfl) (yc2_ en12_38 rfl h124 h125) ((refsame_sx (H28.out.on KA28) (fr_at H13.out KA13) (ren_facts (a := 1) (b := 1) HR.out (by decide) (by decide)).1 (ren_facts (a := 1) (b := 1) HR.out (by decide) (by decide)).1 rfl).mono ?_)
              rintro e9 w191 ⟨rfl, kk⟩
              replace K1 := keep_onto K1 kk
              replace KA5 := keep_onto KA5 kk
              replace KA13 := KA13.trans kk.all
              replace ZA6 := ZA6.trans kk.all
              replace ZA7 := ZA7.trans kk.all
              replace ZA8 := ZA8.trans kk.all
              replace ZA9 := ZA9.trans kk.all
              replace ZA10 := ZA10.trans kk.all
              replace KP10 := keep_onto KP10 kk
              replace KA28 := keep_onto KA28 kk
              replace B1 := blk_on B1 kk
              replace B9 := blk_on B9 kk
              replace B50 := blk_on B50 kk
              replace B60 := blk_on B60 kk
              replace B72 := blk_on B72 kk
              replace B80 := blk_on B80 kk
              replace B89 := blk_on B89 kk
              replace B100 := blk_on B100 kk
              replace B137 := blk_on B137 kk
              replace B178 := blk_on B178 kk
              clear kk
              refine ⟨_, rfl, fun a192 e => ?_⟩
              have g126 := R.at_ e (by decide); replace R := R.put e; replace E := E.put e; replace h123 := so_ e h123; clear h124 h125; have h126 := g126; clear g126; clear e
              have Y : (execOp a192.eval o12_29_7).run Try.prog w191 = .ok (.value (.bool true)) w191 := by unfold o12_29_7; go_simp
              refine st_val g12_29_7 rfl (wanted_free rfl) Y fun a193 e => ?_; clear Y
              have g127 := R.at_ e (by decide); replace R := R.put e; replace E := E.put e; clear h123 h126; have h127 := g127; clear g127; clear e
              refine st_val g12_29_8 rfl (wanted_free rfl) (ya_ rfl h127) fun a194 e => ?_
              have g4 := R.at_ e (by decide); replace R := R.put e; replace E := E.put e; clear h127 h4; have h4 := g4; clear g4; clear e
              refine st_end ?_
              clear h2; clear h5; clear h18; clear h25; replace h93 := E.of h93; replace h94 := E.of h94; replace h95 := E.of h95; replace h96 := E.of h96; replace h104 := E.of h104; replace h105 := E.of h105; replace h106 := E.of h106; replace h107 := E.of h107; clear E
              change (Code.ret).wp _ _ _ _
              refine wp_ret ?_
              change bodyPost Try.prog Try.f12 (fun e w' => e = .returned (.bool true) ∧ Keep (fun g => g < W.heap.size) W w') .ret a194 w191
              refine ret_one rfl R h4 ?_
              exact ⟨rfl, K1⟩
            | true =>
              have fb169 := hb169; clear hb169
              simp only [decide_eq_true_eq, decide_eq_false_iff_not, bne_iff_ne, bne_eq_false_iff_eq, beq_iff_eq, beq_eq_false_iff_ne, ne_eq, Bool.not_eq_true', Bool.not_eq_false', Bool.not_eq_eq_eq_not, Bool.not_true, Bool.not_false] at fb169
              refine wp_cond_true (x := Code.skip) (y := c12_75) (eval_slot h107) ?_
              refine wp_skip ?_
              change (c12_76).wp _ _ _ _
              refine wp_seq (x := c12_77) (y := c12_81) ?_
              refine wp_block (id := 3) (c := c12_78) ?_
              refine wp_seq (x := c12_79) (y := c12_80) ?_
              change (Code.region 25 O12_25 false).wp _ _ _ _
              refine reg_in (l := [0, 1, 2, 3]) rfl ?_
              have E := Ag_.refl a170
              obtain ⟨q, hq⟩ : ∃ q, bs[i]? = some q := ⟨_, List.getElem?_eq_getElem (by omega)⟩
              have HQ := Lib.hid hq; clear hq
              have HRD := Lib.hid ((HRB.out.on SP10.kp (fun h => HNR.out h)) i q HQ.out)
              have hltA : (i : Int) < (bs.length : Int) := by omega
              have Y : (execOp a170.eval o12_25_0).run Try.prog w167 = .ok (.value (.pointer (some ⟨g10, i * 5, none⟩))) w167 := by have r104 := E.of h104; have r106 := E.of h106; have hA := HRD.out.1; unfold o12_25_0; go_simp
              refine st_val g12_25_0 rfl (wanted_free rfl) Y fun a195 e => ?_; clear Y
              have g108 := R.at_ e (by decide); replace R := R.put e; replace E := E.put e; have h108 := g108; clear g108; clear e
              have Y : (execOp a195.eval o12_25_1).run Try.prog w167 = .ok (.value (.agg #[.int .i64 q.1, .int .i64 q.2.1.k, .string (str q.2.1.nm), .int .i64 q.2.1.i, .slice q.2.2.1 q.2.1.args.length q.2.2.2])) w167 := by have hc := HRD.out.2; have c0 := hc 0 _ rfl; have c1 := hc 1 _ rfl; have c2 := hc 2 _ rfl; have c3 := hc 3 _ rfl; have c4 := hc 4 _ rfl; clear hc; simp only [Nat.add_zero] at c0; unfold o12_25_1; go_simp
              refine st_val g12_25_1 rfl (wanted_free rfl) Y fun a196 e => ?_; clear Y
              have g109 := R.at_ e (by decide); replace R := R.put e; replace E := E.put e; replace h108 := so_ e h108; have h109 := g109; clear g109; clear e
              have Y : (execOp a196.eval o12_25_2).run Try.prog w167 = .ok (.value (.pointer (some ⟨w167.heap.size, 0, none⟩))) (w167.alloc (.cells #[.int .i64 0, .int .i64 0, .string (⟨#[]⟩), .int .i64 0, .slice none 0 0] 41)) := by unfold o12_25_2; go_simp
              have B197 := Blk.new w167 41 #[.int .i64 0, .int .i64 0, .string (⟨#[]⟩), .int .i64 0, .slice none 0 0]
              obtain ⟨w198, hw⟩ : ∃ x, x = w167.alloc (.cells #[.int .i64 0, .int .i64 0, .string (⟨#[]⟩), .int .i64 0, .slice none 0 0] 41) := ⟨_, rfl⟩; rw [← hw] at Y B197
              obtain ⟨b197, hb⟩ : ∃ x, x = w167.heap.size := ⟨_, rfl⟩; rw [← hb] at Y B197
              have Nb1_b197 := nb_ hb B1; replace B1 := ba_ hw B1; have Nb9_b197 := nb_ hb B9; replace B9 := ba_ hw B9; have Nb50_b197 := nb_ hb B50; replace B50 := ba_ hw B50; have Nb60_b197 := nb_ hb B60; replace B60 := ba_ hw B60; have Nb72_b197 := nb_ hb B72; replace B72 := ba_ hw B72; have Nb80_b197 := nb_ hb B80; replace B80 := ba_ hw B80; have Nb89_b197 := nb_ hb B89; replace B89 := ba_ hw B89; have Nb100_b197 := nb_ hb B100; replace B100 := ba_ hw B100; have Nb137_b197 := nb_ hb B137; replace B137 := ba_ hw B137; have LK1_b197 := lk_ hb K1; replace K1 := ka_ hw K1; have LKA5_b197 := lk_ hb KA5; replace KA5 := ka_ hw KA5; have LKA13_b197 := lk_ hb KA13; replace KA13 := ka_ hw KA13; have LZA6_b197 := lk_ hb ZA6; replace ZA6 := ka_ hw ZA6; have LZA7_b197 := lk_ hb ZA7; replace ZA7 := ka_ hw ZA7; have LZA8_b197 := lk_ hb ZA8; replace ZA8 := ka_ hw ZA8; have LZA9_b197 := lk_ hb ZA9; replace ZA9 := ka_ hw ZA9; have LZA10_b197 := lk_ hb ZA10; replace ZA10 := ka_ hw ZA10; have LKP10_b197 := lk_ hb KP10; replace KP10 := ka_ hw KP10; clear hw hb
              refine st_val g12_25_2 rfl (wanted_free rfl) Y fun a199 e => ?_; clear Y
              have g24 := R.at_ e (by decide); replace R := R.put e; replace E := E.put e; replace h108 := so_ e h108; replace h109 := so_ e h109; have h24 := g24; clear g24; clear e
              have Y : (execOp a199.eval o12_25_3).run Try.prog w198 = .ok .skip (((((w198.setCell ⟨b197, 0, none⟩ (.int .i64 q.1)).setCell ⟨b197, 1, none⟩ (.int .i64 q.2.1.k)).setCell ⟨b197, 2, none⟩ (.string (str q.2.1.nm))).setCell ⟨b197, 3, none⟩ (.int .i64 q.2.1.i)).setCell ⟨b197, 4, none⟩ (.slice q.2.2.1 q.2.1.args.length q.2.2.2)) := by have qq0 : w198.cell? ⟨b197, 0, none⟩ = some (.int .i64 0) := B197.cell 0; have qq1 : w198.cell? ⟨b197, 1, none⟩ = some (.int .i64 0) := B197.cell 1; have qq2 : w198.cell? ⟨b197, 2, none⟩ = some (.string (⟨#[]⟩)) := B197.cell 2; have qq3 : w198.cell? ⟨b197, 3, none⟩ = some (.int .i64 0) := B197.cell 3; have qq4 : w198.cell? ⟨b197, 4, none⟩ = some (.slice none 0 0) := B197.cell 4; have z0 := B197.frozen 0; have z1 := B197.frozen 1; have z2 := B197.frozen 2; have z3 := B197.frozen 3; have z4 := B197.frozen 4; unfold o12_25_3; go_simp
              obtain ⟨w200, hw⟩ : ∃ x, x = (((((w198.setCell ⟨b197, 0, none⟩ (.int .i64 q.1)).setCell ⟨b197, 1, none⟩ (.int .i64 q.2.1.k)).setCell ⟨b197, 2, none⟩ (.string (str q.2.1.nm))).setCell ⟨b197, 3, none⟩ (.int .i64 q.2.1.i)).setCell ⟨b197, 4, none⟩ (.slice q.2.2.1 q.2.1.args.length q.2.2.2)) := ⟨_, rfl⟩; rw [← hw] at Y
              have hk : Keep (fun g => g ≠ b197) w198 w200 := by rw [hw]; exact (((((Keep.refl _ _).setCell (fun h => h rfl) _).setCell (fun h => h rfl) _).setCell (fun h => h rfl) _).setCell (fun h => h rfl) _).setCell (fun h => h rfl) _
              replace K1 := kx_ hk K1 (Nat.not_lt.2 LK1_b197); replace KA5 := kx_ hk KA5 (Nat.not_lt.2 LKA5_b197); replace KA13 := kx_ hk KA13 (fun hx => absurd hx.2 (Nat.not_lt.2 LKA13_b197)); replace ZA6 := kx_ hk ZA6 (fun hx => hx); replace ZA7 := kx_ hk ZA7 (fun hx => hx); replace ZA8 := kx_ hk ZA8 (fun hx => hx); replace ZA9 := kx_ hk ZA9 (fun hx => hx); replace ZA10 := kx_ hk ZA10 (fun hx => hx); replace KP10 := kx_ hk KP10 (Nat.not_lt.2 LKP10_b197); replace B1 := bx_ hk B1 Nb1_b197; replace B9 := bx_ hk B9 Nb9_b197; replace B50 := bx_ hk B50 Nb50_b197; replace B60 := bx_ hk B60 Nb60_b197; replace B72 := bx_ hk B72 Nb72_b197; replace B80 := bx_ hk B80 Nb80_b197; replace B89 := bx_ hk B89 Nb89_b197; replace B100 := bx_ hk B100 Nb100_b197; replace B137 := bx_ hk B137 Nb137_b197; replace B197 : Blk w200 b197 41 #[.int .i64 q.1, .int .i64 q.2.1.k, .string (str q.2.1.nm), .int .i64 q.2.1.i, .slice q.2.2.1 q.2.1.args.length q.2.2.2] := (by rw [hw]; exact (((((B197.set_ 0 _).set_ 1 _).set_ 2 _).set_ 3 _).set_ 4 _)); clear hw hk
              refine st_skip g12_25_3 rfl (wanted_free rfl) Y ?_; clear Y
              refine st_end ?_
              replace h2 := E.of h2; replace h4 := E.of h4; replace h5 := E.of h5; replace h18 := E.of h18; replace h93 := E.of h93; replace h94 := E.of h94; replace h95 := E.of h95; replace h96 := E.of h96; replace h104 := E.of h104; replace h105 := E.of h105; replace h106 := E.of h106; replace h107 := E.of h107; clear E
              change (c12_80).wp _ _ _ _
              change (Code.region 26 O12_26 false).wp _ _ _ _
              refine reg_in (l := [0, 1, 2]) rfl ?_
              have E := Ag_.refl a199
              have Y : (execOp a199.eval o12_26_0).run Try.prog w200 = .ok (.value (.pointer (some ⟨b197, 1, none⟩))) w200 := by have r24 := E.of h24; unfold o12_26_0; go_simp
              refine st_val g12_26_0 rfl (wanted_free rfl) Y fun a201 e => ?_; clear Y
              have g110 := R.at_ e (by decide); replace R := R.put e; replace E := E.put e; have h110 := g110; clear g110; clear e
              have Y : (execOp a201.eval o12_26_1).run Try.prog w200 = .ok (.value (.agg #[.int .i64 q.2.1.k, .string (str q.2.1.nm), .int .i64 q.2.1.i, .slice q.2.2.1 q.2.1.args.length q.2.2.2])) w200 := by have qq0 : w200.cell? ⟨b197, 0, none⟩ = some (.int .i64 q.1) := B197.cell 0; have qq1 : w200.cell? ⟨b197, 1, none⟩ = some (.int .i64 q.2.1.k) := B197.cell 1; have qq2 : w200.cell? ⟨b197, 2, none⟩ = some (.string (str q.2.1.nm)) := B197.cell 2; have qq3 : w200.cell? ⟨b197, 3, none⟩ = some (.int .i64 q.2.1.i) := B197.cell 3; have qq4 : w200.cell? ⟨b197, 4, none⟩ = some (.slice q.2.2.1 q.2.1.args.length q.2.2.2) := B197.cell 4; unfold o12_26_1; go_simp
              refine st_val g12_26_1 rfl (wanted_free rfl) Y fun a202 e => ?_; clear Y
              have g111 := R.at_ e (by decide); replace R := R.put e; replace E := E.put e; replace h110 := so_ e h110; have h111 := g111; clear g111; clear e
              have SPX := SP10.trans (Spo.ofKeep KP10)
              have hsl := Sl4.on _ (HS10.out q.2 (List.mem_map.2 ⟨q, List.mem_of_getElem? HQ.out, rfl⟩)) SPX
              have Y : (execOp a202.eval o12_26_2).run Try.prog w200 = .ok (.enter 45 #[.agg #[.int .i64 q.2.1.k, .string (str q.2.1.nm), .int .i64 q.2.1.i, .slice q.2.2.1 q.2.1.args.length q.2.2.2]]) w200 := by unfold o12_26_2; go_simp
              have hrw : ∀ g, (fun g => (w116.heap.size ≤ g ∧ g < w118.heap.size) ∧ ∃ cs, Blk w161 g 24 cs) g → g < w200.heap.size := fun g h => Nat.lt_of_lt_of_le h.1.2 ZA10.size
              refine st_call g12_26_2 rfl (wanted_free rfl) Y ((spoil_any (RR := (fun g => (w116.heap.size ≤ g ∧ g < w118.heap.size) ∧ ∃ cs, Blk w161 g 24 cs)) _ w200 hrw _ _ _ _ _ _ hsl).mono ?_); clear Y
              rintro e9 w203 ⟨rfl, ks⟩
              clear hrw hsl
              replace K1 := K1.trans (ks.kp.less fun g hg h => absurd hg (Nat.not_lt.2 (Nat.le_trans OK1_10 h.1.1)))
              replace KA5 := KA5.trans (ks.kp.less fun g hg h => absurd hg (Nat.not_lt.2 (Nat.le_trans OKA5_10 h.1.1)))
              replace KA13 := KA13.trans (ks.kp.less fun g hg h => absurd h.1.2 (Nat.not_lt.2 (Nat.le_trans OKA10_13 hg.1)))
              replace ZA6 := ZA6.trans (ks.kp.less fun g h => h.elim)
              replace ZA7 := ZA7.trans (ks.kp.less fun g h => h.elim)
              replace ZA8 := ZA8.trans (ks.kp.less fun g h => h.elim)
              replace ZA9 := ZA9.trans (ks.kp.less fun g h => h.elim)
              replace ZA10 := ZA10.trans (ks.kp.less fun g h => h.elim)
              clear KP10
              replace B1 := B1.keep ks.kp (fun h => absurd h.1.1 (Nat.not_le.2 E10_b1))
              replace B9 := B9.keep ks.kp (fun h => absurd h.1.1 (Nat.not_le.2 E10_b9))
              replace B50 := B50.keep ks.kp (fun h => absurd h.1.1 (Nat.not_le.2 E10_b50))
              replace B60 := B60.keep ks.kp (fun h => absurd h.1.1 (Nat.not_le.2 E10_b60))
              replace B72 := B72.keep ks.kp (fun h => absurd h.1.1 (Nat.not_le.2 E10_b72))
              replace B80 := B80.keep ks.kp (fun h => absurd h.1.1 (Nat.not_le.2 E10_b80))
              replace B89 := B89.keep ks.kp (fun h => absurd h.1.1 (Nat.not_le.2 E10_b89))
              replace B100 := B100.keep ks.kp (fun h => absurd h.1.1 (Nat.not_le.2 E10_b100))
              replace B137 := B137.keep ks.kp (fun h => absurd h.1.2 (Nat.not_lt.2 LKA10_b137))
              replace B197 := B197.keep ks.kp (fun h => absurd h.1.2 (Nat.not_lt.2 LZA10_b197))
              have SP10 := SPX.trans ks; clear SPX
              clear ks
              refine ⟨_, rfl, fun a204 e => ?_⟩
              replace R := R.put e; replace E := E.put e; replace h110 := so_ e h110; replace h111 := so_ e h111; clear e
              refine st_end ?_
              replace h2 := E.of h2; replace h4 := E.of h4; replace h5 := E.of h5; replace h18 := E.of h18; replace h24 := E.of h24; replace h93 := E.of h93; replace h94 := E.of h94; replace h95 := E.of h95; replace h96 := E.of h96; replace h104 := E.of h104; replace h105 := E.of h105; replace h106 := E.of h106; replace h107 := E.of h107; replace h108 := E.of h108; replace h109 := E.of h109; clear E
              change (c12_81).wp _ _ _ _
              change (Code.region 27 O12_27 false).wp _ _ _ _
              refine reg_in (l := [0, 1]) rfl ?_
              have E := Ag_.refl a204
              have Y : (execOp a204.eval o12_27_0).run Try.prog w203 = .ok (.value (.int .i64 ((i : Int) + 1))) w203 := by have r106 := E.of h106; have hwj : IntKind.i64.wrap ((i : Int) + 1) = (i : Int) + 1 := (by rw [IntKind.wrap_i64]; omega); unfold o12_27_0; go_simp
              refine st_val g12_27_0 rfl (wanted_free rfl) Y fun a205 e => ?_; clear Y
              have g113 := R.at_ e (by decide); replace R := R.put e; replace E := E.put e; have h113 := g113; clear g113; clear e
              refine st_val g12_27_1 rfl (wanted_free rfl) (ym_ rfl h113) fun a206 e => ?_
              have g106 := R.at_ e (by decide); replace R := R.put e; replace E := E.put e; replace h113 := so_ e h113; clear h106; have h106 := g106; clear g106; clear e
              refine st_end ?_
              replace h2 := E.of h2; replace h4 := E.of h4; replace h5 := E.of h5; replace h18 := E.of h18; replace h24 := E.of h24; replace h93 := E.of h93; replace h94 := E.of h94; replace h95 := E.of h95; replace h96 := E.of h96; replace h104 := E.of h104; replace h105 := E.of h105; replace h107 := E.of h107; replace h108 := E.of h108; replace h109 := E.of h109; replace h110 := E.of h110; replace h111 := E.of h111; clear E
              exact ⟨_, by omega, i + 1, rfl, R, h2, h4, h5, h18, h93, h94, h95, h96, h104, h105, h106, K1, KA5, KA13, ZA6, ZA7, ZA8, ZA9, ZA10, B1, B9, B50, B60, B72, B80, B89, B100, B137, (by omega), SP10⟩
          | true =>
            have fb158 := hb158; clear hb158
            simp only [decide_eq_true_eq, decide_eq_false_iff_not, bne_iff_ne, bne_eq_false_iff_eq, beq_iff_eq, beq_eq_false_iff_ne, ne_eq, Bool.not_eq_true', Bool.not_eq_false', Bool.not_eq_eq_eq_not, Bool.not_true, Bool.not_false] at fb158
            refine wp_cond_true (x := Code.skip) (y := c12_56) (eval_slot h96) ?_
            refine wp_skip ?_
            change (c12_57).wp _ _ _ _
            refine wp_seq (x := c12_58) (y := c12_62) ?_
            refine wp_block (id := 1) (c := c12_59) ?_
            refine wp_seq (x := c12_60) (y := c12_61) ?_
            change (Code.region 19 O12_19 false).wp _ _ _ _
            refine reg_in (l := [0, 1, 2, 3]) rfl ?_
            have E := Ag_.refl a159
            obtain ⟨p, hp⟩ : ∃ q, ps[j]? = some q := ⟨_, List.getElem?_eq_getElem (by omega)⟩
            have HP := Lib.hid hp; clear hp
            have HRD := Lib.hid ((HRC.out.on SP9.kp (fun h hr => hr.2 ⟨h, rfl⟩)) j p HP.out)
            have hltA : (j : Int) < (ps.length : Int) := by omega
            have Y : (execOp a159.eval o12_19_0).run Try.prog w156 = .ok (.value (.pointer (some ⟨g9, j * 4, none⟩))) w156 := by have r93 := E.of h93; have r95 := E.of h95; have hA := HRD.out.1; unfold o12_19_0; go_simp
            refine st_val g12_19_0 rfl (wanted_free rfl) Y fun a207 e => ?_; clear Y
            have g97 := R.at_ e (by decide); replace R := R.put e; replace E := E.put e; have h97 := g97; clear g97; clear e
            have Y : (execOp a207.eval o12_19_1).run Try.prog w156 = .ok (.value (.agg #[.int .i64 p.1.k, .string (str p.1.nm), .int .i64 p.1.i, .slice p.2.1 p.1.args.length p.2.2])) w156 := by have hc := HRD.out.2; have c0 := hc 0 _ rfl; have c1 := hc 1 _ rfl; have c2 := hc 2 _ rfl; have c3 := hc 3 _ rfl; clear hc; simp only [Nat.add_zero] at c0; unfold o12_19_1; go_simp
            refine st_val g12_19_1 rfl (wanted_free rfl) Y fun a208 e => ?_; clear Y
            have g98 := R.at_ e (by decide); replace R := R.put e; replace E := E.put e; replace h97 := so_ e h97; have h98 := g98; clear g98; clear e
            have Y : (execOp a208.eval o12_19_2).run Try.prog w156 = .ok (.value (.pointer (some ⟨w156.heap.size, 0, none⟩))) (w156.alloc (.cells #[.int .i64 0, .string (⟨#[]⟩), .int .i64 0, .slice none 0 0] 24)) := by unfold o12_19_2; go_simp
            have B209 := Blk.new w156 24 #[.int .i64 0, .string (⟨#[]⟩), .int .i64 0, .slice none 0 0]
            obtain ⟨w210, hw⟩ : ∃ x, x = w156.alloc (.cells #[.int .i64 0, .string (⟨#[]⟩), .int .i64 0, .slice none 0 0] 24) := ⟨_, rfl⟩; rw [← hw] at Y B209
            obtain ⟨b209, hb⟩ : ∃ x, x = w156.heap.size := ⟨_, rfl⟩; rw [← hb] at Y B209
            have Nb1_b209 := nb_ hb B1; replace B1 := ba_ hw B1; have Nb9_b209 := nb_ hb B9; replace B9 := ba_ hw B9; have Nb50_b209 := nb_ hb B50; replace B50 := ba_ hw B50; have Nb60_b209 := nb_ hb B60; replace B60 := ba_ hw B60; have Nb72_b209 := nb_ hb B72; replace B72 := ba_ hw B72; have Nb80_b209 := nb_ hb B80; replace B80 := ba_ hw B80; have Nb89_b209 := nb_ hb B89; replace B89 := ba_ hw B89; have Nb100_b209 := nb_ hb B100; replace B100 := ba_ hw B100; have Nb137_b209 := nb_ hb B137; replace B137 := ba_ hw B137; have LK1_b209 := lk_ hb K1; replace K1 := ka_ hw K1; have LKA5_b209 := lk_ hb KA5; replace KA5 := ka_ hw KA5; have LKA10_b209 := lk_ hb KA10; replace KA10 := ka_ hw KA10; have LKA13_b209 := lk_ hb KA13; replace KA13 := ka_ hw KA13; have LZA6_b209 := lk_ hb ZA6; replace ZA6 := ka_ hw ZA6; have LZA7_b209 := lk_ hb ZA7; replace ZA7 := ka_ hw ZA7; have LZA8_b209 := lk_ hb ZA8; replace ZA8 := ka_ hw ZA8; have LZA9_b209 := lk_ hb ZA9; replace ZA9 := ka_ hw ZA9; have LKP9_b209 := lk_ hb KP9; replace KP9 := ka_ hw KP9; clear hw hb
            refine st_val g12_19_2 rfl (wanted_free rfl) Y fun a211 e => ?_; clear Y
            have g22 := R.at_ e (by decide); replace R := R.put e; replace E := E.put e; replace h97 := so_ e h97; replace h98 := so_ e h98; have h22 := g22; clear g22; clear e
            have Y : (execOp a211.eval o12_19_3).run Try.prog w210 = .ok .skip ((((w210.setCell ⟨b209, 0, none⟩ (.int .i64 p.1.k)).setCell ⟨b209, 1, none⟩ (.string (str p.1.nm))).setCell ⟨b209, 2, none⟩ (.int .i64 p.1.i)).setCell ⟨b209, 3, none⟩ (.slice p.2.1 p.1.args.length p.2.2)) := by have qq0 : w210.cell? ⟨b209, 0, none⟩ = some (.int .i64 0) := B209.cell 0; have qq1 : w210.cell? ⟨b209, 1, none⟩ = some (.string (⟨#[]⟩)) := B209.cell 1; have qq2 : w210.cell? ⟨b209, 2, none⟩ = some (.int .i64 0) := B209.cell 2; have qq3 : w210.cell? ⟨b209, 3, none⟩ = some (.slice none 0 0) := B209.cell 3; have z0 := B209.frozen 0; have z1 := B209.frozen 1; have z2 := B209.frozen 2; have z3 := B209.frozen 3; unfold o12_19_3; go_simp
            obtain ⟨w212, hw⟩ : ∃ x, x = ((((w210.setCell ⟨b209, 0, none⟩ (.int .i64 p.1.k)).setCell ⟨b209, 1, none⟩ (.string (str p.1.nm))).setCell ⟨b209, 2, none⟩ (.int .i64 p.1.i)).setCell ⟨b209, 3, none⟩ (.slice p.2.1 p.1.args.length p.2.2)) := ⟨_, rfl⟩; rw [← hw] at Y
            have hk : Keep (fun g => g ≠ b209) w210 w212 := by rw [hw]; exact ((((Keep.refl _ _).setCell (fun h => h rfl) _).setCell (fun h => h rfl) _).setCell (fun h => h rfl) _).setCell (fun h => h rfl) _
            replace K1 := kx_ hk K1 (Nat.not_lt.2 LK1_b209); replace KA5 := kx_ hk KA5 (Nat.not_lt.2 LKA5_b209); replace KA10 := kx_ hk KA10 (fun hx => absurd hx.2 (Nat.not_lt.2 LKA10_b209)); replace KA13 := kx_ hk KA13 (fun hx => absurd hx.2 (Nat.not_lt.2 LKA13_b209)); replace ZA6 := kx_ hk ZA6 (fun hx => hx); replace ZA7 := kx_ hk ZA7 (fun hx => hx); replace ZA8 := kx_ hk ZA8 (fun hx => hx); replace ZA9 := kx_ hk ZA9 (fun hx => hx); replace KP9 := kx_ hk KP9 (Nat.not_lt.2 LKP9_b209); replace B1 := bx_ hk B1 Nb1_b209; replace B9 := bx_ hk B9 Nb9_b209; replace B50 := bx_ hk B50 Nb50_b209; replace B60 := bx_ hk B60 Nb60_b209; replace B72 := bx_ hk B72 Nb72_b209; replace B80 := bx_ hk B80 Nb80_b209; replace B89 := bx_ hk B89 Nb89_b209; replace B100 := bx_ hk B100 Nb100_b209; replace B137 := bx_ hk B137 Nb137_b209; replace B209 : Blk w212 b209 24 #[.int .i64 p.1.k, .string (str p.1.nm), .int .i64 p.1.i, .slice p.2.1 p.1.args.length p.2.2] := (by rw [hw]; exact ((((B209.set_ 0 _).set_ 1 _).set_ 2 _).set_ 3 _)); clear hw hk
            refine st_skip g12_19_3 rfl (wanted_free rfl) Y ?_; clear Y
            refine st_end ?_
            replace h2 := E.of h2; replace h4 := E.of h4; replace h5 := E.of h5; replace h14 := E.of h14; replace h15 := E.of h15; replace h18 := E.of h18; replace h93 := E.of h93; replace h94 := E.of h94; replace h95 := E.of h95; replace h96 := E.of h96; clear E
            change (c12_61).wp _ _ _ _
            change (Code.region 20 O12_20 false).wp _ _ _ _
            refine reg_in (l := [0, 1]) rfl ?_
            have E := Ag_.refl a211
            refine st_val g12_20_0 rfl (wanted_free rfl) (yl4_ rfl (E.of h22) B209) fun a213 e => ?_
            have g99 := R.at_ e (by decide); replace R := R.put e; replace E := E.put e; have h99 := g99; clear g99; clear e
            have SPX := SP9.trans (Spo.ofKeep KP9)
            have hsl := Sl4.on _ (HS9.out p (List.mem_of_getElem? HP.out)) SPX
            have Y : (execOp a213.eval o12_20_1).run Try.prog w212 = .ok (.enter 45 #[.agg #[.int .i64 p.1.k, .string (str p.1.nm), .int .i64 p.1.i, .slice p.2.1 p.1.args.length p.2.2]]) w212 := by unfold o12_20_1; go_simp
            have hrw : ∀ g, (fun g => (w92.heap.size ≤ g ∧ g < w95.heap.size) ∧ ¬ (0 < ps.length ∧ g = g9)) g → g < w212.heap.size := fun g h => Nat.lt_of_lt_of_le h.1.2 ZA9.size
            refine st_call g12_20_1 rfl (wanted_free rfl) Y ((spoil_any (RR := (fun g => (w92.heap.size ≤ g ∧ g < w95.heap.size) ∧ ¬ (0 < ps.length ∧ g = g9))) _ w212 hrw _ _ _ _ _ _ hsl).mono ?_); clear Y
            rintro e9 w214 ⟨rfl, ks⟩
            clear hrw hsl
            replace K1 := K1.trans (ks.kp.less fun g hg h => absurd hg (Nat.not_lt.2 (Nat.le_trans OK1_9 h.1.1)))
            replace KA5 := KA5.trans (ks.kp.less fun g hg h => absurd hg (Nat.not_lt.2 (Nat.le_trans OKA5_9 h.1.1)))
            replace KA10 := KA10.trans (ks.kp.less fun g hg h => absurd h.1.2 (Nat.not_lt.2 (Nat.le_trans OKA9_10 hg.1)))
            replace KA13 := KA13.trans (ks.kp.less fun g hg h => absurd h.1.2 (Nat.not_lt.2 (Nat.le_trans OKA9_13 hg.1)))
            replace ZA6 := ZA6.trans (ks.kp.less fun g h => h.elim)
            replace ZA7 := ZA7.trans (ks.kp.less fun g h => h.elim)
            replace ZA8 := ZA8.trans (ks.kp.less fun g h => h.elim)
            replace ZA9 := ZA9.trans (ks.kp.less fun g h => h.elim)
            clear KP9
            replace B1 := B1.keep ks.kp (fun h => absurd h.1.1 (Nat.not_le.2 E9_b1))
            replace B9 := B9.keep ks.kp (fun h => absurd h.1.1 (Nat.not_le.2 E9_b9))
            replace B50 := B50.keep ks.kp (fun h => absurd h.1.1 (Nat.not_le.2 E9_b50))
            replace B60 := B60.keep ks.kp (fun h => absurd h.1.1 (Nat.not_le.2 E9_b60))
            replace B72 := B72.keep ks.kp (fun h => absurd h.1.1 (Nat.not_le.2 E9_b72))
            replace B80 := B80.keep ks.kp (fun h => absurd h.1.1 (Nat.not_le.2 E9_b80))
            replace B89 := B89.keep ks.kp (fun h => absurd h.1.1 (Nat.not_le.2 E9_b89))
            replace B100 := B100.keep ks.kp (fun h => absurd h.1.2 (Nat.not_lt.2 LKA9_b100))
            replace B137 := B137.keep ks.kp (fun h => absurd h.1.2 (Nat.not_lt.2 LKA9_b137))
            replace B209 := B209.keep ks.kp (fun h => absurd h.1.2 (Nat.not_lt.2 LZA9_b209))
            have SP9 := SPX.trans ks; clear SPX
            clear ks
            refine ⟨_, rfl, fun a215 e => ?_⟩
            replace R := R.put e; replace E := E.put e; replace h99 := so_ e h99; clear e
            refine st_end ?_
            replace h2 := E.of h2; replace h4 := E.of h4; replace h5 := E.of h5; replace h14 := E.of h14; replace h15 := E.of h15; replace h18 := E.of h18; replace h22 := E.of h22; replace h93 := E.of h93; replace h94 := E.of h94; replace h95 := E.of h95; replace h96 := E.of h96; replace h97 := E.of h97; replace h98 := E.of h98; clear E
            change (c12_62).wp _ _ _ _
            change (Code.region 21 O12_21 false).wp _ _ _ _
            refine reg_in (l := [0, 1]) rfl ?_
            have E := Ag_.refl a215
            have Y : (execOp a215.eval o12_21_0).run Try.prog w214 = .ok (.value (.int .i64 ((j : Int) + 1))) w214 := by have r95 := E.of h95; have hwj : IntKind.i64.wrap ((j : Int) + 1) = (j : Int) + 1 := (by rw [IntKind.wrap_i64]; omega); unfold o12_21_0; go_simp
            refine st_val g12_21_0 rfl (wanted_free rfl) Y fun a216 e => ?_; clear Y
            have g101 := R.at_ e (by decide); replace R := R.put e; replace E := E.put e; have h101 := g101; clear g101; clear e
            refine st_val g12_21_1 rfl (wanted_free rfl) (ym_ rfl h101) fun a217 e => ?_
            have g95 := R.at_ e (by decide); replace R := R.put e; replace E := E.put e; replace h101 := so_ e h101; clear h95; have h95 := g95; clear g95; clear e
            refine st_end ?_
            replace h2 := E.of h2; replace h4 := E.of h4; replace h5 := E.of h5; replace h14 := E.of h14; replace h15 := E.of h15; replace h18 := E.of h18; replace h22 := E.of h22; replace h93 := E.of h93; replace h94 := E.of h94; replace h96 := E.of h96; replace h97 := E.of h97; replace h98 := E.of h98; replace h99 := E.of h99; clear E
            exact ⟨_, by omega, j + 1, rfl, R, h2, h4, h5, h14, h15, h18, h93, h94, h95, K1, KA5, KA10, KA13, ZA6, ZA7, ZA8, ZA9, B1, B9, B50, B60, B72, B80, B89, B100, B137, (by omega), SP9⟩
        | true =>
          have fb128 := hb128; clear hb128
          simp only [decide_eq_true_eq, decide_eq_false_iff_not, bne_iff_ne, bne_eq_false_iff_eq, beq_iff_eq, beq_eq_false_iff_ne, ne_eq, Bool.not_eq_true', Bool.not_eq_false', Bool.not_eq_eq_eq_not, Bool.not_true, Bool.not_false] at fb128
          refine wp_cond_true (x := c12_34) (y := Code.skip) (eval_slot h78) ?_
          refine wp_seq (x := c12_35) (y := Code.ret) ?_
          change (Code.region 12 O12_12 false).wp _ _ _ _
          refine reg_in (l := [0, 1, 2]) rfl ?_
          have E := Ag_.refl a129
          refine st_val g12_12_0 rfl (wanted_free rfl) (ym_ rfl (E.of h12)) fun a218 e => ?_
          have g79 := R.at_ e (by decide); replace R := R.put e; replace E := E.put e; have h79 := g79; clear g79; clear e
          have Y : (execOp a218.eval o12_12_1).run Try.prog w118 = .ok (.value (.bool true)) w118 := by have h70 : le = 70 := (by rcases HLE.out with h | h; omega; exact h); unfold o12_12_1; go_simp
          refine st_val g12_12_1 rfl (wanted_free rfl) Y fun a219 e => ?_; clear Y
          have g80 := R.at_ e (by decide); replace R := R.put e; replace E := E.put e; clear h79; have h80 := g80; clear g80; clear e
          refine st_val g12_12_2 rfl (wanted_free rfl) (ya_ rfl h80) fun a220 e => ?_
          have g4 := R.at_ e (by decide); replace R := R.put e; replace E := E.put e; clear h80 h4; have h4 := g4; clear g4; clear e
          refine st_end ?_
          replace h2 := E.of h2; replace h5 := E.of h5; replace h6 := E.of h6; replace h8 := E.of h8; replace h11 := E.of h11; clear h12; replace h13 := E.of h13; replace h14 := E.of h14; replace h15 := E.of h15; clear h78; clear E
          change (Code.ret).wp _ _ _ _
          refine wp_ret ?_
          change bodyPost Try.prog Try.f12 (fun e w' => e = .returned (.bool true) ∧ Keep (fun g => g < W.heap.size) W w') .ret a220 w118
          refine ret_one rfl R h4 ?_
          exact ⟨rfl, K1⟩
      | true =>
        have fb44 := hb44; clear hb44
        simp only [decide_eq_true_eq, decide_eq_false_iff_not, bne_iff_ne, bne_eq_false_iff_eq, beq_iff_eq, beq_eq_false_iff_ne, ne_eq, Bool.not_eq_true', Bool.not_eq_false', Bool.not_eq_eq_eq_not, Bool.not_true, Bool.not_false] at fb44
        refine wp_cond_true (x := c12_14) (y := Code.skip) (eval_slot h43) ?_
        refine wp_seq (x := c12_15) (y := Code.ret) ?_
        change (Code.region 4 O12_4 false).wp _ _ _ _
        refine reg_in (l := [0]) rfl ?_
        have E := Ag_.refl a46
        have Y : (execOp a46.eval o12_4_0).run Try.prog w29 = .ok (.value (.bool true)) w29 := by unfold o12_4_0; go_simp
        refine st_val g12_4_0 rfl (wanted_free rfl) Y fun a221 e => ?_; clear Y
        have g4 := R.at_ e (by decide); replace R := R.put e; replace E := E.put e; clear h4; have h4 := g4; clear g4; clear e
        refine st_end ?_
        replace h2 := E.of h2; clear h43; clear E
        change (Code.ret).wp _ _ _ _
        refine wp_ret ?_
        change bodyPost Try.prog Try.f12 (fun e w' => e = .returned (.bool true) ∧ Keep (fun g => g < W.heap.size) W w') .ret a221 w29
        refine ret_one rfl R h4 ?_
        exact ⟨rfl, K1⟩
theorem keeps_walk {W : World} {t : Tm} {ta sa : Option Addr} {tc bl sc : Nat} (hT : TmAt W.heap.size W t ta tc) : Calls Try.prog 12 #[tv t ta tc, .slice sa bl sc] W fun e w' => e = .returned (.bool true) ∧ Keep (fun g => g < W.heap.size) W w' := by
  refine enter_sx Try.func12 body12 rfl (by show (2 : Nat) ≤ 128; decide) fun f0 R hs => ?_
  exact keeps_w R (hs 0 _ rfl) (hs 1 _ rfl) (Keep.refl _ W) (Lib.hid hT)
end Go.Proofs.Ythbofkffklejoaa
